/- AcBase, AcLeaf, AcRight: these texts, one behind the other. -/
import Derived.Test.YtannndpamhgknaaGreatDoorXCi0
import Derived.Test.YtannndpamhgknaaGreatDoorXDe0
import Derived.WalkMore
import Derived.Deep.QuietTactic
import Derived.BigQuiet
/- Values, rows of numbers, rows of values in memory; what a call leaves of them. -/
namespace Go.Proofs.YtannndpamhgknaaGreatDoor.Ac
open Go.RowKit

theorem hid {p : Prop} (h : p) : Hid p := h
theorem ret_int {k : IntKind} {a b : Int} (h : a = b) : Ending.returned (.int k a) = .returned (.int k b) := by rw [h]
theorem ret_bool {a b : Bool} (h : a = b) : Ending.returned (.bool a) = .returned (.bool b) := by rw [h]
theorem up_trans {w w1 w2 : World} (h : Below w.heap.size w w1) (k : Below w1.heap.size w1 w2) : Below w.heap.size w w2 := h.trans (k.mono h.size)
theorem up_alloc (w : World) (o : Obj) : Below w.heap.size w (w.alloc o) := (Below.refl _ _).alloc (Nat.le_refl _) o
theorem lt_of_cell {w : World} {p : Addr} {v : Value} (h : w.cell? p = some v) : p.block < w.heap.size := by
  unfold World.cell? at h
  cases hx : w.heap[p.block]? with
  | none => rw [hx] at h; cases h
  | some o => exact (Array.getElem?_eq_some_iff.1 hx).1
theorem key_cut {G T : Prop} (rest : G → T) (key : G) : T := rest key

/-- A row of numbers. -/
def IA (w : World) (v : Value) (xs : List Int) : Prop :=
  ∃ (ad : Option Addr) (cap : Nat), v = .slice ad xs.length cap ∧ (xs.length ≤ 1000000 ∧ xs.length ≤ cap ∧ cap ≤ maxLen) ∧
    ((ad = none ∧ cap = 0 ∧ xs = []) ∨ ∃ b o, ad = some ⟨b, o, none⟩ ∧ b < w.heap.size ∧ ∀ j, j < xs.length → w.cell? ⟨b, o + j, none⟩ = some (.int .i64 (xs.getD j 0)))
theorem IA.on {w w' : World} {v : Value} {xs : List Int} (h : IA w v xs) (hb : Below w.heap.size w w') : IA w' v xs := by
  obtain ⟨ad, cap, h1, h2, h3⟩ := h
  refine ⟨ad, cap, h1, h2, ?_⟩
  rcases h3 with h3 | ⟨b, o, e, hlt, hc⟩
  · exact .inl h3
  · exact .inr ⟨b, o, e, Nat.lt_of_lt_of_le hlt hb.size, fun j hj => (hb.cell hlt).trans (hc j hj)⟩
theorem IA.nil (w : World) : IA w (.slice none 0 0) [] := ⟨none, 0, rfl, ⟨by decide, by decide, by decide⟩, .inl ⟨rfl, rfl, rfl⟩⟩
theorem IA.shape {w : World} {v : Value} {xs : List Int} (h : IA w v xs) : ∃ ad cap, v = .slice ad xs.length cap ∧ xs.length ≤ cap ∧ cap ≤ maxLen ∧ xs.length ≤ 1000000 := by
  obtain ⟨ad, cap, h1, h2, _⟩ := h
  exact ⟨ad, cap, h1, h2.2.1, h2.2.2, h2.1⟩
/-- A row that has some. -/
theorem IA.has {w : World} {v : Value} {xs : List Int} (h : IA w v xs) (hn : 0 < xs.length) : ∃ b o cap, v = .slice (some ⟨b, o, none⟩) xs.length cap ∧ xs.length ≤ cap ∧ cap ≤ maxLen ∧ b < w.heap.size ∧ ∀ j, j < xs.length → w.cell? ⟨b, o + j, none⟩ = some (.int .i64 (xs.getD j 0)) := by
  obtain ⟨ad, cap, h1, h2, h3⟩ := h
  rcases h3 with ⟨_, _, e⟩ | ⟨b, o, e, hlt, hc⟩
  · rw [e] at hn; cases hn
  · exact ⟨b, o, cap, by rw [h1, e], h2.2.1, h2.2.2, hlt, hc⟩
theorem IA.lit (w : World) (xs : List Int) (t : TypeId) (hn : 0 < xs.length) (hm : xs.length ≤ 1000) : IA (w.alloc (.cells (xs.map (fun x => Value.int .i64 x)).toArray t)) (.slice (some ⟨w.heap.size, 0, none⟩) xs.length xs.length) xs := by
  refine ⟨_, _, rfl, ⟨by omega, Nat.le_refl _, by unfold maxLen; omega⟩, .inr ⟨w.heap.size, 0, rfl, by simp, fun j hj => ?_⟩⟩
  have : (w.alloc (.cells (xs.map (fun x => Value.int .i64 x)).toArray t)).heap[w.heap.size]? = some (.cells (xs.map (fun x => Value.int .i64 x)).toArray t) := by
    show (w.heap.push _)[w.heap.size]? = _; simp
  unfold World.cell?
  dsimp only
  rw [this]
  simp [List.getElem?_eq_getElem hj]

structure Val where
  kind : Int
  f : List Int
def nilVal : Val := ⟨0, []⟩
/-- A value. -/
def VA (w : World) (v : Value) (x : Val) : Prop := ∃ fv, v = .agg #[.int .i64 x.kind, fv] ∧ IA w fv x.f
theorem VA.on {w w' : World} {v : Value} {x : Val} (h : VA w v x) (hb : Below w.heap.size w w') : VA w' v x := by
  obtain ⟨fv, h1, h2⟩ := h
  exact ⟨fv, h1, h2.on hb⟩
/-- A row of values. -/
def LA (w : World) (v : Value) (xs : List Val) : Prop :=
  ∃ (ad : Option Addr) (cap : Nat), v = .slice ad xs.length cap ∧ (xs.length ≤ 1000000 ∧ xs.length ≤ cap ∧ cap ≤ maxLen) ∧
    ((ad = none ∧ cap = 0 ∧ xs = []) ∨ ∃ b o, ad = some ⟨b, o, none⟩ ∧ b < w.heap.size ∧ ∀ j, j < xs.length → ∃ fv, w.cell? ⟨b, o + j * 2, none⟩ = some (.int .i64 (xs.getD j nilVal).kind) ∧ w.cell? ⟨b, o + j * 2 + 1, none⟩ = some fv ∧ IA w fv (xs.getD j nilVal).f)
theorem LA.on {w w' : World} {v : Value} {xs : List Val} (h : LA w v xs) (hb : Below w.heap.size w w') : LA w' v xs := by
  obtain ⟨ad, cap, h1, h2, h3⟩ := h
  refine ⟨ad, cap, h1, h2, ?_⟩
  rcases h3 with h3 | ⟨b, o, e, hlt, hc⟩
  · exact .inl h3
  · refine .inr ⟨b, o, e, Nat.lt_of_lt_of_le hlt hb.size, fun j hj => ?_⟩
    obtain ⟨fv, c0, c1, c2⟩ := hc j hj
    exact ⟨fv, (hb.cell hlt).trans c0, (hb.cell hlt).trans c1, c2.on hb⟩

structure Mom where
  y : Int
  m : Int
  d : Int
  h : Int
  i : Int
  s : Int
def momV (r : Mom) : Value := .agg #[.int .i64 r.y, .int .i64 r.m, .int .i64 r.d, .int .i64 r.h, .int .i64 r.i, .int .i64 r.s]

/-- How many numbers a kind has. -/
def fieldsL : List Int := [0, 2, 1, 0, 3, 3, 6, 2, 2, 1, 6]
/-- The two variables: how many numbers a kind has, and what an action stops with. -/
structure Tabs (p : Value) (w : World) : Prop where
  fields : ∀ k : Nat, k < 11 → w.cell? ⟨0, k, none⟩ = some (.int .i64 (fieldsL.getD k 0))
theorem Tabs.on {p : Value} {w w' : World} (h : Tabs p w) (hb : Below w.heap.size w w') : Tabs p w' :=
  ⟨fun k hk => (hb.cell (lt_of_cell (h.fields k hk))).trans (h.fields k hk)⟩
/-- What an action stops with. -/
def boom (p : Value) : List PanicEntry := [{ v := .iface 203 p, recovered := false }]

def inB (n a b : Int) : Bool := decide (a ≤ n) && decide (n ≤ b)
theorem inB_true {n a b : Int} (h1 : a ≤ n) (h2 : n ≤ b) : inB n a b = true := by unfold inB; simp [h1, h2]
theorem inB_false {n a b : Int} (h : n < a ∨ b < n) : inB n a b = false := by unfold inB; simp; omega
theorem inB_iff {n a b : Int} : inB n a b = true ↔ a ≤ n ∧ n ≤ b := by unfold inB; simp

set_option maxHeartbeats 400000 in
theorem within_any (n a b : Int) (w : World) :
    Calls Tryz.prog 78 #[.int .i64 n, .int .i64 a, .int .i64 b] w fun e w' => e = .returned (.bool (inB n a b)) ∧ w' = w := by
  go_enter Tryz.func78, Tryz.ntmps78
  go_wp2
  all_goals
    go_ret
    refine ⟨ret_bool (Bool.eq_iff_iff.2 ?_), rfl⟩
    unfold inB
    simp
    omega

end Go.Proofs.YtannndpamhgknaaGreatDoor.Ac

/- What package act's small functions answer: whether a value is whole, bounded, right; years; signs. -/
namespace Go.Proofs.YtannndpamhgknaaGreatDoor.Ac
open Go.RowKit

theorem cell_of_row {w : World} {b : Nat} {cs : Array Value} {t : TypeId} {fz : Nat × Nat} {o : Nat} (h : w.heap[b]? = some (.cells cs t fz)) : w.cell? ⟨b, o, none⟩ = cs[o]? := by
  unfold World.cell?
  dsimp only
  rw [h]
  simp
theorem new_row (w : World) (o : Obj) : (w.alloc o).heap[w.heap.size]? = some o := by
  show (w.heap.push _)[w.heap.size]? = _; simp

/-- Whether a value is whole. -/
def wholeB (x : Val) : Bool := inB x.kind 1 10 && ((x.f.length : Int) == fieldsL.getD x.kind.toNat 0)

set_option maxHeartbeats 1000000 in
theorem whole_any (p : Value) (x : Val) (v : Value) (w : World) (hv : VA w v x) (hT : Tabs p w) :
    Calls Tryz.prog 55 #[v] w fun e w' => e = .returned (.bool (wholeB x)) ∧ Below w.heap.size w w' := by
  obtain ⟨k, xs⟩ := x
  obtain ⟨fv, rfl, hf⟩ := hv
  obtain ⟨ad, cap, rfl, hl, hc, hm⟩ := hf.shape
  have HW := hid (within_any k 1 10)
  clear hf
  unfold wholeB
  dsimp only at *
  generalize xs.length = n at *
  have HB := hid (up_alloc w (.cells #[.int .i64 k, .slice ad n cap] 27))
  cases hi : inB k 1 10 with
  | false =>
    rw [hi] at HW
    clear hi
    go_enter Tryz.func55, Tryz.ntmps55
    go_wp2
    go_quiet ((go_at_call 78; exact (HW.out _).mono (fun e w' h => ⟨h.1, _, h.2⟩)))
    go_wp2
    go_ret
    exact ⟨ret_bool (by simp), below_drewN HB.out _⟩
  | true =>
    rw [hi] at HW
    obtain ⟨h1, h2⟩ := inB_iff.1 hi
    obtain ⟨m, rfl⟩ := Int.eq_ofNat_of_zero_le (show 0 ≤ k by omega)
    have hc0 := hT.fields m (by omega)
    have hlt := lt_of_cell hc0
    have hc2 := (HB.out.cell (p := ⟨0, m, none⟩) hlt).trans hc0
    have hm11 : (m : Int) < 11 := by omega
    have HE : Hid (fieldsL.getD ((m : Int)).toNat 0 = fieldsL.getD m 0) := hid (by simp)
    rw [HE.out]
    generalize fieldsL.getD m 0 = z at *
    clear hi hT hc0 HE
    go_enter Tryz.func55, Tryz.ntmps55
    go_wp2
    go_quiet ((go_at_call 78; exact (HW.out _).mono (fun e w' h => ⟨h.1, _, h.2⟩)))
    go_wp2
    go_ret
    exact ⟨ret_bool (by simp), below_drewN HB.out _⟩

theorem IA.cell {w : World} {b o : Nat} {xs : List Int} {n cap : Nat} (h : IA w (.slice (some ⟨b, o, none⟩) n cap) xs) (j : Nat) (hj : j < xs.length) : w.cell? ⟨b, o + j, none⟩ = some (.int .i64 (xs.getD j 0)) := by
  obtain ⟨ad, cap, h1, h2, h3⟩ := h
  injection h1 with h1 h4 h5
  rcases h3 with ⟨rfl, _⟩ | ⟨b', o', rfl, hlt, hc⟩
  · cases h1
  · injection h1 with h1
    injection h1 with h1 h6
    subst h1 h6
    exact hc j hj

set_option maxHeartbeats 1000000 in
theorem isDay_any (y m d : Int) (v : Value) (w : World) (h : IA w v [y, m, d]) :
    Calls Tryz.prog 79 #[v] w fun e w' => e = .returned (.bool (Ci.dayB y m d)) ∧ Below w.heap.size w w' := by
  obtain ⟨b, o, cap, rfl, hl, hc, hlt, hcs⟩ := h.has (by simp)
  have c0 := hcs 0 (by simp)
  have c1 := hcs 1 (by simp)
  have c2 := hcs 2 (by simp)
  simp only [List.length_cons, List.length_nil, Nat.zero_add, Nat.reduceAdd, List.getD_cons_zero, List.getD_cons_succ, Nat.add_zero] at *
  have HR : Hid (∀ w, Calls Tryz.prog 80 #[.agg #[.int .i64 y, .int .i64 m, .int .i64 d, .int .i64 0, .int .i64 0, .int .i64 0]] w fun e w' => e = .returned (.bool (Ci.dayB y m d)) ∧ Below w.heap.size w w') := hid fun w => by
    have := Ci.right_any y m d 0 0 0 w
    rwa [show Ci.rtB y m d 0 0 0 = Ci.dayB y m d by unfold Ci.rtB; rw [show Ci.clockB 0 0 0 = true by decide, Bool.and_true]] at this
  generalize Ci.dayB y m d = r at *
  clear h hcs
  go_enter Tryz.func79, Tryz.ntmps79
  go_wp2
  refine Ci.wp_region_ext2 (by kernel_rfl) (by kernel_rfl) (fun hne hcell => ?_)
  repeat (go_big_quiet_step ((go_at_call 80; exact (HR.out _).mono (fun e w' h => ⟨h.1, Ci.Ext.to _ h.2⟩))))
  refine wpQuiet_nil ?_
  rintro _ ⟨s, rfl⟩
  go_wp2
  go_ret
  exact ⟨rfl, s.below⟩

def normB (m s : Int) : Bool := inB m (-999999999999999999) 999999999999999999 && inB s 0 18 && (((De.Dc.norm m s.toNat).1 == m) && (((De.Dc.norm m s.toNat).2 : Int) == s))

set_option maxHeartbeats 1000000 in
theorem isNormed_any (m s : Int) (w : World) :
    Calls Tryz.prog 81 #[.int .i64 m, .int .i64 s] w fun e w' => e = .returned (.bool (normB m s)) ∧ Below w.heap.size w w' := by
  have H1 := hid (within_any m (-999999999999999999) 999999999999999999)
  have H2 := hid (within_any s 0 18)
  unfold normB
  cases h1 : inB m (-999999999999999999) 999999999999999999 with
  | false =>
    rw [h1] at H1
    clear h1
    go_enter Tryz.func81, Tryz.ntmps81
    go_wp2_with fail
    refine (H1.out _).mono ?_
    rintro e w1 ⟨rfl, rfl⟩
    go_wp2
    go_ret
    exact ⟨ret_bool (by simp), Below.refl _ _⟩
  | true =>
    cases h2 : inB s 0 18 with
    | false =>
      rw [h1] at H1
      rw [h2] at H2
      clear h1 h2
      go_enter Tryz.func81, Tryz.ntmps81
      go_wp2_with fail
      refine (H1.out _).mono ?_
      rintro e w1 ⟨rfl, rfl⟩
      go_wp2_with fail
      refine (H2.out _).mono ?_
      rintro e w1 ⟨rfl, rfl⟩
      go_wp2
      go_ret
      exact ⟨ret_bool (by simp), Below.refl _ _⟩
    | true =>
      obtain ⟨a1, a2⟩ := inB_iff.1 h1
      obtain ⟨a3, a4⟩ := inB_iff.1 h2
      obtain ⟨t, rfl⟩ := Int.eq_ofNat_of_zero_le a3
      have HN := hid fun w => De.norm_any m t w (by omega) (by omega) (by omega)
      rw [h1] at H1
      rw [h2] at H2
      rw [Int.toNat_natCast]
      generalize (De.Dc.norm m t).1 = x at *
      generalize (De.Dc.norm m t).2 = y at *
      clear h1 h2
      go_enter Tryz.func81, Tryz.ntmps81
      go_wp2_with fail
      refine (H1.out _).mono ?_
      rintro e w1 ⟨rfl, rfl⟩
      go_wp2_with fail
      refine (H2.out _).mono ?_
      rintro e w1 ⟨rfl, rfl⟩
      go_wp2_with fail
      refine (HN.out _).mono ?_
      rintro e w1 ⟨rfl, hb⟩
      have HB := hid hb
      clear hb
      by_cases hx : x = m
      · subst hx
        go_wp2
        go_ret
        exact ⟨ret_bool (by simp), HB.out⟩
      · have hx2 : (x == m) = false := by simpa using hx
        go_wp2
        go_ret
        exact ⟨ret_bool (by simp [hx]), HB.out⟩

/-- Which of two rows is ahead. -/
def cmpL : List Int → List Int → Int
  | [], [] => 0
  | [], _ :: _ => -1
  | _ :: _, [] => 1
  | a :: l, b :: k => if De.Dc.ord a b = 0 then cmpL l k else De.Dc.ord a b
theorem getD_drop (xs : List Int) (j : Nat) (h : j < xs.length) : xs.drop j = xs.getD j 0 :: xs.drop (j + 1) := by
  rw [List.drop_eq_getElem_cons h, List.getD_eq_getElem?_getD, List.getElem?_eq_getElem h]; rfl

set_option maxHeartbeats 1000000 in
theorem compareL_any (n : Nat) (xs ys : List Int) (v u : Value) (w : World) (hx : IA w v xs) (hy : IA w u ys) (hn : xs.length = n) (hn2 : ys.length = n) (h0 : 0 < n) :
    Calls Tryz.prog 82 #[v, u] w fun e w' => e = .returned (.int .i64 (cmpL xs ys)) ∧ w' = w := by
  obtain ⟨b, o, cap, rfl, hl, hc, hlt, hcs⟩ := hx.has (by omega)
  obtain ⟨b2, o2, cap2, rfl, hl2, hc2, hlt2, hcs2⟩ := hy.has (by omega)
  have hM : xs.length ≤ 1000000 := hx.shape.choose_spec.choose_spec.2.2.2
  rw [hn] at hl hcs hM ⊢
  rw [hn2] at hl2 hcs2 ⊢
  have HX := hid hcs
  have HY := hid hcs2
  have HC := hid De.compare_any
  have HN := hid hn2
  have HL := hid hn
  clear hcs hcs2 hx hy hn hn2
  go_enter Tryz.func82, Tryz.ntmps82
  go_wp2
  go_loop [11] (fun v11 => ∃ j : Nat, j ≤ n ∧ v11 = .int .i64 j ∧ Hid (cmpL (xs.drop j) (ys.drop j) = cmpL xs ys)) (fun v11 => n - (intOf v11).toNat)
  case atStart => exact ⟨0, by omega, rfl, hid (by simp)⟩
  case round =>
    obtain ⟨j, hj, rfl, he⟩ := hrel
    by_cases hlt3 : j < n
    · have hlt4 : (j : Int) < (n : Int) := by omega
      have c0 := HX.out j hlt3
      have c1 := HY.out j hlt3
      have HS : Hid (cmpL xs ys = if De.Dc.ord (xs.getD j 0) (ys.getD j 0) = 0 then cmpL (xs.drop (j + 1)) (ys.drop (j + 1)) else De.Dc.ord (xs.getD j 0) (ys.getD j 0)) := hid (by rw [← he.out, getD_drop xs j (by rw [HL.out]; exact hlt3), getD_drop ys j (by rw [HN.out]; exact hlt3)]; rfl)
      generalize xs.getD j 0 = a at *
      generalize ys.getD j 0 = b at *
      go_wp2_with fail
      refine (HC.out _ _ _).mono ?_
      rintro e w1 ⟨rfl, rfl⟩
      by_cases hz : De.Dc.ord a b = 0
      · have HZ := hid (HS.out.trans (if_pos hz))
        rw [hz]
        clear hz HS
        go_wp2
        go_round
        case rel => exact ⟨j + 1, by omega, by simp, HZ.out.symm⟩
        case measure => simp [intOf]; omega
      · have HZ := hid (HS.out.trans (if_neg hz))
        have hz2 : (De.Dc.ord a b != 0) = true := by simpa using hz
        clear HS
        go_wp2
        go_ret
        exact ⟨ret_int HZ.out.symm, rfl⟩
    · obtain rfl : j = n := by omega
      have HZ : Hid (cmpL xs ys = 0) := hid (by rw [← he.out, List.drop_eq_nil_of_le (by have := HL.out; omega), List.drop_eq_nil_of_le (by have := HN.out; omega)]; rfl)
      go_wp2
      go_ret
      exact ⟨ret_int HZ.out.symm, rfl⟩
end Go.Proofs.YtannndpamhgknaaGreatDoor.Ac

/- Whether a value is right; years; signs. -/
namespace Go.Proofs.YtannndpamhgknaaGreatDoor.Ac
open Go.RowKit

def boundB (k : Int) (f : List Int) : Bool :=
  if k = 4 then Ci.dayB (f.getD 0 0) (f.getD 1 0) (f.getD 2 0)
  else if k = 5 then Ci.clockB (f.getD 0 0) (f.getD 1 0) (f.getD 2 0)
  else if k = 6 then Ci.dayB (f.getD 0 0) (f.getD 1 0) (f.getD 2 0) && Ci.clockB (f.getD 3 0) (f.getD 4 0) (f.getD 5 0)
  else if k = 7 then normB (f.getD 0 0) (f.getD 1 0)
  else if k = 8 then inB (f.getD 0 0) 0 1000000000 && inB (f.getD 1 0) (-999999999999999999) 999999999999999999
  else if k = 9 then inB (f.getD 0 0) 0 9007199254740991
  else if k = 10 then Ci.dayB (f.getD 0 0) (f.getD 1 0) (f.getD 2 0) && Ci.dayB (f.getD 3 0) (f.getD 4 0) (f.getD 5 0) && decide (cmpL (f.take 3) (f.drop 3) ≤ 0)
  else false
def rightB (x : Val) : Bool := wholeB x && boundB x.kind x.f

theorem len1 {f : List Int} (h : f.length = 1) : ∃ a, f = [a] := by
  match f, h with
  | [a], _ => exact ⟨a, rfl⟩
theorem len2 {f : List Int} (h : f.length = 2) : ∃ a b, f = [a, b] := by
  match f, h with
  | [a, b], _ => exact ⟨a, b, rfl⟩
theorem len3 {f : List Int} (h : f.length = 3) : ∃ a b c, f = [a, b, c] := by
  match f, h with
  | [a, b, c], _ => exact ⟨a, b, c, rfl⟩
theorem len6 {f : List Int} (h : f.length = 6) : ∃ a b c d e g, f = [a, b, c, d, e, g] := by
  match f, h with
  | [a, b, c, d, e, g], _ => exact ⟨a, b, c, d, e, g, rfl⟩

theorem clock111 (h i s : Int) : Ci.rtB 1 1 1 h i s = Ci.clockB h i s := by unfold Ci.rtB; rw [show Ci.dayB 1 1 1 = true by decide, Bool.true_and]

set_option maxHeartbeats 1000000 in
theorem bounded_none (k : Int) (ad : Option Addr) (n cap : Nat) (w : World) (hk : k ≠ 4 ∧ k ≠ 5 ∧ k ≠ 6 ∧ k ≠ 7 ∧ k ≠ 8 ∧ k ≠ 9 ∧ k ≠ 10) :
    Calls Tryz.prog 56 #[.int .i64 k, .slice ad n cap] w fun e w' => e = .returned (.bool false) ∧ Below w.heap.size w w' := by
  have h4 : (k == 4) = false := by simp [hk.1]
  have h5 : (k == 5) = false := by simp [hk.2.1]
  have h6 : (k == 6) = false := by simp [hk.2.2.1]
  have h7 : (k == 7) = false := by simp [hk.2.2.2.1]
  have h8 : (k == 8) = false := by simp [hk.2.2.2.2.1]
  have h9 : (k == 9) = false := by simp [hk.2.2.2.2.2.1]
  have h10 : (k == 10) = false := by simp [hk.2.2.2.2.2.2]
  clear hk
  go_enter Tryz.func56, Tryz.ntmps56
  go_wp2
  go_ret
  exact ⟨rfl, Below.refl _ _⟩

set_option maxHeartbeats 1000000 in
theorem bounded_4 (a b c : Int) (v : Value) (w : World) (h : IA w v [a, b, c]) :
    Calls Tryz.prog 56 #[.int .i64 4, v] w fun e w' => e = .returned (.bool (Ci.dayB a b c)) ∧ Below w.heap.size w w' := by
  have HD := hid (isDay_any a b c v w h)
  obtain ⟨ad, cap, rfl, _⟩ := h.shape
  clear h
  go_enter Tryz.func56, Tryz.ntmps56
  go_wp2_with fail
  refine HD.out.mono ?_
  rintro e w1 ⟨rfl, hb⟩
  have HB := hid hb
  clear hb
  go_wp2
  go_ret
  exact ⟨rfl, HB.out⟩

set_option maxHeartbeats 1000000 in
theorem bounded_5 (x y z : Int) (v : Value) (w : World) (h : IA w v [x, y, z]) :
    Calls Tryz.prog 56 #[.int .i64 5, v] w fun e w' => e = .returned (.bool (Ci.clockB x y z)) ∧ Below w.heap.size w w' := by
  obtain ⟨b, o, cap, rfl, hl, hc, hlt, hcs⟩ := h.has (by simp)
  have c0 := hcs 0 (by simp)
  have c1 := hcs 1 (by simp)
  have c2 := hcs 2 (by simp)
  simp only [List.length_cons, List.length_nil, Nat.zero_add, Nat.reduceAdd, List.getD_cons_zero, List.getD_cons_succ, Nat.add_zero] at *
  have HR : Hid (∀ w, Calls Tryz.prog 80 #[.agg #[.int .i64 1, .int .i64 1, .int .i64 1, .int .i64 x, .int .i64 y, .int .i64 z]] w fun e w' => e = .returned (.bool (Ci.clockB x y z)) ∧ Below w.heap.size w w') := hid fun w => by
    have := Ci.right_any 1 1 1 x y z w
    rwa [clock111] at this
  generalize Ci.clockB x y z = r at *
  clear h hcs
  go_enter Tryz.func56, Tryz.ntmps56
  go_wp2
  refine Ci.wp_region_ext2 (by kernel_rfl) (by kernel_rfl) (fun hne hcell => ?_)
  repeat (go_big_quiet_step ((go_at_call 80; exact (HR.out _).mono (fun e w' h => ⟨h.1, Ci.Ext.to _ h.2⟩))))
  refine wpQuiet_nil ?_
  rintro _ ⟨s, rfl⟩
  go_wp2
  go_ret
  exact ⟨rfl, s.below⟩

set_option maxHeartbeats 1000000 in
theorem bounded_6 (x y z x' y' z' : Int) (v : Value) (w : World) (h : IA w v [x, y, z, x', y', z']) :
    Calls Tryz.prog 56 #[.int .i64 6, v] w fun e w' => e = .returned (.bool (Ci.dayB x y z && Ci.clockB x' y' z')) ∧ Below w.heap.size w w' := by
  obtain ⟨b, o, cap, rfl, hl, hc, hlt, hcs⟩ := h.has (by simp)
  have c0 := hcs 0 (by simp)
  have c1 := hcs 1 (by simp)
  have c2 := hcs 2 (by simp)
  have c3 := hcs 3 (by simp)
  have c4 := hcs 4 (by simp)
  have c5 := hcs 5 (by simp)
  simp only [List.length_cons, List.length_nil, Nat.zero_add, Nat.reduceAdd, List.getD_cons_zero, List.getD_cons_succ, Nat.add_zero] at *
  have HR := hid fun w => Ci.right_any x y z x' y' z' w
  rw [show (Ci.dayB x y z && Ci.clockB x' y' z') = Ci.rtB x y z x' y' z' from rfl]
  generalize Ci.rtB x y z x' y' z' = r at *
  clear h hcs
  go_enter Tryz.func56, Tryz.ntmps56
  go_wp2
  refine Ci.wp_region_ext2 (by kernel_rfl) (by kernel_rfl) (fun hne hcell => ?_)
  repeat (go_big_quiet_step ((go_at_call 80; exact (HR.out _).mono (fun e w' h => ⟨h.1, Ci.Ext.to _ h.2⟩))))
  refine wpQuiet_nil ?_
  rintro _ ⟨s, rfl⟩
  go_wp2
  go_ret
  exact ⟨rfl, s.below⟩

set_option maxHeartbeats 1000000 in
theorem bounded_7 (x y : Int) (v : Value) (w : World) (h : IA w v [x, y]) :
    Calls Tryz.prog 56 #[.int .i64 7, v] w fun e w' => e = .returned (.bool (normB x y)) ∧ Below w.heap.size w w' := by
  obtain ⟨b, o, cap, rfl, hl, hc, hlt, hcs⟩ := h.has (by simp)
  have c0 := hcs 0 (by simp)
  have c1 := hcs 1 (by simp)
  simp only [List.length_cons, List.length_nil, Nat.zero_add, Nat.reduceAdd, List.getD_cons_zero, List.getD_cons_succ, Nat.add_zero] at *
  have HR := hid fun w => isNormed_any x y w
  generalize normB x y = r at *
  clear h hcs
  go_enter Tryz.func56, Tryz.ntmps56
  go_wp2
  refine Ci.wp_region_ext2 (by kernel_rfl) (by kernel_rfl) (fun hne hcell => ?_)
  repeat (go_big_quiet_step ((go_at_call 81; exact (HR.out _).mono (fun e w' h => ⟨h.1, Ci.Ext.to _ h.2⟩))))
  refine wpQuiet_nil ?_
  rintro _ ⟨s, rfl⟩
  go_wp2
  go_ret
  exact ⟨rfl, s.below⟩

set_option maxHeartbeats 1000000 in
theorem bounded_8 (x y : Int) (v : Value) (w : World) (h : IA w v [x, y]) :
    Calls Tryz.prog 56 #[.int .i64 8, v] w fun e w' => e = .returned (.bool (inB x 0 1000000000 && inB y (-999999999999999999) 999999999999999999)) ∧ Below w.heap.size w w' := by
  obtain ⟨b, o, cap, rfl, hl, hc, hlt, hcs⟩ := h.has (by simp)
  have c0 := hcs 0 (by simp)
  have c1 := hcs 1 (by simp)
  simp only [List.length_cons, List.length_nil, Nat.zero_add, Nat.reduceAdd, List.getD_cons_zero, List.getD_cons_succ, Nat.add_zero] at *
  have H1 := hid (within_any x 0 1000000000)
  have H2 := hid (within_any y (-999999999999999999) 999999999999999999)
  generalize inB x 0 1000000000 = r1 at *
  generalize inB y (-999999999999999999) 999999999999999999 = r2 at *
  clear h hcs
  cases r1
  · go_enter Tryz.func56, Tryz.ntmps56
    go_wp2_with fail
    refine (H1.out _).mono ?_
    rintro e w1 ⟨rfl, rfl⟩
    go_wp2
    go_ret
    exact ⟨ret_bool (by simp), Below.refl _ _⟩
  · go_enter Tryz.func56, Tryz.ntmps56
    go_wp2_with fail
    refine (H1.out _).mono ?_
    rintro e w1 ⟨rfl, rfl⟩
    go_wp2_with fail
    refine (H2.out _).mono ?_
    rintro e w1 ⟨rfl, rfl⟩
    go_wp2
    go_ret
    exact ⟨ret_bool (by simp), Below.refl _ _⟩

set_option maxHeartbeats 1000000 in
theorem bounded_9 (x : Int) (v : Value) (w : World) (h : IA w v [x]) :
    Calls Tryz.prog 56 #[.int .i64 9, v] w fun e w' => e = .returned (.bool (inB x 0 9007199254740991)) ∧ Below w.heap.size w w' := by
  obtain ⟨b, o, cap, rfl, hl, hc, hlt, hcs⟩ := h.has (by simp)
  have c0 := hcs 0 (by simp)
  simp only [List.length_cons, List.length_nil, Nat.zero_add, List.getD_cons_zero, Nat.add_zero] at *
  have H1 := hid (within_any x 0 9007199254740991)
  generalize inB x 0 9007199254740991 = r1 at *
  clear h hcs
  go_enter Tryz.func56, Tryz.ntmps56
  go_wp2_with fail
  refine (H1.out _).mono ?_
  rintro e w1 ⟨rfl, rfl⟩
  go_wp2
  go_ret
  exact ⟨rfl, Below.refl _ _⟩

theorem IA.front3 {w : World} {b o cap : Nat} {x y z x' y' z' : Int} (h : IA w (.slice (some ⟨b, o, none⟩) 6 cap) [x, y, z, x', y', z']) : IA w (.slice (some ⟨b, o, none⟩) 3 cap) [x, y, z] := by
  obtain ⟨b', o', cap', e, hl, hc, hlt, hcs⟩ := h.has (by simp)
  injection e with e1 e2 e3
  injection e1 with e1
  injection e1 with e1 e4
  subst e1 e3 e4
  refine ⟨_, _, rfl, ⟨by simp, by simp at hl ⊢; omega, hc⟩, .inr ⟨b, o, rfl, hlt, fun j hj => ?_⟩⟩
  have hj2 : j < 3 := by simpa using hj
  rw [hcs j (by simp; omega)]
  match j, hj2 with
  | 0, _ => rfl
  | 1, _ => rfl
  | 2, _ => rfl
theorem IA.back3 {w : World} {b o cap : Nat} {x y z x' y' z' : Int} (h : IA w (.slice (some ⟨b, o, none⟩) 6 cap) [x, y, z, x', y', z']) : IA w (.slice (some ⟨b, o + 3, none⟩) 3 (cap - 3)) [x', y', z'] := by
  obtain ⟨b', o', cap', e, hl, hc, hlt, hcs⟩ := h.has (by simp)
  injection e with e1 e2 e3
  injection e1 with e1
  injection e1 with e1 e4
  subst e1 e3 e4
  refine ⟨_, _, rfl, ⟨by simp, by simp at hl ⊢; omega, by omega⟩, .inr ⟨b, o + 3, rfl, hlt, fun j hj => ?_⟩⟩
  have hj2 : j < 3 := by simpa using hj
  rw [Nat.add_assoc, hcs (3 + j) (by simp; omega)]
  match j, hj2 with
  | 0, _ => rfl
  | 1, _ => rfl
  | 2, _ => rfl

set_option maxRecDepth 8000 in
set_option maxHeartbeats 1000000 in
theorem bounded_10 (x y z x' y' z' : Int) (v : Value) (w : World) (h : IA w v [x, y, z, x', y', z']) :
    Calls Tryz.prog 56 #[.int .i64 10, v] w fun e w' => e = .returned (.bool (Ci.dayB x y z && Ci.dayB x' y' z' && decide (cmpL [x, y, z] [x', y', z'] ≤ 0))) ∧ Below w.heap.size w w' := by
  obtain ⟨b, o, cap, rfl, hl, hc, hlt, hcs⟩ := h.has (by simp)
  simp only [List.length_cons, List.length_nil, Nat.zero_add, Nat.reduceAdd] at *
  have HF : Hid (∀ (s : Ci.Ext w) (a c : Nat) (r : Bool), (a = o ∧ c = cap ∧ r = Ci.dayB x y z) ∨ (a = o + 3 ∧ c = cap - 3 ∧ r = Ci.dayB x' y' z') → Calls Tryz.prog 79 #[.slice (some ⟨b, a, none⟩) 3 c] s.out fun e w' => e = .returned (.bool r) ∧ Below s.out.heap.size s.out w') := hid fun s a c r hr => by
    rcases hr with ⟨rfl, rfl, rfl⟩ | ⟨rfl, rfl, rfl⟩
    · exact isDay_any x y z _ _ (h.front3.on s.below)
    · exact isDay_any x' y' z' _ _ (h.back3.on s.below)
  have HC : Hid (∀ s : Ci.Ext w, Calls Tryz.prog 82 #[.slice (some ⟨b, o, none⟩) 3 cap, .slice (some ⟨b, o + 3, none⟩) 3 (cap - 3)] s.out fun e w' => e = .returned (.int .i64 (cmpL [x, y, z] [x', y', z'])) ∧ w' = s.out) := hid fun s => compareL_any 3 [x, y, z] [x', y', z'] _ _ _ (h.front3.on s.below) (h.back3.on s.below) rfl rfl (by decide)
  generalize Ci.dayB x y z = r1 at *
  generalize Ci.dayB x' y' z' = r2 at *
  generalize cmpL [x, y, z] [x', y', z'] = r3 at *
  clear h hcs
  have hcap : 6 ≤ cap := hl
  have hcap3 : cap ≠ 3 := by omega
  unfold maxLen at hc
  cases r1
  · go_enter Tryz.func56, Tryz.ntmps56
    go_wp2
    refine Ci.wp_region_ext2 (by kernel_rfl) (by kernel_rfl) (fun hne hcell => ?_)
    repeat (go_big_quiet_step ((first | (go_at_call 79; exact (HF.out _ _ _ _ (by first | exact Or.inl ⟨rfl, rfl, rfl⟩ | exact Or.inr ⟨rfl, rfl, rfl⟩)).mono (fun e w' h => ⟨h.1, Ci.Ext.to _ h.2⟩)))))
    refine wpQuiet_nil ?_
    rintro _ ⟨s, rfl⟩
    go_wp2
    go_ret
    exact ⟨ret_bool (by simp), s.below⟩
  · cases r2
    · go_enter Tryz.func56, Tryz.ntmps56
      go_wp2
      refine Ci.wp_region_ext2 (by kernel_rfl) (by kernel_rfl) (fun hne hcell => ?_)
      repeat (go_big_quiet_step ((first | (go_at_call 79; exact (HF.out _ _ _ _ (by first | exact Or.inl ⟨rfl, rfl, rfl⟩ | exact Or.inr ⟨rfl, rfl, rfl⟩)).mono (fun e w' h => ⟨h.1, Ci.Ext.to _ h.2⟩)))))
      refine wpQuiet_nil ?_
      rintro _ ⟨s, rfl⟩
      go_wp2
      go_ret
      exact ⟨ret_bool (by simp), s.below⟩
    · go_enter Tryz.func56, Tryz.ntmps56
      go_wp2
      refine Ci.wp_region_ext2 (by kernel_rfl) (by kernel_rfl) (fun hne hcell => ?_)
      repeat (go_big_quiet_step ((first | (go_at_call 79; exact (HF.out _ _ _ _ (by first | exact Or.inl ⟨rfl, rfl, rfl⟩ | exact Or.inr ⟨rfl, rfl, rfl⟩)).mono (fun e w' h => ⟨h.1, Ci.Ext.to _ h.2⟩)) | (go_at_call 82; exact (HC.out _).mono (fun e w' h => ⟨h.1, _, h.2⟩)))))
      refine wpQuiet_nil ?_
      rintro _ ⟨s, rfl⟩
      go_wp2
      go_ret
      exact ⟨ret_bool (by simp), s.below⟩

theorem len_of_whole {k : Int} {f : List Int} (h : wholeB ⟨k, f⟩ = true) : inB k 1 10 = true ∧ (f.length : Int) = fieldsL.getD k.toNat 0 := by
  unfold wholeB at h
  simpa using h
theorem bounded_any (k : Int) (f : List Int) (v : Value) (w : World) (h : IA w v f) (hw : wholeB ⟨k, f⟩ = true) :
    Calls Tryz.prog 56 #[.int .i64 k, v] w fun e w' => e = .returned (.bool (boundB k f)) ∧ Below w.heap.size w w' := by
  obtain ⟨h1, h2⟩ := len_of_whole hw
  obtain ⟨a1, a2⟩ := inB_iff.1 h1
  have hk : k = 1 ∨ k = 2 ∨ k = 3 ∨ k = 4 ∨ k = 5 ∨ k = 6 ∨ k = 7 ∨ k = 8 ∨ k = 9 ∨ k = 10 := by omega
  rcases hk with rfl | rfl | rfl | rfl | rfl | rfl | rfl | rfl | rfl | rfl
  · obtain ⟨ad, cap, rfl, _⟩ := h.shape; exact bounded_none 1 _ _ _ w (by decide)
  · obtain ⟨ad, cap, rfl, _⟩ := h.shape; exact bounded_none 2 _ _ _ w (by decide)
  · obtain ⟨ad, cap, rfl, _⟩ := h.shape; exact bounded_none 3 _ _ _ w (by decide)
  · obtain ⟨a, b, c, rfl⟩ := len3 (f := f) (by rw [show fieldsL.getD (Int.toNat 4) 0 = 3 by decide] at h2; omega)
    exact bounded_4 a b c v w h
  · obtain ⟨a, b, c, rfl⟩ := len3 (f := f) (by rw [show fieldsL.getD (Int.toNat 5) 0 = 3 by decide] at h2; omega)
    exact bounded_5 a b c v w h
  · obtain ⟨a, b, c, a', b', c', rfl⟩ := len6 (f := f) (by rw [show fieldsL.getD (Int.toNat 6) 0 = 6 by decide] at h2; omega)
    exact bounded_6 a b c a' b' c' v w h
  · obtain ⟨a, b, rfl⟩ := len2 (f := f) (by rw [show fieldsL.getD (Int.toNat 7) 0 = 2 by decide] at h2; omega)
    exact bounded_7 a b v w h
  · obtain ⟨a, b, rfl⟩ := len2 (f := f) (by rw [show fieldsL.getD (Int.toNat 8) 0 = 2 by decide] at h2; omega)
    exact bounded_8 a b v w h
  · obtain ⟨a, rfl⟩ := len1 (f := f) (by rw [show fieldsL.getD (Int.toNat 9) 0 = 1 by decide] at h2; omega)
    exact bounded_9 a v w h
  · obtain ⟨a, b, c, a', b', c', rfl⟩ := len6 (f := f) (by rw [show fieldsL.getD (Int.toNat 10) 0 = 6 by decide] at h2; omega)
    exact bounded_10 a b c a' b' c' v w h

set_option maxHeartbeats 1000000 in
theorem right_any (p : Value) (x : Val) (v : Value) (w : World) (hv : VA w v x) (hT : Tabs p w) :
    Calls Tryz.prog 36 #[v] w fun e w' => e = .returned (.bool (rightB x)) ∧ Below w.heap.size w w' := by
  obtain ⟨k, f⟩ := x
  have HV := hid hv
  obtain ⟨fv, rfl, hf⟩ := hv
  obtain ⟨ad, cap, rfl, hl, hc, hm⟩ := hf.shape
  dsimp only at *
  have HB := hid (up_alloc w (.cells #[.int .i64 k, .slice ad f.length cap] 27))
  have HW := hid (whole_any p ⟨k, f⟩ _ _ (HV.out.on HB.out) (hT.on HB.out))
  have HF := hid hf
  unfold rightB
  dsimp only
  clear hf hT
  cases hx : wholeB ⟨k, f⟩ with
  | false =>
    rw [hx] at HW
    clear hx
    generalize f.length = n at *
    go_enter Tryz.func36, Tryz.ntmps36
    go_wp2_with fail
    refine HW.out.mono ?_
    rintro e w1 ⟨rfl, hb⟩
    have HB1 := hid (up_trans HB.out hb)
    clear hb
    go_wp2
    go_ret
    exact ⟨ret_bool (by simp), HB1.out⟩
  | true =>
    have HX := hid hx
    rw [hx] at HW
    have HBD : Hid (∀ w', Below w.heap.size w w' → Calls Tryz.prog 56 #[.int .i64 k, .slice ad f.length cap] w' fun e w2 => e = .returned (.bool (boundB k f)) ∧ Below w'.heap.size w' w2) := hid fun w' hb => bounded_any k f _ w' (HF.out.on hb) HX.out
    clear hx
    generalize boundB k f = r at *
    generalize f.length = n at *
    go_enter Tryz.func36, Tryz.ntmps36
    go_wp2_with fail
    refine HW.out.mono ?_
    rintro e w1 ⟨rfl, hb⟩
    have HB1 := hid (up_trans HB.out hb)
    have hr := (hb.block w.heap.size (by simp)).trans (new_row w _)
    have c0 := cell_of_row (o := 0) hr
    have c1 := cell_of_row (o := 1) hr
    simp only [List.getElem?_toArray, List.getElem?_cons_zero, List.getElem?_cons_succ] at c0 c1
    clear hb hr
    go_wp2_with fail
    refine (HBD.out _ HB1.out).mono ?_
    rintro e w2 ⟨rfl, hb2⟩
    have HB2 := hid (up_trans HB1.out hb2)
    clear hb2
    go_wp2
    go_ret
    exact ⟨ret_bool (by simp), HB2.out⟩
end Go.Proofs.YtannndpamhgknaaGreatDoor.Ac
