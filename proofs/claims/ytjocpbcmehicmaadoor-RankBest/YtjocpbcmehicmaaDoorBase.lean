/- Rows of numbers and values in memory, how two values are held: in the reference and in cmp, slices. -/
import Derived.Test.YtjocpbcmehicmaaDoorProg
import Derived.WalkKit
import Derived.WalkSpells
import Derived.WalkSmall
import Derived.WalkMore
import Derived.ScopeJumps
import Derived.Laws.Rows
import Derived.Deep.QuietTactic
import Derived.BigQuiet
import Derived.Deep.RegionLaw
import Derived.RegionTactic
namespace Go.Proofs.YtjocpbcmehicmaaDoor
open Go.RowKit

/-- order -/
def ord (a b : Int) : Int := if a < b then -1 else if b < a then 1 else 0
theorem ord_self (a : Int) : ord a a = 0 := by unfold ord; rw [if_neg (by omega), if_neg (by omega)]
theorem ord_lt {a b : Int} (h : a < b) : ord a b = -1 := by unfold ord; rw [if_pos h]
theorem ord_gt {a b : Int} (h : b < a) : ord a b = 1 := by unfold ord; rw [if_neg (by omega), if_pos h]
theorem ord_turn (a b : Int) : ord b a = 0 - ord a b := by
  unfold ord
  by_cases h1 : a < b
  · rw [if_pos h1, if_neg (by omega), if_pos h1]; rfl
  · by_cases h2 : b < a
    · rw [if_pos h2, if_neg h1, if_pos h2]; rfl
    · rw [if_neg h2, if_neg h1, if_neg h1, if_neg h2]; rfl
theorem ord_pos {a b : Int} : 0 < ord a b ↔ b < a := by
  unfold ord; split
  · omega
  · split <;> omega
theorem ord_bd (a b : Int) : -1 ≤ ord a b ∧ ord a b ≤ 1 := by
  unfold ord; split
  · omega
  · split <;> omega
set_option maxHeartbeats 400000 in
theorem nan_any (a : Int) (w : World) :
    Calls Tryd.prog 57 #[.int .i64 a] w fun e w' => e = .returned (.bool false) ∧ w' = w := by
  go_enter Tryd.func57, Tryd.ntmps57
  go_wp2
  go_ret
  exact ⟨rfl, rfl⟩

set_option maxHeartbeats 400000 in
theorem compare_any (a b : Int) (w : World) :
    Calls Tryd.prog 45 #[.int .i64 a, .int .i64 b] w fun e w' => e = .returned (.int .i64 (ord a b)) ∧ w' = w := by
  have h : a < b ∨ b < a ∨ a = b := by omega
  rcases h with h | h | h
  · rw [ord_lt h]
    go_enter Tryd.func45, Tryd.ntmps45
    go_wp2_with (go_at_call 57; refine (nan_any _ _).mono ?_; rintro e w' ⟨rfl, rfl⟩)
    go_ret
    exact ⟨rfl, rfl⟩
  · rw [ord_gt h]
    go_enter Tryd.func45, Tryd.ntmps45
    go_wp2_with (go_at_call 57; refine (nan_any _ _).mono ?_; rintro e w' ⟨rfl, rfl⟩)
    go_ret
    exact ⟨rfl, rfl⟩
  · subst h
    rw [ord_self]
    go_enter Tryd.func45, Tryd.ntmps45
    go_wp2_with (go_at_call 57; refine (nan_any _ _).mono ?_; rintro e w' ⟨rfl, rfl⟩)
    go_ret
    exact ⟨rfl, rfl⟩

theorem hid {p : Prop} (h : p) : Hid p := h
theorem ret_int {k : IntKind} {a b : Int} (h : a = b) : Ending.returned (.int k a) = .returned (.int k b) := by rw [h]
theorem ret_bool {a b : Bool} (h : a = b) : Ending.returned (.bool a) = .returned (.bool b) := by rw [h]
theorem up_trans {w w1 w2 : World} (h : Below w.heap.size w w1) (k : Below w1.heap.size w1 w2) : Below w.heap.size w w2 := h.trans (k.mono h.size)
theorem up_alloc (w : World) (o : Obj) : Below w.heap.size w (w.alloc o) := (Below.refl _ _).alloc (Nat.le_refl _) o
theorem lt_of_cell {w : World} {p : Addr} {v : Value} (h : w.cell? p = some v) : p.block < w.heap.size := by
  unfold World.cell? at h
  cases hx : w.heap[p.block]? with
  | none => rw [hx] at h; cases h
  | some o => exact (Array.getElem?_eq_some_iff.1 hx).1
theorem key_cut {G T : Prop} (rest : G → T) (key : G) : T := rest key

/-- A row of numbers. -/
def IA (w : World) (v : Value) (xs : List Int) : Prop :=
  ∃ (ad : Option Addr) (cap : Nat), v = .slice ad xs.length cap ∧ (xs.length ≤ 1000000 ∧ xs.length ≤ cap ∧ cap ≤ maxLen) ∧
    ((ad = none ∧ cap = 0 ∧ xs = []) ∨ ∃ b o, ad = some ⟨b, o, none⟩ ∧ b < w.heap.size ∧ ∀ j, j < xs.length → w.cell? ⟨b, o + j, none⟩ = some (.int .i64 (xs.getD j 0)))
theorem IA.on {w w' : World} {v : Value} {xs : List Int} (h : IA w v xs) (hb : Below w.heap.size w w') : IA w' v xs := by
  obtain ⟨ad, cap, h1, h2, h3⟩ := h
  refine ⟨ad, cap, h1, h2, ?_⟩
  rcases h3 with h3 | ⟨b, o, e, hlt, hc⟩
  · exact .inl h3
  · exact .inr ⟨b, o, e, Nat.lt_of_lt_of_le hlt hb.size, fun j hj => (hb.cell hlt).trans (hc j hj)⟩
theorem IA.nil (w : World) : IA w (.slice none 0 0) [] := ⟨none, 0, rfl, ⟨by decide, by decide, by decide⟩, .inl ⟨rfl, rfl, rfl⟩⟩
theorem IA.shape {w : World} {v : Value} {xs : List Int} (h : IA w v xs) : ∃ ad cap, v = .slice ad xs.length cap ∧ xs.length ≤ cap ∧ cap ≤ maxLen ∧ xs.length ≤ 1000000 := by
  obtain ⟨ad, cap, h1, h2, _⟩ := h
  exact ⟨ad, cap, h1, h2.2.1, h2.2.2, h2.1⟩
/-- A row that has some. -/
theorem IA.has {w : World} {v : Value} {xs : List Int} (h : IA w v xs) (hn : 0 < xs.length) : ∃ b o cap, v = .slice (some ⟨b, o, none⟩) xs.length cap ∧ xs.length ≤ cap ∧ cap ≤ maxLen ∧ b < w.heap.size ∧ ∀ j, j < xs.length → w.cell? ⟨b, o + j, none⟩ = some (.int .i64 (xs.getD j 0)) := by
  obtain ⟨ad, cap, h1, h2, h3⟩ := h
  rcases h3 with ⟨_, _, e⟩ | ⟨b, o, e, hlt, hc⟩
  · rw [e] at hn; cases hn
  · exact ⟨b, o, cap, by rw [h1, e], h2.2.1, h2.2.2, hlt, hc⟩
/-- A row of numbers, of which nothing is said where it has none. -/
def IB (w : World) (v : Value) (xs : List Int) : Prop :=
  ∃ (ad : Option Addr) (cap : Nat), v = .slice ad xs.length cap ∧ xs.length ≤ cap ∧ cap ≤ maxLen ∧ xs.length ≤ 1000000 ∧
    (0 < xs.length → ∃ b o, ad = some ⟨b, o, none⟩ ∧ b < w.heap.size ∧ ∀ j, j < xs.length → w.cell? ⟨b, o + j, none⟩ = some (.int .i64 (xs.getD j 0)))
theorem IB.on {w w' : World} {v : Value} {xs : List Int} (h : IB w v xs) (hb : Below w.heap.size w w') : IB w' v xs := by
  obtain ⟨ad, cap, h1, h2, h3, h4, h5⟩ := h
  refine ⟨ad, cap, h1, h2, h3, h4, fun hn => ?_⟩
  obtain ⟨b, o, e, hlt, hc⟩ := h5 hn
  exact ⟨b, o, e, Nat.lt_of_lt_of_le hlt hb.size, fun j hj => (hb.cell hlt).trans (hc j hj)⟩
theorem IB.shape {w : World} {v : Value} {xs : List Int} (h : IB w v xs) : ∃ ad cap, v = .slice ad xs.length cap ∧ xs.length ≤ cap ∧ cap ≤ maxLen ∧ xs.length ≤ 1000000 := by
  obtain ⟨ad, cap, h1, h2, h3, h4, _⟩ := h
  exact ⟨ad, cap, h1, h2, h3, h4⟩
theorem IB.has {w : World} {v : Value} {xs : List Int} (h : IB w v xs) (hn : 0 < xs.length) : ∃ b o cap, v = .slice (some ⟨b, o, none⟩) xs.length cap ∧ xs.length ≤ cap ∧ cap ≤ maxLen ∧ b < w.heap.size ∧ ∀ j, j < xs.length → w.cell? ⟨b, o + j, none⟩ = some (.int .i64 (xs.getD j 0)) := by
  obtain ⟨ad, cap, h1, h2, h3, _, h5⟩ := h
  obtain ⟨b, o, e, hlt, hc⟩ := h5 hn
  exact ⟨b, o, cap, by rw [h1, e], h2, h3, hlt, hc⟩
theorem IA.ib {w : World} {v : Value} {xs : List Int} (h : IA w v xs) : IB w v xs := by
  obtain ⟨ad, cap, h1, h2, h3, h4⟩ := h.shape
  refine ⟨ad, cap, h1, h2, h3, h4, fun hn => ?_⟩
  obtain ⟨b, o, c, e, _, _, hlt, hc⟩ := h.has hn
  rw [h1] at e
  injection e with e1
  exact ⟨b, o, e1, hlt, hc⟩
structure Val where
  kind : Int
  f : List Int
def nilVal : Val := ⟨0, []⟩
/-- A value. -/
def VA (w : World) (v : Value) (x : Val) : Prop := ∃ fv, v = .agg #[.int .i64 x.kind, fv] ∧ IB w fv x.f
theorem VA.on {w w' : World} {v : Value} {x : Val} (h : VA w v x) (hb : Below w.heap.size w w') : VA w' v x := by
  obtain ⟨fv, h1, h2⟩ := h
  exact ⟨fv, h1, h2.on hb⟩
theorem cell_of_row {w : World} {b : Nat} {cs : Array Value} {t : TypeId} {fz : Nat × Nat} {o : Nat} (h : w.heap[b]? = some (.cells cs t fz)) : w.cell? ⟨b, o, none⟩ = cs[o]? := by
  unfold World.cell?
  dsimp only
  rw [h]
  simp
theorem frozen_of_row {w : World} {b : Nat} {cs : Array Value} {t : TypeId} {o : Nat} (h : w.heap[b]? = some (.cells cs t (0, 0))) : w.frozen? ⟨b, o, none⟩ = false := by
  unfold World.frozen?
  dsimp only
  rw [h]
  simp
theorem new_row (w : World) (o : Obj) : (w.alloc o).heap[w.heap.size]? = some o := by
  show (w.heap.push _)[w.heap.size]? = _; simp

theorem IA.cell {w : World} {b o : Nat} {xs : List Int} {n cap : Nat} (h : IA w (.slice (some ⟨b, o, none⟩) n cap) xs) (j : Nat) (hj : j < xs.length) : w.cell? ⟨b, o + j, none⟩ = some (.int .i64 (xs.getD j 0)) := by
  obtain ⟨ad, cap, h1, h2, h3⟩ := h
  injection h1 with h1 h4 h5
  rcases h3 with ⟨rfl, _⟩ | ⟨b', o', rfl, hlt, hc⟩
  · cases h1
  · injection h1 with h1
    injection h1 with h1 h6
    subst h1 h6
    exact hc j hj

/-- Which of two rows is ahead. -/
def cmpL : List Int → List Int → Int
  | [], [] => 0
  | [], _ :: _ => -1
  | _ :: _, [] => 1
  | a :: l, b :: k => if ord a b = 0 then cmpL l k else ord a b
theorem getD_drop (xs : List Int) (j : Nat) (h : j < xs.length) : xs.drop j = xs.getD j 0 :: xs.drop (j + 1) := by
  rw [List.drop_eq_getElem_cons h, List.getD_eq_getElem?_getD, List.getElem?_eq_getElem h]; rfl

set_option maxHeartbeats 1000000 in
theorem compareL_any (n : Nat) (xs ys : List Int) (v u : Value) (w : World) (hx : IA w v xs) (hy : IA w u ys) (hn : xs.length = n) (hn2 : ys.length = n) (h0 : 0 < n) :
    Calls Tryd.prog 46 #[v, u] w fun e w' => e = .returned (.int .i64 (cmpL xs ys)) ∧ w' = w := by
  obtain ⟨b, o, cap, rfl, hl, hc, hlt, hcs⟩ := hx.has (by omega)
  obtain ⟨b2, o2, cap2, rfl, hl2, hc2, hlt2, hcs2⟩ := hy.has (by omega)
  have hM : xs.length ≤ 1000000 := hx.shape.choose_spec.choose_spec.2.2.2
  rw [hn] at hl hcs hM ⊢
  rw [hn2] at hl2 hcs2 ⊢
  have HX := hid hcs
  have HY := hid hcs2
  have HC := hid compare_any
  have HN := hid hn2
  have HL := hid hn
  clear hcs hcs2 hx hy hn hn2
  go_enter Tryd.func46, Tryd.ntmps46
  go_wp2
  go_loop [11] (fun v11 => ∃ j : Nat, j ≤ n ∧ v11 = .int .i64 j ∧ Hid (cmpL (xs.drop j) (ys.drop j) = cmpL xs ys)) (fun v11 => n - (intOf v11).toNat)
  case atStart => exact ⟨0, by omega, rfl, hid (by simp)⟩
  case round =>
    obtain ⟨j, hj, rfl, he⟩ := hrel
    by_cases hlt3 : j < n
    · have hlt4 : (j : Int) < (n : Int) := by omega
      have c0 := HX.out j hlt3
      have c1 := HY.out j hlt3
      have HS : Hid (cmpL xs ys = if ord (xs.getD j 0) (ys.getD j 0) = 0 then cmpL (xs.drop (j + 1)) (ys.drop (j + 1)) else ord (xs.getD j 0) (ys.getD j 0)) := hid (by rw [← he.out, getD_drop xs j (by rw [HL.out]; exact hlt3), getD_drop ys j (by rw [HN.out]; exact hlt3)]; rfl)
      generalize xs.getD j 0 = a at *
      generalize ys.getD j 0 = b at *
      go_wp2_with fail
      refine (HC.out _ _ _).mono ?_
      rintro e w1 ⟨rfl, rfl⟩
      by_cases hz : ord a b = 0
      · have HZ := hid (HS.out.trans (if_pos hz))
        rw [hz]
        clear hz HS
        go_wp2
        go_round
        case rel => exact ⟨j + 1, by omega, by simp, HZ.out.symm⟩
        case measure => simp [intOf]; omega
      · have HZ := hid (HS.out.trans (if_neg hz))
        have hz2 : (ord a b != 0) = true := by simpa using hz
        clear HS
        go_wp2
        go_ret
        exact ⟨ret_int HZ.out.symm, rfl⟩
    · obtain rfl : j = n := by omega
      have HZ : Hid (cmpL xs ys = 0) := hid (by rw [← he.out, List.drop_eq_nil_of_le (by have := HL.out; omega), List.drop_eq_nil_of_le (by have := HN.out; omega)]; rfl)
      go_wp2
      go_ret
      exact ⟨ret_int HZ.out.symm, rfl⟩
theorem order_any (a b : Int) (w : World) :
    Calls Tryd.prog 28 #[.int .i64 a, .int .i64 b] w fun e w' => e = .returned (.int .i64 (ord a b)) ∧ w' = w := by
  unfold ord
  by_cases h1 : a < b
  · rw [if_pos h1]
    go_enter Tryd.func28, Tryd.ntmps28
    go_wp2
    go_ret
    exact ⟨rfl, rfl⟩
  · rw [if_neg h1]
    by_cases h2 : b < a
    · rw [if_pos h2]
      go_enter Tryd.func28, Tryd.ntmps28
      go_wp2
      go_ret
      exact ⟨rfl, rfl⟩
    · rw [if_neg h2]
      go_enter Tryd.func28, Tryd.ntmps28
      go_wp2
      go_ret
      exact ⟨rfl, rfl⟩

/-- How two values are held. -/
def cmpV (x y : Val) : Int := if ord x.kind y.kind = 0 then (if ord (x.f.length : Int) (y.f.length : Int) = 0 then cmpL x.f y.f else ord (x.f.length : Int) (y.f.length : Int)) else ord x.kind y.kind
theorem ord_eq {a b : Int} (h : ord a b = 0) : a = b := by
  unfold ord at h
  by_cases h1 : a < b
  · rw [if_pos h1] at h; cases h
  · rw [if_neg h1] at h
    by_cases h2 : b < a
    · rw [if_pos h2] at h; cases h
    · omega
theorem cmpL_self : ∀ l : List Int, cmpL l l = 0
  | [] => rfl
  | a :: l => by unfold cmpL; rw [if_pos (ord_self a)]; exact cmpL_self l
theorem cmpL_eq : ∀ l k : List Int, cmpL l k = 0 → l = k
  | [], [], _ => rfl
  | [], _ :: _, h => by cases h
  | _ :: _, [], h => by cases h
  | a :: l, b :: k, h => by
    unfold cmpL at h
    by_cases h1 : ord a b = 0
    · rw [if_pos h1] at h; rw [ord_eq h1, cmpL_eq l k h]
    · rw [if_neg h1] at h; exact absurd h h1
theorem cmpV_self (x : Val) : cmpV x x = 0 := by unfold cmpV; rw [if_pos (ord_self _), if_pos (ord_self _), cmpL_self]
theorem cmpV_eq {x y : Val} (h : cmpV x y = 0) : x = y := by
  unfold cmpV at h
  by_cases h1 : ord x.kind y.kind = 0
  · rw [if_pos h1] at h
    by_cases h2 : ord (x.f.length : Int) (y.f.length : Int) = 0
    · rw [if_pos h2] at h
      obtain ⟨k, f⟩ := x
      obtain ⟨k', f'⟩ := y
      have := cmpL_eq _ _ h
      have := ord_eq h1
      dsimp only at *
      subst_vars
      rfl
    · rw [if_neg h2] at h; exact absurd h h2
  · rw [if_neg h1] at h; exact absurd h h1
theorem cmpV_iff (x y : Val) : cmpV x y = 0 ↔ x = y := ⟨cmpV_eq, fun h => by rw [h]; exact cmpV_self y⟩

set_option maxRecDepth 8000 in
set_option maxHeartbeats 2000000 in
theorem rcmp_any (x y : Val) (v u : Value) (w : World) (hv : VA w v x) (hu : VA w u y) :
    Calls Tryd.prog 15 #[v, u] w fun e w' => e = .returned (.int .i64 (cmpV x y)) ∧ Below w.heap.size w w' := by
  obtain ⟨kx, fx⟩ := x
  obtain ⟨ky, fy⟩ := y
  obtain ⟨fv, rfl, hf⟩ := hv
  obtain ⟨fu, rfl, hg⟩ := hu
  have HF := hid hf
  have HG := hid hg
  obtain ⟨ad, cap, rfl, a1, a2, a3⟩ := hf.shape
  obtain ⟨ad2, cap2, rfl, b1, b2, b3⟩ := hg.shape
  dsimp only at *
  have HLx := hid (rfl : fx.length = fx.length)
  have HLy := hid (rfl : fy.length = fy.length)
  have HE : Hid (cmpV ⟨kx, fx⟩ ⟨ky, fy⟩ = if ord kx ky = 0 then (if ord (fx.length : Int) (fy.length : Int) = 0 then cmpL fx fy else ord (fx.length : Int) (fy.length : Int)) else ord kx ky) := hid rfl
  generalize cmpV ⟨kx, fx⟩ ⟨ky, fy⟩ = res at *
  obtain ⟨w2, hw2⟩ : ∃ w2, w2 = (w.alloc (.cells #[.int .i64 kx, .slice ad fx.length cap] 24)).alloc (.cells #[.int .i64 ky, .slice ad2 fy.length cap2] 24) := ⟨_, rfl⟩
  have HB := hid (show Below w.heap.size w w2 by rw [hw2]; exact up_trans (up_alloc _ _) (up_alloc _ _))
  have X0 := hid (show w2.heap[w.heap.size]? = some (.cells #[.int .i64 kx, .slice ad fx.length cap] 24 (0, 0)) by rw [hw2, Below.heap_alloc _ _ _ (by simp)]; exact new_row _ _)
  have X1 := hid (show w2.heap[w.heap.size + 1]? = some (.cells #[.int .i64 ky, .slice ad2 fy.length cap2] 24 (0, 0)) by rw [hw2]; exact heap_alloc2_new _ _ _)
  have hs2 : w2.heap.size = w.heap.size + 2 := by rw [hw2]; simp
  have HO1 := hid fun w => order_any kx ky w
  have HO2 := hid fun w => order_any (fx.length : Int) (fy.length : Int) w
  clear hf hg
  generalize hnx : fx.length = nx at *
  generalize hny : fy.length = ny at *
  go_enter Tryd.func15, Tryd.ntmps15
  go_wp2_with fail
  refine (HO1.out _).mono ?_
  rintro e wn ⟨rfl, hw⟩
  obtain rfl := hw.symm
  clear hw
  by_cases h1 : ord kx ky = 0
  case neg =>
    have HE := hid (HE.out.trans (if_neg h1))
    have h2 : (ord kx ky != 0) = true := by simpa using h1
    generalize ord kx ky = z at *
    rw [← hw2]
    clear hw2 hnx hny HLx HLy h1
    go_wp2
    go_ret
    exact ⟨ret_int HE.out.symm, HB.out⟩
  case pos =>
    have HE := hid (HE.out.trans (if_pos h1))
    rw [h1]
    go_wp2_with fail
    refine (HO2.out _).mono ?_
    rintro e wn ⟨rfl, hw⟩
    obtain rfl := hw.symm
    clear hw
    by_cases h3 : ord (nx : Int) (ny : Int) = 0
    case neg =>
      have HE := hid (HE.out.trans (if_neg h3))
      have h2 : (ord (nx : Int) (ny : Int) != 0) = true := by simpa using h3
      generalize ord (nx : Int) (ny : Int) = z at *
      rw [← hw2]
      clear hw2 hnx hny HLx HLy h1 h3
      go_wp2
      go_ret
      exact ⟨ret_int HE.out.symm, HB.out⟩
    case pos =>
      have HE3 := hid (HE.out.trans (if_pos h3))
      rw [h3]
      have hnn : nx = ny := by have := ord_eq h3; omega
      subst hnn
      rw [← hw2]
      have HNX := hid hnx
      have HNY := hid hny
      clear hw2 hnx hny HLx HLy h1 h3 HO1 HO2
      go_wp2
      go_loopw [7] (fun v7 wr => ∃ j : Nat, j ≤ nx ∧ v7 = .int .i64 j ∧ Hid (cmpL (fx.drop j) (fy.drop j) = cmpL fx fy) ∧ Hid (Below w2.heap.size w2 wr)) (fun v7 _ => nx - (intOf v7).toNat)
      case atStart => exact ⟨0, by omega, rfl, hid (by simp), hid (Below.refl _ _)⟩
      case round =>
        obtain ⟨j, hj, rfl, he, HBr⟩ := hrel
        have hX0 := (HBr.out.block w.heap.size (by omega)).trans X0.out
        have hX1 := (HBr.out.block (w.heap.size + 1) (by omega)).trans X1.out
        have c1 := cell_of_row (o := 1) hX0
        have c3 := cell_of_row (o := 1) hX1
        simp only [List.getElem?_toArray, List.getElem?_cons_zero, List.getElem?_cons_succ] at c1 c3
        by_cases hlt3 : j < nx
        case pos =>
          have hlt4 : (j : Int) < (nx : Int) := by omega
          obtain ⟨gb, go, gcap, e1, _, _, _, hcs⟩ := ((HF.out.on HB.out).on HBr.out).has (by rw [HNX.out]; omega)
          obtain ⟨gb2, go2, gcap2, e2, _, _, _, hcs2⟩ := ((HG.out.on HB.out).on HBr.out).has (by rw [HNY.out]; omega)
          rw [HNX.out] at e1
          rw [HNY.out] at e2
          have d0 := hcs j (by rw [HNX.out]; exact hlt3)
          have d1 := hcs2 j (by rw [HNY.out]; exact hlt3)
          injection e1 with e1a e1b e1c
          injection e2 with e2a e2b e2c
          rw [e1a] at c1
          rw [e2a] at c3
          have HS : Hid (cmpL fx fy = if ord (fx.getD j 0) (fy.getD j 0) = 0 then cmpL (fx.drop (j + 1)) (fy.drop (j + 1)) else ord (fx.getD j 0) (fy.getD j 0)) := hid (by rw [← he.out, getD_drop fx j (by rw [HNX.out]; exact hlt3), getD_drop fy j (by rw [HNY.out]; exact hlt3)]; rfl)
          have HC := hid (order_any (fx.getD j 0) (fy.getD j 0))
          generalize fx.getD j 0 = a at *
          generalize fy.getD j 0 = b at *
          clear hcs hcs2 e1a e1b e1c e2a e2b e2c hX0 hX1
          by_cases hz : ord a b = 0
          case pos =>
            have HZ := hid (HS.out.trans (if_pos hz))
            rw [hz] at HC
            clear hz HS
            go_wp2
            go_quiet ((go_at_call 28; exact (HC.out _).mono (fun e w' h => ⟨h.1, _, h.2⟩)))
            go_wp2
            go_round
            case rel => exact ⟨j + 1, by omega, by simp, hid HZ.out.symm, hid (below_drewN HBr.out _)⟩
            case measure => simp [intOf]; omega
          case neg =>
            have HZ := hid (HS.out.trans (if_neg hz))
            have hz2 : (ord a b != 0) = true := by simpa using hz
            generalize ord a b = z at *
            clear hz HS
            go_wp2
            go_quiet ((go_at_call 28; exact (HC.out _).mono (fun e w' h => ⟨h.1, _, h.2⟩)))
            go_wp2
            go_ret
            exact ⟨ret_int (HE3.out.trans HZ.out).symm, HB.out.trans ((below_drewN HBr.out _).mono HB.out.size)⟩
        case neg =>
          obtain rfl : j = nx := by omega
          have HZ : Hid (cmpL fx fy = 0) := hid (by rw [← he.out, List.drop_eq_nil_of_le (by rw [HNX.out]; omega), List.drop_eq_nil_of_le (by rw [HNY.out]; omega)]; rfl)
          go_wp2
          go_ret
          exact ⟨ret_int (HE3.out.trans HZ.out).symm, HB.out.trans (HBr.out.mono HB.out.size)⟩
end Go.Proofs.YtjocpbcmehicmaaDoor
