/- What package act's small functions answer: whether a value is whole, bounded, right; years; signs. -/
import Derived.Test.YtengcdodoblabaaGreatDoorBase
import Derived.Deep.QuietTactic
import Derived.BigQuiet
namespace Go.Proofs.YtengcdodoblabaaGreatDoor
open Go.RowKit

theorem cell_of_row {w : World} {b : Nat} {cs : Array Value} {t : TypeId} {fz : Nat × Nat} {o : Nat} (h : w.heap[b]? = some (.cells cs t fz)) : w.cell? ⟨b, o, none⟩ = cs[o]? := by
  unfold World.cell?
  dsimp only
  rw [h]
  simp
theorem frozen_of_row {w : World} {b : Nat} {cs : Array Value} {t : TypeId} {o : Nat} (h : w.heap[b]? = some (.cells cs t (0, 0))) : w.frozen? ⟨b, o, none⟩ = false := by
  unfold World.frozen?
  dsimp only
  rw [h]
  simp
theorem new_row (w : World) (o : Obj) : (w.alloc o).heap[w.heap.size]? = some o := by
  show (w.heap.push _)[w.heap.size]? = _; simp

/-- Whether a value is whole. -/
def wholeB (x : Val) : Bool := inB x.kind 1 10 && ((x.f.length : Int) == fieldsL.getD x.kind.toNat 0)

set_option maxHeartbeats 1000000 in
theorem whole_any (p : Value) (x : Val) (v : Value) (w : World) (hv : VA w v x) (hT : Tabs p w) :
    Calls Tryz.prog 26 #[v] w fun e w' => e = .returned (.bool (wholeB x)) ∧ Below w.heap.size w w' := by
  obtain ⟨k, xs⟩ := x
  obtain ⟨fv, rfl, hf⟩ := hv
  obtain ⟨ad, cap, rfl, hl, hc, hm⟩ := hf.shape
  have HW := hid (within_any k 1 10)
  clear hf
  unfold wholeB
  dsimp only at *
  generalize xs.length = n at *
  have HB := hid (up_alloc w (.cells #[.int .i64 k, .slice ad n cap] 27))
  cases hi : inB k 1 10 with
  | false =>
    rw [hi] at HW
    clear hi
    go_enter Tryz.func26, Tryz.ntmps26
    go_wp2
    go_quiet ((go_at_call 30; exact (HW.out _).mono (fun e w' h => ⟨h.1, _, h.2⟩)))
    go_wp2
    go_ret
    exact ⟨ret_bool (by simp), below_drewN HB.out _⟩
  | true =>
    rw [hi] at HW
    obtain ⟨h1, h2⟩ := inB_iff.1 hi
    obtain ⟨m, rfl⟩ := Int.eq_ofNat_of_zero_le (show 0 ≤ k by omega)
    have hc0 := hT.fields m (by omega)
    have hlt := lt_of_cell hc0
    have hc2 := (HB.out.cell (p := ⟨0, m, none⟩) hlt).trans hc0
    have hm11 : (m : Int) < 11 := by omega
    have HE : Hid (fieldsL.getD ((m : Int)).toNat 0 = fieldsL.getD m 0) := hid (by simp)
    rw [HE.out]
    generalize fieldsL.getD m 0 = z at *
    clear hi hT hc0 HE
    go_enter Tryz.func26, Tryz.ntmps26
    go_wp2
    go_quiet ((go_at_call 30; exact (HW.out _).mono (fun e w' h => ⟨h.1, _, h.2⟩)))
    go_wp2
    go_ret
    exact ⟨ret_bool (by simp), below_drewN HB.out _⟩

theorem IA.cell {w : World} {b o : Nat} {xs : List Int} {n cap : Nat} (h : IA w (.slice (some ⟨b, o, none⟩) n cap) xs) (j : Nat) (hj : j < xs.length) : w.cell? ⟨b, o + j, none⟩ = some (.int .i64 (xs.getD j 0)) := by
  obtain ⟨ad, cap, h1, h2, h3⟩ := h
  injection h1 with h1 h4 h5
  rcases h3 with ⟨rfl, _⟩ | ⟨b', o', rfl, hlt, hc⟩
  · cases h1
  · injection h1 with h1
    injection h1 with h1 h6
    subst h1 h6
    exact hc j hj

set_option maxHeartbeats 1000000 in
theorem isDay_any (y m d : Int) (v : Value) (w : World) (h : IA w v [y, m, d]) :
    Calls Tryz.prog 68 #[v] w fun e w' => e = .returned (.bool (Ci.dayB y m d)) ∧ Below w.heap.size w w' := by
  obtain ⟨b, o, cap, rfl, hl, hc, hlt, hcs⟩ := h.has (by simp)
  have c0 := hcs 0 (by simp)
  have c1 := hcs 1 (by simp)
  have c2 := hcs 2 (by simp)
  simp only [List.length_cons, List.length_nil, Nat.zero_add, Nat.reduceAdd, List.getD_cons_zero, List.getD_cons_succ, Nat.add_zero] at *
  have HR : Hid (∀ w, Calls Tryz.prog 69 #[.agg #[.int .i64 y, .int .i64 m, .int .i64 d, .int .i64 0, .int .i64 0, .int .i64 0]] w fun e w' => e = .returned (.bool (Ci.dayB y m d)) ∧ Below w.heap.size w w') := hid fun w => by
    have := Ci.right_any y m d 0 0 0 w
    rwa [show Ci.rtB y m d 0 0 0 = Ci.dayB y m d by unfold Ci.rtB; rw [show Ci.clockB 0 0 0 = true by decide, Bool.and_true]] at this
  generalize Ci.dayB y m d = r at *
  clear h hcs
  go_enter Tryz.func68, Tryz.ntmps68
  go_wp2
  refine Ci.wp_region_ext2 (by kernel_rfl) (by kernel_rfl) (fun hne hcell => ?_)
  repeat (go_big_quiet_step ((go_at_call 69; exact (HR.out _).mono (fun e w' h => ⟨h.1, Ci.Ext.to _ h.2⟩))))
  refine wpQuiet_nil ?_
  rintro _ ⟨s, rfl⟩
  go_wp2
  go_ret
  exact ⟨rfl, s.below⟩

def nines : Int := 999999999999999999
def normB (m s : Int) : Bool := inB m (-999999999999999999) 999999999999999999 && inB s 0 18 && (((De.Dc.norm m s.toNat).1 == m) && (((De.Dc.norm m s.toNat).2 : Int) == s))

set_option maxHeartbeats 1000000 in
theorem isNormed_any (m s : Int) (w : World) :
    Calls Tryz.prog 70 #[.int .i64 m, .int .i64 s] w fun e w' => e = .returned (.bool (normB m s)) ∧ Below w.heap.size w w' := by
  have H1 := hid (within_any m (-999999999999999999) 999999999999999999)
  have H2 := hid (within_any s 0 18)
  unfold normB
  cases h1 : inB m (-999999999999999999) 999999999999999999 with
  | false =>
    rw [h1] at H1
    clear h1
    go_enter Tryz.func70, Tryz.ntmps70
    go_wp2_with fail
    refine (H1.out _).mono ?_
    rintro e w1 ⟨rfl, rfl⟩
    go_wp2
    go_ret
    exact ⟨ret_bool (by simp), Below.refl _ _⟩
  | true =>
    cases h2 : inB s 0 18 with
    | false =>
      rw [h1] at H1
      rw [h2] at H2
      clear h1 h2
      go_enter Tryz.func70, Tryz.ntmps70
      go_wp2_with fail
      refine (H1.out _).mono ?_
      rintro e w1 ⟨rfl, rfl⟩
      go_wp2_with fail
      refine (H2.out _).mono ?_
      rintro e w1 ⟨rfl, rfl⟩
      go_wp2
      go_ret
      exact ⟨ret_bool (by simp), Below.refl _ _⟩
    | true =>
      obtain ⟨a1, a2⟩ := inB_iff.1 h1
      obtain ⟨a3, a4⟩ := inB_iff.1 h2
      obtain ⟨t, rfl⟩ := Int.eq_ofNat_of_zero_le a3
      have HN := hid fun w => De.norm_any m t w (by omega) (by omega) (by omega)
      rw [h1] at H1
      rw [h2] at H2
      rw [Int.toNat_natCast]
      generalize (De.Dc.norm m t).1 = x at *
      generalize (De.Dc.norm m t).2 = y at *
      clear h1 h2
      go_enter Tryz.func70, Tryz.ntmps70
      go_wp2_with fail
      refine (H1.out _).mono ?_
      rintro e w1 ⟨rfl, rfl⟩
      go_wp2_with fail
      refine (H2.out _).mono ?_
      rintro e w1 ⟨rfl, rfl⟩
      go_wp2_with fail
      refine (HN.out _).mono ?_
      rintro e w1 ⟨rfl, hb⟩
      have HB := hid hb
      clear hb
      by_cases hx : x = m
      · subst hx
        go_wp2
        go_ret
        exact ⟨ret_bool (by simp), HB.out⟩
      · have hx2 : (x == m) = false := by simpa using hx
        go_wp2
        go_ret
        exact ⟨ret_bool (by simp [hx]), HB.out⟩

/-- Which of two rows is ahead. -/
def cmpL : List Int → List Int → Int
  | [], [] => 0
  | [], _ :: _ => -1
  | _ :: _, [] => 1
  | a :: l, b :: k => if De.Dc.ord a b = 0 then cmpL l k else De.Dc.ord a b
theorem getD_drop (xs : List Int) (j : Nat) (h : j < xs.length) : xs.drop j = xs.getD j 0 :: xs.drop (j + 1) := by
  rw [List.drop_eq_getElem_cons h, List.getD_eq_getElem?_getD, List.getElem?_eq_getElem h]; rfl

set_option maxHeartbeats 1000000 in
theorem compareL_any (n : Nat) (xs ys : List Int) (v u : Value) (w : World) (hx : IA w v xs) (hy : IA w u ys) (hn : xs.length = n) (hn2 : ys.length = n) (h0 : 0 < n) :
    Calls Tryz.prog 71 #[v, u] w fun e w' => e = .returned (.int .i64 (cmpL xs ys)) ∧ w' = w := by
  obtain ⟨b, o, cap, rfl, hl, hc, hlt, hcs⟩ := hx.has (by omega)
  obtain ⟨b2, o2, cap2, rfl, hl2, hc2, hlt2, hcs2⟩ := hy.has (by omega)
  have hM : xs.length ≤ 1000000 := hx.shape.choose_spec.choose_spec.2.2.2
  rw [hn] at hl hcs hM ⊢
  rw [hn2] at hl2 hcs2 ⊢
  have HX := hid hcs
  have HY := hid hcs2
  have HC := hid De.compare_any
  have HN := hid hn2
  have HL := hid hn
  clear hcs hcs2 hx hy hn hn2
  go_enter Tryz.func71, Tryz.ntmps71
  go_wp2
  go_loop [11] (fun v11 => ∃ j : Nat, j ≤ n ∧ v11 = .int .i64 j ∧ Hid (cmpL (xs.drop j) (ys.drop j) = cmpL xs ys)) (fun v11 => n - (intOf v11).toNat)
  case atStart => exact ⟨0, by omega, rfl, hid (by simp)⟩
  case round =>
    obtain ⟨j, hj, rfl, he⟩ := hrel
    by_cases hlt3 : j < n
    · have hlt4 : (j : Int) < (n : Int) := by omega
      have c0 := HX.out j hlt3
      have c1 := HY.out j hlt3
      have HS : Hid (cmpL xs ys = if De.Dc.ord (xs.getD j 0) (ys.getD j 0) = 0 then cmpL (xs.drop (j + 1)) (ys.drop (j + 1)) else De.Dc.ord (xs.getD j 0) (ys.getD j 0)) := hid (by rw [← he.out, getD_drop xs j (by rw [HL.out]; exact hlt3), getD_drop ys j (by rw [HN.out]; exact hlt3)]; rfl)
      generalize xs.getD j 0 = a at *
      generalize ys.getD j 0 = b at *
      go_wp2_with fail
      refine (HC.out _ _ _).mono ?_
      rintro e w1 ⟨rfl, rfl⟩
      by_cases hz : De.Dc.ord a b = 0
      · have HZ := hid (HS.out.trans (if_pos hz))
        rw [hz]
        clear hz HS
        go_wp2
        go_round
        case rel => exact ⟨j + 1, by omega, by simp, HZ.out.symm⟩
        case measure => simp [intOf]; omega
      · have HZ := hid (HS.out.trans (if_neg hz))
        have hz2 : (De.Dc.ord a b != 0) = true := by simpa using hz
        clear HS
        go_wp2
        go_ret
        exact ⟨ret_int HZ.out.symm, rfl⟩
    · obtain rfl : j = n := by omega
      have HZ : Hid (cmpL xs ys = 0) := hid (by rw [← he.out, List.drop_eq_nil_of_le (by have := HL.out; omega), List.drop_eq_nil_of_le (by have := HN.out; omega)]; rfl)
      go_wp2
      go_ret
      exact ⟨ret_int HZ.out.symm, rfl⟩
end Go.Proofs.YtengcdodoblabaaGreatDoor
