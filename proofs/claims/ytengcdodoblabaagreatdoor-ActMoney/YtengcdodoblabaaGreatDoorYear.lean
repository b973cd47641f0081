/- Years; a value that is made; a year out of an action's children. -/
import Derived.Test.YtengcdodoblabaaGreatDoorDeed2
namespace Go.Proofs.YtengcdodoblabaaGreatDoor
open Go.RowKit

def nearI (rest y : Int) : Int := y - 50 + (rest - (y - 50)) % 100
theorem mod100 (t : Int) : (t.tmod 100 + 100).tmod 100 = t % 100 := by
  have h1 := De.Dc.ten_pos 0
  have e : t.tmod 100 + 100 * t.tdiv 100 = t := Int.tmod_add_mul_tdiv t 100
  have h2 := Int.tmod_lt_of_pos t (show (0 : Int) < 100 by decide)
  have h3 := Int.tmod_lt_of_pos (-t) (show (0 : Int) < 100 by decide)
  rw [Int.neg_tmod] at h3
  rw [Int.tmod_eq_emod_of_nonneg (show 0 ≤ t.tmod 100 + 100 by omega)]
  omega
theorem mod100' (t : Int) : t.tmod 100 % 100 = t % 100 := by
  have e : t.tmod 100 + 100 * t.tdiv 100 = t := Int.tmod_add_mul_tdiv t 100
  omega
set_option maxHeartbeats 400000 in
theorem near_any (a y : Int) (w : World) (h0 : -1000000 ≤ y) (h1 : y ≤ 1000000) (h2 : 0 ≤ a) (h3 : a ≤ 1000) :
    Calls Tryz.prog 31 #[.int .i64 a, .int .i64 y] w fun e w' => e = .returned (.int .i64 (nearI a y)) ∧ w' = w := by
  have HM := hid (mod100 (a - (y - 50)))
  have b1 := Int.tmod_lt_of_pos (a - (y - 50)) (show (0 : Int) < 100 by decide)
  have b2 := Int.tmod_lt_of_pos (-(a - (y - 50))) (show (0 : Int) < 100 by decide)
  rw [Int.neg_tmod] at b2
  have hw : wrap64 ((a - (y - 50)).tmod 100 + 100) = (a - (y - 50)).tmod 100 + 100 := IntWalk.wrap64_in _ (by omega)
  have hb : 0 ≤ ((a - (y - 50)).tmod 100 + 100).tmod 100 ∧ ((a - (y - 50)).tmod 100 + 100).tmod 100 ≤ 99 := by rw [HM.out]; omega
  have HE : Hid (nearI a y = y - 50 + (a - (y - 50)).tmod 100 % 100) := hid (by rw [mod100', nearI])
  generalize nearI a y = z at *
  clear HM
  go_enter Tryz.func31, Tryz.ntmps31
  go_wp2
  go_ret
  exact ⟨ret_int HE.out.symm, rfl⟩

/-- The year that a number stands for. -/
def yearB (x : Val) (ry : Int) : Option Int :=
  if x.kind = 1 ∧ wholeB x = true then
    if inB (x.f.getD 1 0) 1 2 = true then (if inB (x.f.getD 0 0) 0 99 = true then (if inB (nearI (x.f.getD 0 0) ry) 1 9999 = true then some (nearI (x.f.getD 0 0) ry) else none) else none)
    else if inB (x.f.getD 0 0) 1 9999 = true then some (x.f.getD 0 0) else none
  else none
def yrV : Option Int → Value
  | some v => .tuple #[.int .i64 v, .bool true]
  | none => .tuple #[.int .i64 0, .bool false]

set_option maxRecDepth 8000 in
set_option maxHeartbeats 2000000 in
theorem year_any (p : Value) (x : Val) (v : Value) (r : Mom) (w : World) (hv : VA w v x) (hT : Tabs p w) (h0 : -1000000 ≤ r.y) (h1 : r.y ≤ 1000000) :
    Calls Tryz.prog 18 #[v, momV r] w fun e w' => e = .returned (yrV (yearB x r.y)) ∧ Below w.heap.size w w' := by
  obtain ⟨k, f⟩ := x
  have HV := hid hv
  obtain ⟨fv, rfl, hf⟩ := hv
  obtain ⟨ad, cap, rfl, hl, hc, hm⟩ := hf.shape
  obtain ⟨y, m, d, hh, i, s⟩ := r
  unfold momV
  have HE : Hid (yearB ⟨k, f⟩ y = if k = 1 ∧ wholeB ⟨k, f⟩ = true then
    if inB (f.getD 1 0) 1 2 = true then (if inB (f.getD 0 0) 0 99 = true then (if inB (nearI (f.getD 0 0) y) 1 9999 = true then some (nearI (f.getD 0 0) y) else none) else none)
    else if inB (f.getD 0 0) 1 9999 = true then some (f.getD 0 0) else none
  else none) := hid rfl
  dsimp only at *
  generalize yearB ⟨k, f⟩ y = oo at *
  have HB := hid (up_trans (up_alloc w (.cells #[.int .i64 k, .slice ad f.length cap] 27)) (up_alloc _ (.cells #[.int .i64 y, .int .i64 m, .int .i64 d, .int .i64 hh, .int .i64 i, .int .i64 s] 32)))
  have HWh := hid (whole_any p ⟨k, f⟩ _ _ (HV.out.on HB.out) (hT.on HB.out))
  have HF := hid hf
  by_cases hk : k = 1
  · subst hk
    cases hw : wholeB ⟨1, f⟩ with
    | false =>
      rw [hw] at HWh
      have HO : Hid (oo = none) := hid (by rw [HE.out, hw]; simp)
      rw [HO.out]
      clear HE HO
      clear hf hw
      generalize f.length = n at *
      go_enter Tryz.func18, Tryz.ntmps18
      go_wp2_with fail
      refine HWh.out.mono ?_
      rintro e w1 ⟨rfl, hb⟩
      have HB1 := hid (up_trans HB.out hb)
      clear hb
      go_wp2
      go_ret2
      exact ⟨rfl, HB1.out⟩
    | true =>
      rw [hw] at HWh
      have HE := hid (HE.out.trans (if_pos ⟨rfl, hw⟩))
      obtain ⟨a, b, rfl⟩ := len2 (f := f) (by have := (len_of_whole hw).2; rw [show fieldsL.getD (Int.toNat 1) 0 = 2 by decide] at this; omega)
      simp only [List.length_cons, List.length_nil, Nat.zero_add, Nat.reduceAdd, List.getD_cons_zero, List.getD_cons_succ] at *
      have HFu : Hid (∀ w1, Below w.heap.size w w1 → ∃ g o, ad = some ⟨g, o, none⟩ ∧ w1.cell? ⟨g, o, none⟩ = some (.int .i64 a) ∧ w1.cell? ⟨g, o + 1, none⟩ = some (.int .i64 b)) := hid fun w1 hb => by
        obtain ⟨g, o, c2, e, _, _, _, hcs⟩ := (HF.out.on hb).has (by simp)
        injection e with e1 e2 e3
        exact ⟨g, o, e1, hcs 0 (by simp), hcs 1 (by simp)⟩
      have H2 := hid (within_any b 1 2)
      have H9 := hid (within_any a 0 99)
      have HY := hid (within_any a 1 9999)
      have HN : Hid (inB a 0 99 = true → ∀ w, Calls Tryz.prog 31 #[.int .i64 a, .int .i64 y] w fun e w' => e = .returned (.int .i64 (nearI a y)) ∧ w' = w) := hid fun hi w => near_any a y w h0 h1 (inB_iff.1 hi).1 (by have := (inB_iff.1 hi).2; omega)
      have HZ := hid (within_any (nearI a y) 1 9999)
      generalize nearI a y = z at *
      have HX := hid (new_row w (.cells #[.int .i64 1, .slice ad 2 cap] 27))
      have HX2 : Hid (((w.alloc (.cells #[.int .i64 1, .slice ad 2 cap] 27)).alloc (.cells #[.int .i64 y, .int .i64 m, .int .i64 d, .int .i64 hh, .int .i64 i, .int .i64 s] 32)).heap[w.heap.size + 1]? = some (.cells #[.int .i64 y, .int .i64 m, .int .i64 d, .int .i64 hh, .int .i64 i, .int .i64 s] 32)) := hid (heap_alloc2_new _ _ _)
      clear hf hw
      go_enter Tryz.func18, Tryz.ntmps18
      go_wp2_with fail
      refine HWh.out.mono ?_
      rintro e w1 ⟨rfl, hb⟩
      have HB1 := hid (up_trans HB.out hb)
      obtain ⟨g, o, rfl, c0, c1⟩ := HFu.out w1 HB1.out
      have k0 := ((hb.block w.heap.size (by simp; omega)).trans (Below.heap_alloc _ _ _ (by simp))).trans HX.out
      have k1 := (hb.block (w.heap.size + 1) (by simp)).trans HX2.out
      have d0 := cell_of_row (o := 1) k0
      have d1 := cell_of_row (o := 0) k1
      simp only [List.getElem?_toArray, List.getElem?_cons_zero, List.getElem?_cons_succ] at d0 d1
      clear hb k0 k1 HX HX2 HFu HWh
      cases hb2 : inB b 1 2 with
      | false =>
        rw [hb2] at H2
        have HE := hid (HE.out.trans (if_neg (by rw [hb2]; decide)))
        clear hb2
        go_wp2_with fail
        refine (H2.out _).mono ?_
        rintro e w2 ⟨rfl, rfl⟩
        go_wp2_with fail
        refine (HY.out _).mono ?_
        rintro e w2 ⟨rfl, rfl⟩
        cases hy : inB a 1 9999 with
        | false =>
          have HO := hid (HE.out.trans (if_neg (by rw [hy]; decide)))
          clear hy
          go_wp2
          go_ret2
          exact ⟨by rw [HO.out]; rfl, HB1.out⟩
        | true =>
          have HO := hid (HE.out.trans (if_pos hy))
          clear hy
          go_wp2
          go_ret2
          exact ⟨by rw [HO.out]; rfl, HB1.out⟩
      | true =>
        rw [hb2] at H2
        have HE := hid (HE.out.trans (if_pos hb2))
        clear hb2
        go_wp2_with fail
        refine (H2.out _).mono ?_
        rintro e w2 ⟨rfl, rfl⟩
        go_wp2_with fail
        refine (H9.out _).mono ?_
        rintro e w2 ⟨rfl, rfl⟩
        cases h9 : inB a 0 99 with
        | false =>
          have HO := hid (HE.out.trans (if_neg (by rw [h9]; decide)))
          clear h9
          go_wp2
          go_ret2
          exact ⟨by rw [HO.out]; rfl, HB1.out⟩
        | true =>
          have HN2 := hid (HN.out h9)
          have HE := hid (HE.out.trans (if_pos h9))
          clear h9 HN
          go_wp2_with fail
          refine (HN2.out _).mono ?_
          rintro e w2 ⟨rfl, rfl⟩
          go_wp2_with fail
          refine (HZ.out _).mono ?_
          rintro e w2 ⟨rfl, rfl⟩
          cases hy : inB z 1 9999 with
          | false =>
            have HO := hid (HE.out.trans (if_neg (by rw [hy]; decide)))
            clear hy
            go_wp2
            go_ret2
            exact ⟨by rw [HO.out]; rfl, HB1.out⟩
          | true =>
            have HO := hid (HE.out.trans (if_pos hy))
            clear hy
            go_wp2
            go_ret2
            exact ⟨by rw [HO.out]; rfl, HB1.out⟩
  · have HO := hid (HE.out.trans (if_neg (show ¬ (k = 1 ∧ wholeB ⟨k, f⟩ = true) from fun h => hk h.1)))
    rw [HO.out]
    clear HE HO
    have hk2 : (k != 1) = true := by simpa using hk
    clear hf hk
    generalize f.length = n at *
    go_enter Tryz.func18, Tryz.ntmps18
    go_wp2
    go_ret2
    exact ⟨rfl, HB.out⟩

/-- A value that is made. -/
theorem value_any (k : Int) (ad : Option Addr) (n cap : Nat) (w : World) :
    Calls Tryz.prog 32 #[.int .i64 k, .slice ad n cap] w fun e w' => e = .returned (.agg #[.int .i64 k, .slice ad n cap]) ∧ Below w.heap.size w w' := by
  have HX := hid (new_row w (.cells #[.int .i64 k, .slice ad n cap] 27))
  have HU := hid (up_alloc w (.cells #[.int .i64 k, .slice ad n cap] 27))
  go_enter Tryz.func32, Tryz.ntmps32
  go_wp2
  exact bodyPost_ret (v := .agg #[.int .i64 k, .slice ad n cap]) (results_cell_row rfl _ _ w.heap.size 27 _ (0, 0) _ rfl HX.out Tryz.underlying27 rfl (by kernel_rfl)) rfl ⟨rfl, HU.out⟩
end Go.Proofs.YtengcdodoblabaaGreatDoor
