/- What the reference makes: money. -/
import Derived.Test.YtengcdodoblabaaGreatDoorRDoA
import Derived.Test.YtengcdodoblabaaGreatDoorWaysC
import Derived.Test.YtengcdodoblabaaGreatDoorRefR2
import Derived.Test.YtengcdodoblabaaGreatDoorVal
import Derived.Test.YtengcdodoblabaaGreatDoorDo
namespace Go.Proofs.YtengcdodoblabaaGreatDoor
open Go.RowKit

theorem take_if (k : Int) (hk : 4 ≤ k) (c : Val) : takC k c = if c.kind = k ∧ rightB c = true then some c.f else none := by
  unfold takC
  have e : takeB k c = true ↔ c.kind = k ∧ rightB c = true := by
    unfold takeB
    constructor
    · intro h
      simp only [Bool.and_eq_true, Bool.or_eq_true, decide_eq_true_eq, beq_iff_eq] at h
      exact ⟨h.1.1, h.2.resolve_left (by omega)⟩
    · rintro ⟨h1, h2⟩
      have hw : wholeB c = true := by
        unfold rightB at h2
        simp only [Bool.and_eq_true] at h2
        exact h2.1
      simp [h1, h2, hw]
  by_cases h : c.kind = k ∧ rightB c = true
  · rw [if_pos h, if_pos (e.2 h)]
  · rw [if_neg h, if_neg (fun q => h (e.1 q))]

/-- A row of two values. -/
theorem LA.pair {w : World} {g n cap : Nat} {a b : Val} (h : LA w (.slice (some ⟨g, 0, none⟩) n cap) [a, b]) : ∃ fa fb, w.cell? ⟨g, 0, none⟩ = some (.int .i64 a.kind) ∧ w.cell? ⟨g, 1, none⟩ = some fa ∧ w.cell? ⟨g, 2, none⟩ = some (.int .i64 b.kind) ∧ w.cell? ⟨g, 3, none⟩ = some fb ∧ IA w fa a.f ∧ IA w fb b.f ∧ n = 2 ∧ g < w.heap.size := by
  obtain ⟨fa, a0, a1, a2⟩ := h.get 0 (by simp)
  obtain ⟨fb, b0, b1, b2⟩ := h.get 1 (by simp)
  obtain ⟨_, _, e, _⟩ := h
  injection e with _ e2
  exact ⟨fa, fb, a0, a1, b0, b1, a2, b2, e2, lt_of_cell a0⟩

/-- Nothing made: what the result's block holds, and what that says. -/
theorem no_end {w w1 : World} (hb : Below w.heap.size w w1) (hz : w1.heap[w.heap.size]? = some (.cells #[.int .i64 0, .slice none 0 0] 27 (0, 0))) :
    ((w1.setCell ⟨w.heap.size, 0, none⟩ (.int .i64 0)).setCell ⟨w.heap.size, 1, none⟩ (.slice none 0 0)).heap[w.heap.size]? = some (.cells #[.int .i64 0, .slice none 0 0] 27 (0, 0)) ∧
    RetR w none (.returned (.tuple #[.agg #[.int .i64 0, .slice none 0 0], .bool false])) ((w1.setCell ⟨w.heap.size, 0, none⟩ (.int .i64 0)).setCell ⟨w.heap.size, 1, none⟩ (.slice none 0 0)) :=
  ⟨heap_setCell_same _ _ 1 _ _ (.slice none 0 0) (heap_setCell_same _ _ 0 _ _ (.int .i64 0) hz), RetR.no rfl ((hb.setCell (p := ⟨w.heap.size, 0, none⟩) (Nat.le_refl _) (.int .i64 0)).setCell (p := ⟨w.heap.size, 1, none⟩) (Nat.le_refl _) (.slice none 0 0))⟩
/-- Something laid into the result's block. -/
theorem put_end {w w1 : World} {k : Int} {sl : Value} {f : List Int} (hb : Below w.heap.size w w1) (hz : w1.heap[w.heap.size]? = some (.cells #[.int .i64 0, .slice none 0 0] 27 (0, 0))) (hf : NA (w.heap.size + 1) w1 sl f) :
    ((w1.setCell ⟨w.heap.size, 0, none⟩ (.int .i64 k)).setCell ⟨w.heap.size, 1, none⟩ sl).heap[w.heap.size]? = some (.cells #[.int .i64 k, sl] 27 (0, 0)) ∧
    RetR w (some ⟨k, f⟩) (.returned (.tuple #[.agg #[.int .i64 k, sl], .bool true])) ((w1.setCell ⟨w.heap.size, 0, none⟩ (.int .i64 k)).setCell ⟨w.heap.size, 1, none⟩ sl) ∧
    RetR w none (.returned (.tuple #[.agg #[.int .i64 k, sl], .bool false])) ((w1.setCell ⟨w.heap.size, 0, none⟩ (.int .i64 k)).setCell ⟨w.heap.size, 1, none⟩ sl) := by
  obtain ⟨h1, h2, h3⟩ := put_res (k := k) (sl := sl) (x := ⟨k, f⟩) hz hb (Nat.le_refl _) ⟨_, rfl, hf⟩
  obtain ⟨ad, cap, e, _⟩ := hf.ia.shape
  subst e
  exact ⟨h1, RetR.yes rfl h2 h3, RetR.no rfl h2⟩

set_option maxRecDepth 8000 in
set_option maxHeartbeats 4000000 in
theorem rpaid_any (a b : Val) (g n cap : Nat) (w : World) (hl : LA w (.slice (some ⟨g, 0, none⟩) n cap) [a, b]) :
    Calls Tryz.prog 96 #[.slice (some ⟨g, 0, none⟩) n cap] w (RetR w (moneyO a b)) := by
  obtain ⟨fa, fb, g0, g1, g2, g3, hfa, hfb, rfl, hgl⟩ := hl.pair
  obtain ⟨ka, la⟩ := a
  obtain ⟨kb, lb⟩ := b
  dsimp only at *
  obtain ⟨ada, capa, rfl, _⟩ := hfa.shape
  obtain ⟨adb, capb, rfl, hb1, hb2, hb3⟩ := hfb.shape
  have HW := hid fun (w' : World) (hb : Below w.heap.size w w') => rword_any ⟨ka, la⟩ _ w' ⟨_, rfl, hfa.on hb⟩
  have HRR := hid fun (w' : World) (hb : Below w.heap.size w w') => rright_any ⟨kb, lb⟩ _ w' ⟨_, rfl, hfb.on hb⟩
  have HFB := hid hfb
  have HE : Hid (moneyO ⟨ka, la⟩ ⟨kb, lb⟩ = (wordC ⟨ka, la⟩).bind fun c => (if kb = 7 ∧ rightB ⟨kb, lb⟩ = true then some lb else none).bind fun f => if 0 ≤ c then (De.Dc.scaled (f.getD 0 0) (f.getD 1 0).toNat (c % 10).toNat).bind fun n => some ⟨8, [c, n]⟩ else none) := hid (by unfold moneyO; rw [take_if 7 (by decide)])
  have HRB := hid fun (h : kb = 7 ∧ rightB ⟨kb, lb⟩ = true) => (takC_dec (c := ⟨kb, lb⟩) (m := lb.getD 0 0) (s := lb.getD 1 0) (by
    rw [take_if 7 (by decide), if_pos h]
    have hw : wholeB ⟨kb, lb⟩ = true := by
      have h2 := h.2
      unfold rightB at h2
      simp only [Bool.and_eq_true] at h2
      exact h2.1
    have := (len_of_whole hw).2
    rw [h.1, show fieldsL.getD (Int.toNat 7) 0 = 2 by decide] at this
    obtain ⟨x, y, rfl⟩ := len2 (f := lb) (by omega)
    rfl))
  have HLB := hid fun (h : kb = 7 ∧ rightB ⟨kb, lb⟩ = true) => (show lb.length = 2 by
    have hw : wholeB ⟨kb, lb⟩ = true := by
      have h2 := h.2
      unfold rightB at h2
      simp only [Bool.and_eq_true] at h2
      exact h2.1
    have := (len_of_whole hw).2
    rw [h.1, show fieldsL.getD (Int.toNat 7) 0 = 2 by decide] at this
    omega)
  clear hfa hfb hl
  generalize hwc : wordC ⟨ka, la⟩ = wc at *
  generalize moneyO ⟨ka, la⟩ ⟨kb, lb⟩ = mo at *
  clear hwc
  obtain ⟨wz, hwz⟩ : ∃ wz, wz = w.alloc (.cells #[.int .i64 0, .slice none 0 0] 27) := ⟨_, rfl⟩
  have HBz := hid (show Below w.heap.size w wz by rw [hwz]; exact up_alloc _ _)
  have ZZ := hid (show wz.heap[w.heap.size]? = some (.cells #[.int .i64 0, .slice none 0 0] 27 (0, 0)) by rw [hwz]; exact new_row _ _)
  have z0 := (HBz.out.cell (p := ⟨g, 0, none⟩) hgl).trans g0
  have z1 := (HBz.out.cell (p := ⟨g, 1, none⟩) hgl).trans g1
  go_enter Tryz.func96, Tryz.ntmps96
  rw [hwz] at z0 z1
  go_wp2_with fail
  rw [← hwz]
  clear hwz z0 z1
  refine (HW.out _ HBz.out).mono ?_
  rintro e w1 ⟨rfl, hb1⟩
  have HB1 := hid (up_trans HBz.out hb1)
  have Z1 := hid (row_on hb1 ZZ.out)
  have q2 := (HB1.out.cell (p := ⟨g, 2, none⟩) hgl).trans g2
  have q3 := (HB1.out.cell (p := ⟨g, 3, none⟩) hgl).trans g3
  have r0 : w1.cell? ⟨w.heap.size, 0, none⟩ = some (.int .i64 0) := by rw [cell_of_row Z1.out]; rfl
  have r1 : w1.cell? ⟨w.heap.size, 1, none⟩ = some (.slice none 0 0) := by rw [cell_of_row Z1.out]; rfl
  have r2 : ∀ o, w1.frozen? ⟨w.heap.size, o, none⟩ = false := fun o => frozen_of_row Z1.out
  clear hb1 ZZ HBz g0 g1
  obtain ⟨hn1, hn2⟩ := no_end HB1.out Z1.out
  have HNZ := hid hn1
  have HNO := hid hn2
  clear hn1 hn2
  cases wc with
  | none =>
    obtain rfl : mo = none := HE.out
    unfold optV
    go_wp2
    refine bodyPost_ret (results_cell_tmp rfl _ _ w.heap.size _ rfl (run_loadVar_row _ _ 27 27 _ (0, 0) _ HNZ.out Tryz.underlying27 rfl (by kernel_rfl))) rfl ?_
    exact HNO.out
  | some c =>
    have HE2 := hid (show mo = ((if kb = 7 ∧ rightB ⟨kb, lb⟩ = true then some lb else none).bind fun f => if 0 ≤ c then (De.Dc.scaled (f.getD 0 0) (f.getD 1 0).toNat (c % 10).toNat).bind fun n => some ⟨8, [c, n]⟩ else none) from HE.out)
    clear HE
    unfold optV
    by_cases hc : 0 ≤ c
    case neg =>
      have hc1 : c < 0 := by omega
      obtain rfl : mo = none := by
        rw [HE2.out]
        split <;> rfl
      go_wp2
      refine bodyPost_ret (results_cell_tmp rfl _ _ w.heap.size _ rfl (run_loadVar_row _ _ 27 27 _ (0, 0) _ HNZ.out Tryz.underlying27 rfl (by kernel_rfl))) rfl ?_
      exact HNO.out
    case pos =>
      have hc1 : ¬ c < 0 := by omega
      by_cases h7 : kb = 7
      case neg =>
        have h7' : (kb != 7) = true := by simp [h7]
        obtain rfl : mo = none := by
          rw [HE2.out, if_neg (fun h => h7 h.1)]; rfl
        go_wp2
        refine bodyPost_ret (results_cell_tmp rfl _ _ w.heap.size _ rfl (run_loadVar_row _ _ 27 27 _ (0, 0) _ HNZ.out Tryz.underlying27 rfl (by kernel_rfl))) rfl ?_
        exact HNO.out
      case pos =>
        subst h7
        have hrr := HRR.out w1 HB1.out
        have HR1 := hid hrr
        clear hrr HRR
        go_wp2_with fail
        refine HR1.out.mono ?_
        rintro e w2 ⟨rfl, hb2⟩
        have HB2 := hid (up_trans HB1.out hb2)
        have Z2 := hid (row_on hb2 Z1.out)
        have s0 : w2.cell? ⟨w.heap.size, 0, none⟩ = some (.int .i64 0) := by rw [cell_of_row Z2.out]; rfl
        have s1 : w2.cell? ⟨w.heap.size, 1, none⟩ = some (.slice none 0 0) := by rw [cell_of_row Z2.out]; rfl
        have s2 : ∀ o, w2.frozen? ⟨w.heap.size, o, none⟩ = false := fun o => frozen_of_row Z2.out
        clear hb2 HNZ HNO HR1 q2 q3 r0 r1 r2 Z1 HB1
        by_cases hr : rightB ⟨7, lb⟩ = true
        case neg =>
          have hr' : rightB ⟨7, lb⟩ = false := by simpa using hr
          obtain rfl : mo = none := by rw [HE2.out, if_neg (fun h => hr h.2)]; rfl
          obtain ⟨hn1, hn2⟩ := no_end HB2.out Z2.out
          have HNZ := hid hn1
          have HNO := hid hn2
          clear hn1 hn2
          rw [hr']
          go_wp2
          refine bodyPost_ret (results_cell_tmp rfl _ _ w.heap.size _ rfl (run_loadVar_row _ _ 27 27 _ (0, 0) _ HNZ.out Tryz.underlying27 rfl (by kernel_rfl))) rfl ?_
          exact HNO.out
        case pos =>
          obtain ⟨d0, d1, d2, d3⟩ := HRB.out ⟨by trivial, hr⟩
          obtain ⟨m, s, rfl⟩ := len2 (HLB.out ⟨by trivial, hr⟩)
          rw [hr]
          have d0 : -999999999999999999 ≤ m := d0
          have d1 : m ≤ 999999999999999999 := d1
          have d2 : 0 ≤ s := d2
          have d3 : s ≤ 18 := d3
          obtain ⟨s', rfl⟩ := Int.eq_ofNat_of_zero_le d2
          obtain ⟨c', hc'⟩ : ∃ c' : Nat, c % 10 = c' := ⟨(c % 10).toNat, by omega⟩
          have HSC := hid fun w => De.rscaled_any m s' c' w (by omega) (by omega) (by omega) (by omega)
          have HE3 := hid (show mo = (De.Dc.scaled m s' c').bind fun n => some ⟨8, [c, n]⟩ by
            rw [HE2.out, if_pos ⟨by trivial, hr⟩]
            show (if 0 ≤ c then (De.Dc.scaled m ((s' : Int)).toNat (c % 10).toNat).bind _ else none) = _
            rw [if_pos hc, hc', Int.toNat_natCast, Int.toNat_natCast])
          obtain ⟨bb, oo, cap', e, _, _, hlt⟩ := (HFB.out.on HB2.out).has2
          injection e with e1 e2 e3
          subst e1 e3
          have t1 := (HFB.out.on HB2.out).cell0
          have t2 := (HFB.out.on HB2.out).cell1
          have t3 := (HB2.out.cell (p := ⟨g, 3, none⟩) hgl).trans g3
          have hct : c.tmod 10 = (c' : Int) := by rw [Int.tmod_eq_emod_of_nonneg hc]; exact hc'
          clear HE2 HRB HLB HFB hr e2
          have hlen2 : ([m, (s' : Int)].length : Nat) = 2 := rfl
          cases hsc : De.Dc.scaled m s' c' with
          | none =>
            rw [hsc] at HSC HE3
            obtain rfl : mo = none := HE3.out
            unfold De.scV at HSC
            go_wp2
            go_quiet ((go_at_call 112; exact (HSC.out _).mono (fun e w' h => ⟨h.1, _, h.2⟩)))
            have hb3 : Below w2.heap.size w2 (w2.drewN nq) := below_drewN (Below.refl _ _) nq
            generalize w2.drewN nq = w3 at *
            have HB3 := hid (up_trans HB2.out hb3)
            have Z3 := hid (row_on hb3 Z2.out)
            obtain ⟨w4, hw4⟩ : ∃ w4, w4 = w3.alloc (.cells #[.int .i64 c, .int .i64 0] 3) := ⟨_, rfl⟩
            have HB4 := hid (show Below w.heap.size w w4 by rw [hw4]; exact up_trans HB3.out (up_alloc _ _))
            have hlt3 : w.heap.size + 1 ≤ w3.heap.size := (Array.getElem?_eq_some_iff.1 Z3.out).1
            obtain ⟨e1, e2, e3⟩ := put_end (k := 8) (sl := .slice (some ⟨w3.heap.size, 0, none⟩) 2 2) (f := [c, 0]) HB4.out (by rw [hw4]; exact row_up Z3.out) (NA.at [c, 0] (show w4.heap[w3.heap.size]? = some _ by rw [hw4]; exact new_row _ _) hlt3 (by simp))
            have E1 := hid e1
            have E2 := hid e3
            have u0 : w4.cell? ⟨w.heap.size, 0, none⟩ = some (.int .i64 0) := by rw [hw4, cell_of_row (row_up Z3.out)]; rfl
            have u1 : w4.cell? ⟨w.heap.size, 1, none⟩ = some (.slice none 0 0) := by rw [hw4, cell_of_row (row_up Z3.out)]; rfl
            have u2 : ∀ o, w4.frozen? ⟨w.heap.size, o, none⟩ = false := fun o => by rw [hw4]; exact frozen_of_row (row_up Z3.out)
            rw [hw4] at u0 u1 u2
            clear e1 e2 e3 s0 s1 s2 t1 t2 t3 hb3
            go_wp2
            rw [← hw4]
            refine bodyPost_ret (results_cell_tmp rfl _ _ w.heap.size _ rfl (run_loadVar_row _ _ 27 27 _ (0, 0) _ E1.out Tryz.underlying27 rfl (by kernel_rfl))) rfl ?_
            exact E2.out
          | some z =>
            rw [hsc] at HSC HE3
            obtain rfl : mo = some ⟨8, [c, z]⟩ := HE3.out
            unfold De.scV at HSC
            go_wp2
            go_quiet ((go_at_call 112; exact (HSC.out _).mono (fun e w' h => ⟨h.1, _, h.2⟩)))
            have hb3 : Below w2.heap.size w2 (w2.drewN nq) := below_drewN (Below.refl _ _) nq
            generalize w2.drewN nq = w3 at *
            have HB3 := hid (up_trans HB2.out hb3)
            have Z3 := hid (row_on hb3 Z2.out)
            obtain ⟨w4, hw4⟩ : ∃ w4, w4 = w3.alloc (.cells #[.int .i64 c, .int .i64 z] 3) := ⟨_, rfl⟩
            have HB4 := hid (show Below w.heap.size w w4 by rw [hw4]; exact up_trans HB3.out (up_alloc _ _))
            have hlt3 : w.heap.size + 1 ≤ w3.heap.size := (Array.getElem?_eq_some_iff.1 Z3.out).1
            obtain ⟨e1, e2, e3⟩ := put_end (k := 8) (sl := .slice (some ⟨w3.heap.size, 0, none⟩) 2 2) (f := [c, z]) HB4.out (by rw [hw4]; exact row_up Z3.out) (NA.at [c, z] (show w4.heap[w3.heap.size]? = some _ by rw [hw4]; exact new_row _ _) hlt3 (by simp))
            have E1 := hid e1
            have E2 := hid e2
            have u0 : w4.cell? ⟨w.heap.size, 0, none⟩ = some (.int .i64 0) := by rw [hw4, cell_of_row (row_up Z3.out)]; rfl
            have u1 : w4.cell? ⟨w.heap.size, 1, none⟩ = some (.slice none 0 0) := by rw [hw4, cell_of_row (row_up Z3.out)]; rfl
            have u2 : ∀ o, w4.frozen? ⟨w.heap.size, o, none⟩ = false := fun o => by rw [hw4]; exact frozen_of_row (row_up Z3.out)
            rw [hw4] at u0 u1 u2
            clear e1 e2 e3 s0 s1 s2 t1 t2 t3 hb3
            go_wp2
            rw [← hw4]
            refine bodyPost_ret (results_cell_tmp rfl _ _ w.heap.size _ rfl (run_loadVar_row _ _ 27 27 _ (0, 0) _ E1.out Tryz.underlying27 rfl (by kernel_rfl))) rfl ?_
            exact E2.out
end Go.Proofs.YtengcdodoblabaaGreatDoor
