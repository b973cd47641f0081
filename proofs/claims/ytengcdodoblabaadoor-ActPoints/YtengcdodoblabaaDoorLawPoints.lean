/- ActPoints answers true of any four arguments: a number and one behind the point are the decimal that they are typed as, and below 0 the same. The table of how many numbers a kind has, and what an action stops with, are as listed. -/
import Derived.Test.YtengcdodoblabaaDoorCards
import Derived.Test.YtengcdodoblabaaDoorTie
import Derived.Test.YtengcdodoblabaaDoorTab
import Derived.ProofKit
import Derived.OpenShut
import Derived.Lay
import Derived.SevenTiedAt
import Derived.Stop.Joined
import Derived.Lib.LaidTab
import Derived.Deep.Cut
import Derived.Deep.CutBlock
import Derived.Deep.RegionHeld
import Derived.Test.YtengcdodoblabaaDoorVal
namespace Go.Proofs.YtengcdodoblabaaDoor
open Go.ChangeShapes Go.WideShapes Go.ChangeAt Go.RowKit

theorem ten_six (k : Nat) (hk : k < 6) : 10 ≤ De.Dc.ten (k + 1) ∧ De.Dc.ten (k + 1) ≤ 1000000 := by
  have : k = 0 ∨ k = 1 ∨ k = 2 ∨ k = 3 ∨ k = 4 ∨ k = 5 := by omega
  rcases this with rfl | rfl | rfl | rfl | rfl | rfl <;> decide
theorem tens_at (w : World) (k : Nat) (hk : k < 6) : (w.alloc (.cells #[.int .i64 10, .int .i64 100, .int .i64 1000, .int .i64 10000, .int .i64 100000, .int .i64 1000000] 3)).cell? ⟨w.heap.size, k, none⟩ = some (.int .i64 (De.Dc.ten (k + 1))) := by
  rw [cell_of_row (new_row w _)]
  have : k = 0 ∨ k = 1 ∨ k = 2 ∨ k = 3 ∨ k = 4 ∨ k = 5 := by omega
  rcases this with rfl | rfl | rfl | rfl | rfl | rfl <;> rfl
theorem norm_take (m : Int) (s : Nat) (hs : s ≤ 18) (h0 : -1000000000000000000 < m) (h1 : m < 1000000000000000000) : takC 7 ⟨7, [(De.Dc.norm m s).1, ((De.Dc.norm m s).2 : Int)]⟩ = some [(De.Dc.norm m s).1, ((De.Dc.norm m s).2 : Int)] := by
  unfold takC takeB
  rw [norm_right m s hs h0 h1]
  rfl
theorem point_joins (x y D : Int) (k : Nat) (hD : D = ((k + 1 : Nat) : Int)) (hk : k < 6) (x0 : 0 ≤ x) (x1 : x ≤ 1073741823) (y0 : 0 ≤ y) (y1 : y < De.Dc.ten (k + 1)) : Joins ⟨1, [x, 10]⟩ ⟨1, [y, D]⟩ := by
  subst hD
  intro a m s ha hm
  obtain rfl : x = a := Option.some.inj ha
  have e : [y, ((k + 1 : Nat) : Int)] = [m, s] := Option.some.inj hm
  injection e with e1 e2
  injection e2 with e2 _
  subst e1 e2
  rw [Int.toNat_natCast]
  obtain ⟨t0, t1⟩ := ten_six k hk
  refine ⟨x0, y0, by omega, by omega, y1, ?_⟩
  have : x * De.Dc.ten (k + 1) ≤ 1073741823 * 1000000 := Int.mul_le_mul x1 t1 (by omega) (by omega)
  omega
theorem point_bd (x y : Int) (k : Nat) (hk : k < 6) (x0 : 0 ≤ x) (x1 : x ≤ 1073741823) (_y0 : 0 ≤ y) (y1 : y < De.Dc.ten (k + 1)) : 0 ≤ x * De.Dc.ten (k + 1) ∧ x * De.Dc.ten (k + 1) ≤ 1073741823000000 ∧ x * De.Dc.ten (k + 1) + y < 1000000000000000000 := by
  obtain ⟨t0, t1⟩ := ten_six k hk
  have h1 : x * De.Dc.ten (k + 1) ≤ 1073741823 * 1000000 := Int.mul_le_mul x1 t1 (by omega) (by omega)
  have h2 : 0 ≤ x * De.Dc.ten (k + 1) := Int.mul_nonneg x0 (by omega)
  omega
theorem point_made (r : Mom) (x y D : Int) (k : Nat) (hD : D = ((k + 1 : Nat) : Int)) (hk : k < 6) (x0 : 0 ≤ x) (x1 : x ≤ 1073741823) (y0 : 0 ≤ y) (y1 : y < De.Dc.ten (k + 1)) :
    doO 9 (madeO 9 r [⟨1, [x, 10]⟩, ⟨1, [y, D]⟩]) = some ⟨7, [(De.Dc.norm (x * De.Dc.ten (k + 1) + y) (k + 1)).1, ((De.Dc.norm (x * De.Dc.ten (k + 1) + y) (k + 1)).2 : Int)]⟩ := by
  subst hD
  obtain ⟨b0, b1, b2⟩ := point_bd x y k hk x0 x1 y0 y1
  show doO 9 (pointO ⟨1, [x, 10]⟩ ⟨1, [y, ((k + 1 : Nat) : Int)]⟩) = _
  have e : pointO ⟨1, [x, 10]⟩ ⟨1, [y, ((k + 1 : Nat) : Int)]⟩ = some ⟨7, [(De.Dc.norm (x * De.Dc.ten (k + 1) + y) (k + 1)).1, ((De.Dc.norm (x * De.Dc.ten (k + 1) + y) (k + 1)).2 : Int)]⟩ := by
    show some (⟨7, [(De.Dc.norm (x * De.Dc.ten ((k + 1 : Nat) : Int).toNat + y) ((k + 1 : Nat) : Int).toNat).1, _]⟩ : Val) = _
    rw [Int.toNat_natCast]
    rfl
  rw [e]
  exact if_pos (.inr (norm_right _ _ (by omega) (by omega) b2))
theorem neg_made (r : Mom) (m : Int) (s : Nat) (hs : s ≤ 18) (h0 : -1000000000000000000 < m) (h1 : m < 1000000000000000000) :
    doO 11 (madeO 11 r [⟨7, [(De.Dc.norm m s).1, ((De.Dc.norm m s).2 : Int)]⟩]) = some ⟨7, [-(De.Dc.norm m s).1, ((De.Dc.norm m s).2 : Int)]⟩ := by
  show doO 11 (negO ⟨7, [(De.Dc.norm m s).1, ((De.Dc.norm m s).2 : Int)]⟩) = _
  unfold negO
  rw [norm_take m s hs h0 h1]
  have e := De.Dc.norm_neg s m
  have h := norm_right (-m) s hs (by omega) (by omega)
  rw [e] at h
  exact if_pos (.inr h)

theorem row_at {w : World} {o : Obj} {g : Nat} (h : g = w.heap.size) : (w.alloc o).heap[g]? = some o := by subst h; exact new_row w o
theorem row_up {w : World} {o o' : Obj} {g : Nat} (h : w.heap[g]? = some o) : (w.alloc o').heap[g]? = some o := ((up_alloc w o').block g (Array.getElem?_eq_some_iff.1 h).1).trans h
theorem row_drew {w : World} {o : Obj} {g : Nat} (h : w.heap[g]? = some o) : w.drew.heap[g]? = some o := h
theorem row_on {w w' : World} {o : Obj} {g : Nat} (hb : Below w.heap.size w w') (h : w.heap[g]? = some o) : w'.heap[g]? = some o := (hb.block g (Array.getElem?_eq_some_iff.1 h).1).trans h

theorem row_on2 {w w' : World} {o : Obj} {g : Nat} (hb : Below w.heap.size w w') (h : w.heap[g]? = some o) : w'.heap[g]? = some o ∧ g < w.heap.size := ⟨row_on hb h, (Array.getElem?_eq_some_iff.1 h).1⟩
/-- What stands behind the second call: the answer in its block. -/
def Fin (w5 : World) (m s : Int) (v18 v19 : Value) (w : World) : Prop :=
  ∃ g sv, v18 = .pointer (some ⟨g, 0, none⟩) ∧ v19 = .bool true ∧ Hid (w.heap[g]? = some (.cells #[.int .i64 7, sv] 24 (0, 0))) ∧ Hid (IA w sv [m, s]) ∧ Hid (Below w5.heap.size w5 w)
theorem fin_alloc {w5 w4 : World} {m s : Int} {sv : Value} (hf : IA w4 sv [m, s]) (hb : Below w5.heap.size w5 w4) : Fin w5 m s (.pointer (some ⟨w4.heap.size, 0, none⟩)) (.bool true) (w4.alloc (.cells #[.int .i64 7, sv] 24)) :=
  ⟨_, _, rfl, rfl, new_row _ _, hf.on (up_alloc _ _), up_trans hb (up_alloc _ _)⟩
theorem fin_set {w5 w4 : World} {m s : Int} {sv z0 z1 : Value} {B g : Nat} (hz : w4.heap[g]? = some (.cells #[z0, z1] 24 (0, 0))) (hf : NA B w4 sv [m, s]) (hg : g < B) (hg5 : w5.heap.size ≤ g) (hb : Below w5.heap.size w5 w4) :
    Fin w5 m s (.pointer (some ⟨g, 0, none⟩)) (.bool true) ((w4.setCell ⟨g, 0, none⟩ (.int .i64 7)).setCell ⟨g, 1, none⟩ sv) :=
  ⟨_, _, rfl, rfl, heap_setCell_same _ _ 1 _ _ _ (heap_setCell_same _ _ 0 _ _ _ hz), (NA.set (NA.set hf hg) hg).ia, (hb.setCell (p := ⟨g, 0, none⟩) hg5 _).setCell (p := ⟨g, 1, none⟩) hg5 _⟩
section
variable {w5 : World} {bv : Nat} {sv : Value}
theorem s_up {w : World} (h : w.cell? ⟨bv, 0, none⟩ = some (.int .i64 7) ∧ w.cell? ⟨bv, 1, none⟩ = some sv ∧ Hid (Below w5.heap.size w5 w)) (o : Obj) :
    (w.alloc o).cell? ⟨bv, 0, none⟩ = some (.int .i64 7) ∧ (w.alloc o).cell? ⟨bv, 1, none⟩ = some sv ∧ Hid (Below w5.heap.size w5 (w.alloc o)) :=
  ⟨((up_alloc w o).cell (lt_of_cell h.1)).trans h.1, ((up_alloc w o).cell (lt_of_cell h.2.1)).trans h.2.1, up_trans h.2.2 (up_alloc _ _)⟩
theorem s_on {w w' : World} (h : w.cell? ⟨bv, 0, none⟩ = some (.int .i64 7) ∧ w.cell? ⟨bv, 1, none⟩ = some sv ∧ Hid (Below w5.heap.size w5 w)) (hb : Below w.heap.size w w') :
    w'.cell? ⟨bv, 0, none⟩ = some (.int .i64 7) ∧ w'.cell? ⟨bv, 1, none⟩ = some sv ∧ Hid (Below w5.heap.size w5 w') :=
  ⟨(hb.cell (lt_of_cell h.1)).trans h.1, (hb.cell (lt_of_cell h.2.1)).trans h.2.1, up_trans h.2.2 hb⟩
theorem s_set {w : World} {g : Nat} {x y : Value} (h : w.cell? ⟨bv, 0, none⟩ = some (.int .i64 7) ∧ w.cell? ⟨bv, 1, none⟩ = some sv ∧ Hid (Below w5.heap.size w5 w)) (hbv : bv < w5.heap.size) (hg : w5.heap.size ≤ g) :
    ((w.setCell ⟨g, 0, none⟩ x).setCell ⟨g, 1, none⟩ y).cell? ⟨bv, 0, none⟩ = some (.int .i64 7) ∧ ((w.setCell ⟨g, 0, none⟩ x).setCell ⟨g, 1, none⟩ y).cell? ⟨bv, 1, none⟩ = some sv ∧ Hid (Below w5.heap.size w5 ((w.setCell ⟨g, 0, none⟩ x).setCell ⟨g, 1, none⟩ y)) := by
  have hb : Below w5.heap.size w5 ((w.setCell ⟨g, 0, none⟩ x).setCell ⟨g, 1, none⟩ y) := (h.2.2.out.setCell (p := ⟨g, 0, none⟩) hg _).setCell (p := ⟨g, 1, none⟩) hg _
  exact ⟨((hb.cell (p := ⟨bv, 0, none⟩) hbv).trans (h.2.2.out.cell (p := ⟨bv, 0, none⟩) hbv).symm).trans h.1, ((hb.cell (p := ⟨bv, 1, none⟩) hbv).trans (h.2.2.out.cell (p := ⟨bv, 1, none⟩) hbv).symm).trans h.2.1, hb⟩
end

set_option maxRecDepth 8000 in
set_option maxHeartbeats 8000000 in
theorem walk (a b digits n : Int) (W : World) (w0 : (Lit.int .i64 a).wf = true) (w1 : (Lit.int .i64 b).wf = true) (w2 : (Lit.int .i64 digits).wf = true) (w3 : (Lit.int .i64 n).wf = true) (hX : TabsE W) : Calls Tryd.prog 6 #[.int .i64 a, .int .i64 b, .int .i64 digits, .int .i64 n] W fun e W' => e = .returned (.bool true) ∧ Below W.heap.size W W' := by
  obtain ⟨p, hT⟩ := hX
  obtain ⟨ba, ba'⟩ := wf_bd w0
  obtain ⟨bb, bb'⟩ := wf_bd w1
  obtain ⟨bd, bd'⟩ := wf_bd w2
  obtain ⟨bn, bn'⟩ := wf_bd w3
  have HK := hid (known_any p W hT)
  have HT := hid hT
  have HR := hid fun w => ref_any n w bn bn'
  have HRR := hid (refM_right n)
  have H1 := hid fun w => lwithin_any digits 6 w (by decide) (by decide) bd bd'
  have H2 := hid fun w => lwithin_any a 1073741824 w (by decide) (by decide) ba ba'
  obtain ⟨k, hk⟩ : ∃ k : Nat, digits % 6 = k := ⟨(digits % 6).toNat, by omega⟩
  rw [hk] at H1
  have hk6 : k < 6 := by omega
  obtain ⟨t0, t1⟩ := ten_six k hk6
  have H3 := hid fun w => lwithin_any b (De.Dc.ten (k + 1)) w (by omega) (by omega) bb bb'
  have hx : 0 ≤ a % 1073741824 ∧ a % 1073741824 ≤ 1073741823 := by omega
  have hy0 : 0 ≤ b % De.Dc.ten (k + 1) := Int.emod_nonneg _ (by omega)
  have hy1 : b % De.Dc.ten (k + 1) < De.Dc.ten (k + 1) := Int.emod_lt_of_pos _ (by omega)
  generalize a % 1073741824 = x at *
  generalize b % De.Dc.ten (k + 1) = y at *
  obtain ⟨hx0, hx1⟩ := hx
  obtain ⟨D, hD⟩ : ∃ D : Int, D = ((k + 1 : Nat) : Int) := ⟨_, rfl⟩
  have HM := hid (point_made (refM n) x y D k hD hk6 hx0 hx1 hy0 hy1)
  have HJ := hid (point_joins x y D k hD hk6 hx0 hx1 hy0 hy1)
  obtain ⟨q0, q1, q2⟩ := point_bd x y k hk6 hx0 hx1 hy0 hy1
  have HTA := hid fun w => tens_at w k hk6
  clear hT w0 w1 w2 w3 ba ba' bb bb' bd bd' bn bn' hk
  generalize De.Dc.ten (k + 1) = P at *
  have HG := hid (neg_made (refM n) (x * P + y) (k + 1) (by omega) (by omega) q2)
  have HRI := hid (norm_right (x * P + y) (k + 1) (by omega) (by omega) q2)
  obtain ⟨M, hM⟩ : ∃ M, M = x * P + y := ⟨_, rfl⟩
  rw [← hM] at HM HG q2 HRI
  have hw1 : wrap64 (x * P) = x * P := IntWalk.wrap64_in _ (by omega)
  have hM0 : 0 ≤ M := by omega
  obtain ⟨m', hm'⟩ : ∃ m', m' = (De.Dc.norm M (k + 1)).1 := ⟨_, rfl⟩
  obtain ⟨s', hs'⟩ : ∃ s' : Nat, s' = (De.Dc.norm M (k + 1)).2 := ⟨_, rfl⟩
  rw [← hm', ← hs'] at HM HG HRI
  have hmb := De.norm_bd' M (k + 1) (by omega) (by omega)
  rw [← hm'] at hmb
  obtain ⟨hmb0, hmb1⟩ := hmb
  have HM' := hid hm'
  have HS' := hid hs'
  clear hm' hs'
  go_enter Tryd.func6, Tryd.ntmps6
  go_wp2_with fail
  refine HK.out.mono ?_
  rintro e w1 ⟨rfl, hb1⟩
  have HB1 := hid hb1
  clear hb1 HK
  go_wp2_with fail
  refine (H1.out _).mono ?_
  rintro e wn ⟨rfl, hw⟩
  obtain rfl := hw.symm
  clear hw
  have HD' := hid hD
  clear hD
  have c0 := HTA.out w1
  have hk6' : (k : Int) < 6 := by omega
  have hd1 : wrap64 (1 + (k : Int) - 1) = k := by rw [show (1 : Int) + (k : Int) - 1 = k by omega]; exact IntWalk.wrap64_in _ (by omega)
  obtain ⟨wA, hwA⟩ : ∃ wA, wA = w1.alloc (.cells #[.int .i64 10, .int .i64 100, .int .i64 1000, .int .i64 10000, .int .i64 100000, .int .i64 1000000] 3) := ⟨_, rfl⟩
  have HBA := hid (show Below W.heap.size W wA by rw [hwA]; exact up_trans HB1.out (up_alloc _ _))
  go_wp2_with fail
  rw [← hwA]
  clear hwA c0
  have hD' : (1 : Int) + (k : Int) = D := by rw [HD'.out]; omega
  refine (H2.out _).mono ?_
  rintro e wn ⟨rfl, hw⟩
  obtain rfl := hw.symm
  clear hw
  go_wp2_with fail
  refine (H3.out _).mono ?_
  rintro e wn ⟨rfl, hw⟩
  obtain rfl := hw.symm
  clear hw
  clear H1 H2 H3 HTA
  obtain ⟨wB, hwB⟩ : ∃ wB, wB = (((wA.alloc (.cells #[.int .i64 (x), .int .i64 (10)] 3)).alloc (.cells #[.int .i64 (y), .int .i64 (D)] 3)).alloc (.cells #[.int .i64 1, .slice (some ⟨wA.heap.size, 0, none⟩) 2 2, .int .i64 1, .slice (some ⟨wA.heap.size + 1, 0, none⟩) 2 2] 24)).alloc (.cells #[.int .i64 (0), .int .i64 (1)] 3) := ⟨_, rfl⟩
  obtain ⟨hc, hb, hswB⟩ := chain_heap wA [.cells #[.int .i64 (x), .int .i64 (10)] 3, .cells #[.int .i64 (y), .int .i64 (D)] 3, .cells #[.int .i64 1, .slice (some ⟨wA.heap.size, 0, none⟩) 2 2, .int .i64 1, .slice (some ⟨wA.heap.size + 1, 0, none⟩) 2 2] 24, .cells #[.int .i64 (0), .int .i64 (1)] 3]
  simp only [List.foldl_cons, List.foldl_nil] at hc hb hswB
  rw [← hwB] at hc hb hswB
  have hwB_0 := hid (show wB.heap[wA.heap.size]? = some _ from hc 0 _ rfl)
  have hwB_1 := hid (hc 1 _ rfl)
  have hwB_2 := hid (hc 2 _ rfl)
  have hwB_3 := hid (hc 3 _ rfl)
  have HBwB := hid hb
  have HswB := hid (show wB.heap.size = wA.heap.size + 4 from hswB)
  clear hc hb hswB
  have HP := hid (IA.at [0, 1] hwB_3.out (by simp))
  have HL := hid (LA.two hwB_2.out (IA.at [x, 10] hwB_0.out (by simp)) (IA.at [y, D] hwB_1.out (by simp)))
  clear hwB_0 hwB_1 hwB_2 hwB_3
  go_wp2_with fail
  rw [← hwB]
  refine (HR.out _).mono ?_
  rintro e w3 ⟨rfl, hb3⟩
  have HB3 := hid (up_trans HBA.out (up_trans HBwB.out hb3))
  have HDO := hid (made_any (p := p) 9 (refM n) _ _ _ _ w3 (by decide) (HP.out.on hb3) (HL.out.on hb3) (HT.out.on HB3.out) (by intro q hq; simp at hq; rcases hq with rfl | rfl <;> simp) HJ.out HRR.out)
  rw [show doO 9 (madeO 9 (refM n) (List.map (fun (q : Int) => [(⟨1, [x, 10]⟩ : Val), ⟨1, [y, D]⟩].getD q.toNat nilVal) [0, 1])) = _ from HM.out] at HDO
  clear hb3 hwB HP HL HM HJ
  go_wp2_with fail
  refine HDO.out.mono ?_
  rintro e w4 ⟨hb4, hr⟩
  obtain ⟨v, rfl, hv⟩ := hr
  have HB4 := hid (up_trans HB3.out hb4)
  obtain ⟨fv, rfl, hf⟩ := hv
  have HF := hid hf.ia
  obtain ⟨bb, oo, cap, rfl, hc1, hc2, hlt⟩ := hf.ia.has2
  dsimp only at *
  clear hb4 HDO hf hc1 hc2 hlt
  obtain ⟨w5, hw5⟩ : ∃ w5, w5 = w4.alloc (.cells #[.int .i64 7, .slice (some ⟨bb, oo, none⟩) 2 cap] 24) := ⟨_, rfl⟩
  have HB5 := hid (show Below W.heap.size W w5 by rw [hw5]; exact up_trans HB4.out (up_alloc _ _))
  have HV5 := hid (show IA w5 _ _ by rw [hw5]; exact HF.out.on (up_alloc _ _))
  have K5 := hid (show w5.heap[w4.heap.size]? = some (.cells #[.int .i64 7, .slice (some ⟨bb, oo, none⟩) 2 cap] 24 (0, 0)) by rw [hw5]; exact new_row _ _)
  generalize hbv : w4.heap.size = bv at *
  go_upto_block 0 with fail
  rw [← hw5]
  clear hw5
  go_cut [16, 17] from 20 (fun v16 v17 wc => v16 = .int .i64 m' ∧ v17 = .int .i64 s' ∧ wc = w5)
  case first =>
    go_wp2
    go_loop [16, 17] (fun v16 v17 => ∃ (m : Int) (t : Nat), v16 = .int .i64 m ∧ v17 = .int .i64 t ∧ t ≤ 18 ∧ -1000000000000000000 < m ∧ m < 1000000000000000000 ∧ Hid (De.Dc.norm m t = De.Dc.norm M (k + 1))) (fun _ v17 => (intOf v17).toNat)
    case atStart => exact ⟨M, k + 1, by rw [hM], by rw [HD'.out], by omega, by omega, q2, hid rfl⟩
    case round =>
      obtain ⟨m, t, rfl, rfl, ht, u0, u1, HQ⟩ := hrel
      by_cases h1 : 0 < t ∧ m % 10 = 0
      case pos =>
        obtain ⟨h1, h2⟩ := h1
        have g0 : (0 : Int) < t := by omega
        have g1 : m.tmod 10 = 0 := (De.tm0 m 10 (by decide)).2 h2
        have g2 : (m.tmod 10 == 0) = true := by simp [g1]
        have g3 : m.tdiv 10 = m / 10 := De.td0 m 10 h2
        have HQ2 := hid ((De.norm_step m t h1 h2).symm.trans HQ.out)
        clear hM
        go_wp2
        go_round
        case rel => exact ⟨m / 10, t - 1, by first | rfl | rw [g3], by congr 1; omega, by omega, by omega, by omega, HQ2⟩
        case measure => simp [intOf]; omega
      case neg =>
        have hst := De.norm_stop m t (by omega)
        obtain rfl : m = m' := by rw [HM'.out, ← HQ.out, hst]
        obtain rfl : t = s' := by rw [HS'.out, ← HQ.out, hst]
        clear hst
        by_cases h0 : 0 < t
        case pos =>
          have g0 : (0 : Int) < t := by omega
          have g2 : (m.tmod 10 == 0) = false := by simp; intro h; exact h1 ⟨h0, (De.tm0 m 10 (by decide)).1 h⟩
          clear hM
          go_wp2
          go_meet
          case rel => exact ⟨rfl, rfl, rfl⟩
        case neg =>
          have g0 : ¬ (0 : Int) < t := by omega
          clear hM
          go_wp2
          go_meet
          case rel => exact ⟨rfl, rfl, rfl⟩
  case rest =>
    obtain ⟨rfl, rfl, hwc⟩ := hcut
    obtain rfl := hwc.symm
    clear hwc hM
    have hbv5 : bv < w5.heap.size := (Array.getElem?_eq_some_iff.1 K5.out).1
    have k0 : w5.drew.cell? ⟨bv, 0, none⟩ = some (.int .i64 7) := by rw [show w5.drew.cell? ⟨bv, 0, none⟩ = w5.cell? ⟨bv, 0, none⟩ from rfl, cell_of_row K5.out]; rfl
    have k1 : w5.drew.cell? ⟨bv, 1, none⟩ = some (.slice (some ⟨bb, oo, none⟩) 2 cap) := by rw [show w5.drew.cell? ⟨bv, 1, none⟩ = w5.cell? ⟨bv, 1, none⟩ from rfl, cell_of_row K5.out]; rfl
    have HDO := hid fun (w : World) (pv lv : Value) (hp : IA w pv [0]) (hl : LA w lv [⟨7, [m', (s' : Int)]⟩]) (hb : Below w5.heap.size w5 w) => made_any (p := p) 11 (refM n) _ _ pv lv w (by decide) hp hl (HT.out.on (up_trans HB5.out hb)) (by intro q hq; simp at hq; subst hq; simp) trivial HRR.out
    rw [show doO 11 (madeO 11 (refM n) (List.map (fun (q : Int) => [(⟨7, [m', (s' : Int)]⟩ : Val)].getD q.toNat nilVal) [0])) = _ from HG.out] at HDO
    go_wp2
    go_cut [18, 19] from 20 (fun v18 v19 wc => Fin w5 (-m') (s' : Int) v18 v19 wc)
    case first =>
      go_region_held (fun w' => w'.cell? ⟨bv, 0, none⟩ = some (.int .i64 7) ∧ w'.cell? ⟨bv, 1, none⟩ = some (.slice (some ⟨bb, oo, none⟩) 2 cap) ∧ Hid (Below w5.heap.size w5 w')) (first | assumption | exact ⟨k0, k1, hid (Below.refl _ _).drew⟩ | exact s_on (by assumption) (by assumption) | exact s_up HS4.out _ | exact s_up (by assumption) _ | exact s_set (by assumption) hbv5 (by omega)) (first
        | (go_at_call 13; refine (HR.out _).mono ?_; rintro e w3 ⟨rfl, hb3⟩; have hsz3 : w5.heap.size ≤ w3.heap.size := (by have := hb3.size; simp at this; omega))
        | (go_at_call 12; refine (HDO.out _ _ _ (IA.at (t := 3) (fz := (0, 0)) [0] (by first | ((repeat (first | exact row_at (by first | (simp; done) | fail) | with_reducible refine row_up ?_ | with_reducible refine row_on hb3 ?_ | with_reducible refine row_drew ?_)); done) | fail) (by simp)) (LA.one (t := 24) (fz := (0, 0)) (by first | ((repeat (first | exact row_at (by first | (simp; done) | fail) | with_reducible refine row_up ?_ | with_reducible refine row_on hb3 ?_ | with_reducible refine row_drew ?_)); done) | fail) (HV5.out.on (Hid.out (And.right (And.right (by assumption)))))) (Hid.out (And.right (And.right (by assumption))))).mono ?_; rintro e w4 ⟨hb4, hr⟩; have HS4 := hid (s_on (w5 := w5) (bv := bv) (sv := .slice (some ⟨bb, oo, none⟩) 2 cap) (by assumption) hb4); obtain ⟨vv, rfl, hv⟩ := hr; obtain ⟨fv, rfl, hf⟩ := hv; have HF4 := hid hf; obtain ⟨gb, go, gcap, rfl, hc1, hc2, hlt⟩ := hf.ia.has2; clear hf; dsimp only at HF4 ⊢; (first | (have hzz := row_on2 (g := w5.heap.size) (o := .cells #[.int .i64 0, .slice none 0 0] 24 (0, 0)) hb4 (by first | ((repeat (first | exact row_at (by first | (simp; done) | fail) | with_reducible refine row_up ?_ | with_reducible refine row_on hb3 ?_ | with_reducible refine row_drew ?_)); done) | fail); obtain ⟨zc, zlt⟩ := hzz; have ZC := hid zc; have z0 : w4.cell? ⟨w5.heap.size, 0, none⟩ = some (.int .i64 0) := (by rw [cell_of_row ZC.out]; rfl); have z1 : w4.cell? ⟨w5.heap.size, 1, none⟩ = some (.slice none 0 0) := (by rw [cell_of_row ZC.out]; rfl); have zf : ∀ o, w4.frozen? ⟨w5.heap.size, o, none⟩ = false := (fun o => frozen_of_row ZC.out)) | (have hzz := row_on2 (g := w5.heap.size + 1) (o := .cells #[.int .i64 0, .slice none 0 0] 24 (0, 0)) hb4 (by first | ((repeat (first | exact row_at (by first | (simp; done) | fail) | with_reducible refine row_up ?_ | with_reducible refine row_on hb3 ?_ | with_reducible refine row_drew ?_)); done) | fail); obtain ⟨zc, zlt⟩ := hzz; have ZC := hid zc; have z0 : w4.cell? ⟨w5.heap.size + 1, 0, none⟩ = some (.int .i64 0) := (by rw [cell_of_row ZC.out]; rfl); have z1 : w4.cell? ⟨w5.heap.size + 1, 1, none⟩ = some (.slice none 0 0) := (by rw [cell_of_row ZC.out]; rfl); have zf : ∀ o, w4.frozen? ⟨w5.heap.size + 1, o, none⟩ = false := (fun o => frozen_of_row ZC.out)) | (have hzz := row_on2 (g := w5.heap.size + 1 + 1) (o := .cells #[.int .i64 0, .slice none 0 0] 24 (0, 0)) hb4 (by first | ((repeat (first | exact row_at (by first | (simp; done) | fail) | with_reducible refine row_up ?_ | with_reducible refine row_on hb3 ?_ | with_reducible refine row_drew ?_)); done) | fail); obtain ⟨zc, zlt⟩ := hzz; have ZC := hid zc; have z0 : w4.cell? ⟨w5.heap.size + 1 + 1, 0, none⟩ = some (.int .i64 0) := (by rw [cell_of_row ZC.out]; rfl); have z1 : w4.cell? ⟨w5.heap.size + 1 + 1, 1, none⟩ = some (.slice none 0 0) := (by rw [cell_of_row ZC.out]; rfl); have zf : ∀ o, w4.frozen? ⟨w5.heap.size + 1 + 1, o, none⟩ = false := (fun o => frozen_of_row ZC.out)) | (have hzz := row_on2 (g := w3.heap.size) (o := .cells #[.int .i64 0, .slice none 0 0] 24 (0, 0)) hb4 (by first | ((repeat (first | exact row_at (by first | (simp; done) | fail) | with_reducible refine row_up ?_ | with_reducible refine row_on hb3 ?_ | with_reducible refine row_drew ?_)); done) | fail); obtain ⟨zc, zlt⟩ := hzz; have ZC := hid zc; have z0 : w4.cell? ⟨w3.heap.size, 0, none⟩ = some (.int .i64 0) := (by rw [cell_of_row ZC.out]; rfl); have z1 : w4.cell? ⟨w3.heap.size, 1, none⟩ = some (.slice none 0 0) := (by rw [cell_of_row ZC.out]; rfl); have zf : ∀ o, w4.frozen? ⟨w3.heap.size, o, none⟩ = false := (fun o => frozen_of_row ZC.out)) | (have hzz := row_on2 (g := w3.heap.size + 1) (o := .cells #[.int .i64 0, .slice none 0 0] 24 (0, 0)) hb4 (by first | ((repeat (first | exact row_at (by first | (simp; done) | fail) | with_reducible refine row_up ?_ | with_reducible refine row_on hb3 ?_ | with_reducible refine row_drew ?_)); done) | fail); obtain ⟨zc, zlt⟩ := hzz; have ZC := hid zc; have z0 : w4.cell? ⟨w3.heap.size + 1, 0, none⟩ = some (.int .i64 0) := (by rw [cell_of_row ZC.out]; rfl); have z1 : w4.cell? ⟨w3.heap.size + 1, 1, none⟩ = some (.slice none 0 0) := (by rw [cell_of_row ZC.out]; rfl); have zf : ∀ o, w4.frozen? ⟨w3.heap.size + 1, o, none⟩ = false := (fun o => frozen_of_row ZC.out)) | (have hzz := row_on2 (g := w3.heap.size + 1 + 1) (o := .cells #[.int .i64 0, .slice none 0 0] 24 (0, 0)) hb4 (by first | ((repeat (first | exact row_at (by first | (simp; done) | fail) | with_reducible refine row_up ?_ | with_reducible refine row_on hb3 ?_ | with_reducible refine row_drew ?_)); done) | fail); obtain ⟨zc, zlt⟩ := hzz; have ZC := hid zc; have z0 : w4.cell? ⟨w3.heap.size + 1 + 1, 0, none⟩ = some (.int .i64 0) := (by rw [cell_of_row ZC.out]; rfl); have z1 : w4.cell? ⟨w3.heap.size + 1 + 1, 1, none⟩ = some (.slice none 0 0) := (by rw [cell_of_row ZC.out]; rfl); have zf : ∀ o, w4.frozen? ⟨w3.heap.size + 1 + 1, o, none⟩ = false := (fun o => frozen_of_row ZC.out)) | skip)))
      all_goals
        go_wp2_with fail
        go_meet
        case rel => first | exact fin_alloc HF4.out.ia (up_trans HS4.out.2.2.out (Below.refl _ _)) | exact fin_set ZC.out HF4.out zlt (by omega) HS4.out.2.2 
    case rest =>
      obtain ⟨g18, sv18, rfl, rfl, HG18, HI18, HB18⟩ := hcut
      obtain ⟨b18, o18, cap18, rfl, _, _, _⟩ := HI18.out.has2
      have HBW := hid (up_trans HB5.out HB18.out)
      have k2 : wc.cell? ⟨bv, 0, none⟩ = some (.int .i64 7) := (HB18.out.cell (p := ⟨bv, 0, none⟩) hbv5).trans k0
      have k3 : wc.cell? ⟨bv, 1, none⟩ = some (.slice (some ⟨bb, oo, none⟩) 2 cap) := (HB18.out.cell (p := ⟨bv, 1, none⟩) hbv5).trans k1
      have HV6 := hid (HV5.out.on HB18.out)
      obtain ⟨w6, hw6⟩ : ∃ w6, w6 = wc.alloc (.cells #[.int .i64 (m'), .int .i64 ((s' : Int))] 3) := ⟨_, rfl⟩
      have HB6 := hid (show Below wc.heap.size wc w6 by rw [hw6]; exact up_alloc _ _)
      have HC1 := hid (rcmp_any ⟨7, [m', (s' : Int)]⟩ ⟨7, [m', (s' : Int)]⟩ _ _ w6 ⟨_, rfl, HV6.out.on HB6.out⟩ ⟨_, rfl, IA.at [m', (s' : Int)] (show w6.heap[wc.heap.size]? = some _ by rw [hw6]; exact new_row _ _) (by simp)⟩)
      rw [cmpV_self] at HC1
      go_wp2_with fail
      rw [← hw6]
      clear hw6
      refine HC1.out.mono ?_
      rintro e w7 ⟨rfl, hb7⟩
      have HB7 := hid (up_trans HB6.out hb7)
      have k4 : w7.cell? ⟨g18, 0, none⟩ = some (.int .i64 7) := by rw [cell_of_row (row_on HB7.out HG18.out)]; rfl
      have k5 : w7.cell? ⟨g18, 1, none⟩ = some (.slice (some ⟨b18, o18, none⟩) 2 cap18) := by rw [cell_of_row (row_on HB7.out HG18.out)]; rfl
      obtain ⟨w8, hw8⟩ : ∃ w8, w8 = w7.alloc (.cells #[.int .i64 (-m'), .int .i64 ((s' : Int))] 3) := ⟨_, rfl⟩
      have HB8 := hid (show Below w7.heap.size w7 w8 by rw [hw8]; exact up_alloc _ _)
      have HC2 := hid (rcmp_any ⟨7, [-m', (s' : Int)]⟩ ⟨7, [-m', (s' : Int)]⟩ _ _ w8 ⟨_, rfl, (HI18.out.on HB7.out).on HB8.out⟩ ⟨_, rfl, IA.at [-m', (s' : Int)] (show w8.heap[w7.heap.size]? = some _ by rw [hw8]; exact new_row _ _) (by simp)⟩)
      rw [cmpV_self] at HC2
      have hneg : (0 : Int) - m' = -m' := by omega
      clear hb7 HC1 k2 k3
      go_wp2_with fail
      rw [← hw8]
      clear hw8
      refine HC2.out.mono ?_
      rintro e w9 ⟨rfl, hb9⟩
      have HB9 := hid (up_trans HBW.out (up_trans HB7.out (up_trans HB8.out hb9)))
      clear hb9
      go_wp2
      go_ret
      exact ⟨rfl, HB9.out⟩

theorem own : ownKnob Tryd.prog.godebug = none := by kernel_rfl

theorem table {W : World} (h : laidMetH Tryd.prog Rows.actPointsRow.laid W) : TabsE W := by
  rw [MakeChecks.laidMetH_plain _ _ _ (by kernel_rfl)] at h
  exact tabs_of_laid h

set_option maxRecDepth 100000 in
theorem lifted (os : Os) (started : os.Started) (H : Type) (enc : TypeId × Value → H) :
    ReturnsInHanded {} Tryd.checked os 6 .any (fun w args => (Rows.actPointsSpec.pre enc Tryd.prog Tryd.f6 Rows.actPointsRow.domain false w args ∧ laidMetH Tryd.prog Rows.actPointsRow.laid w) ∧ sizedMet enc Tryd.prog Tryd.f6 (OpenSpec.ofChange Rows.actPointsSpec) false w args)
      (Rows.actPointsSpec.post enc Tryd.prog Tryd.f6 false true false false) := by
  refine returnsInHanded_of_change_and (C := Tryd.checked) (X := fun w _ => laidMetH Tryd.prog Rows.actPointsRow.laid w) (fun _ _ _ hh h => h.of_heap hh) own started (by kernel_rfl) Tryd.func6
    (ChangeSpec.witness_shaped (enc := enc) (C := Tryd.checked) (os := os) (X := fun w _ => laidMetH Tryd.prog Rows.actPointsRow.laid w) false (World.laidAll Tryd.prog os Rows.actPointsRow.laid) #[.int .i64 0, .int .i64 0, .int .i64 0, .int .i64 0] 8 (World.laidAll_os _ _ _)
      (World.shaped_of_ZipB (by kernel_rfl) (by kernel_rfl)) (by kernel_rfl) (by kernel_rfl) (by kernel_rfl)
      (by rw [MakeChecks.laidMetH_plain _ _ _ (by kernel_rfl)]; exact laidMet_laidAll _ (by kernel_rfl) (by kernel_rfl))) ?_
  intro W base args ds gs before hval0 hW _ _ hL _
  have hval : ∀ (j : Nat) t v, Tryd.f6.params[j]? = some t → args[j]? = some v → Value.okWide Tryd.prog W .any base t v := hval0
  have hW' := hW
  obtain ⟨p, q, hA0, hV, rfl, hfz, hnd⟩ := hW
  have hA : DataW.TrodAll enc Tryd.prog W 0 (fun _ => true) true Tryd.f6.params.toList args.toList ds p := hA0
  rw [Tryd.params6] at hA hval
  obtain ⟨v0, vs0, d0, ds0, p0, q0, hargs, rfl, rfl, h0, r0⟩ := trodAll_cons hA
  obtain ⟨v1, vs1, d1, ds1, p1, q1, rfl, rfl, rfl, h1, r1⟩ := trodAll_cons r0
  obtain ⟨v2, vs2, d2, ds2, p2, q2, rfl, rfl, rfl, h2, r2⟩ := trodAll_cons r1
  obtain ⟨v3, vs3, d3, ds3, p3, q3, rfl, rfl, rfl, h3, r3⟩ := trodAll_cons r2
  obtain ⟨rfl, rfl, rfl⟩ := trodAll_nil r3
  obtain rfl : args = #[v0, v1, v2, v3] := by cases args; simp_all
  obtain ⟨rfl, rfl⟩ := trodVars_none hV
  obtain ⟨a0, rfl, rfl, rfl, w0⟩ := open_int Tryd.underlying3 (hval 0 3 v0 rfl rfl) h0
  obtain ⟨a1, rfl, rfl, rfl, w1⟩ := open_int Tryd.underlying3 (hval 1 3 v1 rfl rfl) h1
  obtain ⟨a2, rfl, rfl, rfl, w2⟩ := open_int Tryd.underlying3 (hval 2 3 v2 rfl rfl) h2
  obtain ⟨a3, rfl, rfl, rfl, w3⟩ := open_int Tryd.underlying3 (hval 3 3 v3 rfl rfl) h3
  clear hA0 hval0
  refine (walk a0 a1 a2 a3 W w0 w1 w2 w3 (table hL)).mono fun e W' ⟨he, bel⟩ => ?_
  subst he
  exact ⟨_, rfl, _, _, _, [], _, [], hW', trodAll_mk1 (shut_bool Tryd.underlying4 _), (trodAll_cons_mk (shut_int Tryd.underlying3 w0) (trodAll_cons_mk (shut_int Tryd.underlying3 w1) (trodAll_cons_mk (shut_int Tryd.underlying3 w2) (trodAll_cons_mk (shut_int Tryd.underlying3 w3) trodAll_mk0)))), rfl, bel.frame _, fun h => by cases h⟩

theorem row_holds : Rows.ActPointsSaid :=
  OpenClaim.holds_of_wide 6 Tryd.f6 rfl rfl rfl rfl rfl rfl rfl ⟨rfl, rfl, rfl, rfl, rfl⟩ rfl rfl rfl rfl rfl (by kernel_rfl) Tryd.func6 (by kernel_rfl)
    (of_decide_eq_true (by kernel_rfl)) (by unfold Func.isWrapper; first | (rw [if_pos (by decide +kernel)]; kernel_rfl) | (rw [if_neg (by decide +kernel)]; exact ⟨rfl, rfl⟩))
    (fun os started H enc _ => lifted os started H enc)

theorem actPoints_holds : Rows.ActPointsCardSaid :=
  Claim7.holds_tied_plain_at .later [] _ _ _ _ row_holds (fun _ h => by cases h) (by kernel_rfl) (fun _ h => by cases h) actPoints_row_tie rfl ⟨rfl, rfl⟩ (by kernel_rfl) rfl
    (fun f fn hf hfn => by
      obtain rfl : f = 6 := Option.some.inj ((show Tryd.prog.funcNamed "interlocutor/interlocutorlaw8.ActPoints" = some 6 by kernel_rfl).symm.trans hf) |>.symm
      obtain rfl : fn = Tryd.f6 := (Option.some.inj (Tryd.func6.symm.trans hfn)).symm
      exact ⟨by kernel_rfl, fun j t ht => by
        rw [Tryd.params6] at ht
        have hm : t ∈ [3, 3, 3, 3] := by simpa using Array.mem_of_getElem? ht
        have hall : ([3, 3, 3, 3].all fun u => !Tryd.prog.wantsStandIn u) = true := by kernel_rfl
        exact (show Tryd.prog.wantsStandIn t = false by simpa using List.all_eq_true.1 hall t hm)⟩)
    (by kernel_rfl)

end Go.Proofs.YtengcdodoblabaaDoor
