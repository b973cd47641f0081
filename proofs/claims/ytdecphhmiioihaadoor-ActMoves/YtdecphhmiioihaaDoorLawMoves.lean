/- ActMoves answers true of any four arguments: so many days, weeks, months, years from the reference, ahead and back. The table of how many numbers a kind has, and what an action stops with, are as listed. -/
import Derived.Test.YtdecphhmiioihaaDoorCards
import Derived.Test.YtdecphhmiioihaaDoorTie
import Derived.Test.YtdecphhmiioihaaDoorTab
import Derived.ProofKit
import Derived.OpenShut
import Derived.Lay
import Derived.SevenTiedAt
import Derived.Stop.Joined
import Derived.Lib.LaidTab
namespace Go.Proofs.YtdecphhmiioihaaDoor
open Go.ChangeShapes Go.WideShapes Go.ChangeAt Go.RowKit

theorem num_num (x d : Int) : numC ⟨1, [x, d]⟩ = some x := rfl
theorem num_word (x : Int) : numC ⟨2, [x]⟩ = none := rfl
theorem word_word (x : Int) : wordC ⟨2, [x]⟩ = some x := rfl
theorem cnt_num (x d : Int) : cntC ⟨1, [x, d]⟩ = some x := rfl
theorem date_right (y m d : Int) (h : Ci.dayB y m d = true) : rightB ⟨4, [y, m, d]⟩ = true := by
  show (wholeB ⟨4, [y, m, d]⟩ && Ci.dayB y m d) = true
  rw [h, Bool.and_true]; rfl
theorem addOk_y {y m d mo da : Int} (h : Ci.addOk y m d mo da = true) : Ci.dayB (Ci.Civ.cY (Ci.addK y m d mo da)) (Ci.Civ.cM (Ci.addK y m d mo da)) (Ci.Civ.cD (Ci.addK y m d mo da)) = true := by
  unfold Ci.addOk at h
  simp only [Bool.and_eq_true] at h
  unfold Ci.dayB
  rw [h.2, (Ci.Civ.of_num _).2]
  rfl
theorem on_do (k : Nat) (r : Mom) (mo da : Int) : doO k (onO r mo da) = onO r mo da := by
  unfold onO
  by_cases h : Ci.addOk r.y r.m r.d mo da = true
  · rw [if_pos h]
    show (if k = 0 ∨ rightB _ = true then some _ else none) = _
    rw [if_pos (.inr (date_right _ _ _ (addOk_y h)))]
  · rw [if_neg h]; rfl
def moL (u z : Int) : Int := if u = 3 then z else if u = 4 then 12 * z else 0
def daL (u z : Int) : Int := if u = 1 then z else if u = 2 then 7 * z else 0
theorem moves_made (r : Mom) (k u s : Int) (hk0 : 0 ≤ k) (hk1 : k ≤ 400) (hu0 : 1 ≤ u) (hu1 : u ≤ 4) (hs : s = -1 ∨ s = 1) :
    doO 6 (madeO 6 r [⟨1, [k, 3]⟩, ⟨2, [u]⟩, ⟨2, [s]⟩]) = onO r (moL u (k * s)) (daL u (k * s)) := by
  show doO 6 (relO r ⟨1, [k, 3]⟩ ⟨2, [u]⟩ ⟨2, [s]⟩) = _
  have e : relO r ⟨1, [k, 3]⟩ ⟨2, [u]⟩ ⟨2, [s]⟩ = if inB k (-1000000) 1000000 = true then if s = -1 ∨ s = 1 then if u = 1 then onO r 0 (k * s) else if u = 2 then onO r 0 (7 * (k * s)) else if u = 3 then onO r (k * s) 0 else if u = 4 then onO r (12 * (k * s)) 0 else none else none else none := by
    unfold relO; rw [cnt_num, word_word, word_word]; rfl
  rw [e, if_pos (inB_true (by omega) (by omega)), if_pos hs]
  unfold moL daL
  have : u = 1 ∨ u = 2 ∨ u = 3 ∨ u = 4 := by omega
  rcases this with rfl | rfl | rfl | rfl
  · rw [if_pos rfl, if_neg (by decide), if_neg (by decide), if_pos rfl]; exact on_do _ _ _ _
  · rw [if_neg (by decide), if_pos rfl, if_neg (by decide), if_neg (by decide), if_neg (by decide), if_pos rfl]; exact on_do _ _ _ _
  · rw [if_neg (by decide), if_neg (by decide), if_pos rfl, if_pos rfl, if_neg (by decide), if_neg (by decide)]; exact on_do _ _ _ _
  · rw [if_neg (by decide), if_neg (by decide), if_neg (by decide), if_pos rfl, if_neg (by decide), if_pos rfl, if_neg (by decide), if_neg (by decide)]; exact on_do _ _ _ _

set_option maxRecDepth 8000 in
set_option maxHeartbeats 4000000 in
theorem walk (n unit : Int) (sign : Bool) (x : Int) (W : World) (w0 : (Lit.int .i64 n).wf = true) (w1 : (Lit.int .i64 unit).wf = true) (w3 : (Lit.int .i64 x).wf = true) (hX : TabsE W) : Calls Tryd.prog 4 #[.int .i64 n, .int .i64 unit, .bool sign, .int .i64 x] W fun e W' => e = .returned (.bool true) ∧ Below W.heap.size W W' := by
  obtain ⟨p, hT⟩ := hX
  obtain ⟨ba, ba'⟩ := wf_bd w0
  obtain ⟨bb, bb'⟩ := wf_bd w1
  obtain ⟨bc, bc'⟩ := wf_bd w3
  have HK := hid (known_any p W hT)
  have HT := hid hT
  have H1 := hid fun w => lwithin_any n 400 w (by decide) (by decide) ba ba'
  have H2 := hid fun w => lwithin_any unit 4 w (by decide) (by decide) bb bb'
  have HR := hid fun w => ref_any x w bc bc'
  have hrr := refM_right x
  obtain ⟨hv, hy0, hy1⟩ := hrr.bd
  have hk : 0 ≤ n % 400 ∧ n % 400 ≤ 400 := by omega
  have hu : 0 ≤ unit % 4 ∧ unit % 4 ≤ 3 := by omega
  have HRR := hid hrr
  unfold momV at HR
  have HA := hid fun mo da w => Ci.radd_any (refM x).y (refM x).m (refM x).d mo da w hv hy0 hy1
  unfold Ci.addV at HA
  generalize n % 400 = k at *
  generalize unit % 4 = u at *
  generalize refM x = r at *
  clear hT w0 w1 w3 ba ba' bb bb' bc bc' hv hy0 hy1 hrr
  obtain ⟨hk0, hk1⟩ := hk
  obtain ⟨hu0, hu1⟩ := hu
  cases sign with
  | false =>
    have hm := moves_made r k (1 + u) 1 hk0 hk1 (by omega) (by omega) (by decide)
    go_enter Tryd.func4, Tryd.ntmps4
    go_wp2_with fail
    refine HK.out.mono ?_
    rintro e w1 ⟨rfl, hb1⟩
    have HB1 := hid hb1
    clear hb1 HK
    go_wp2_with fail
    refine (HR.out _).mono ?_
    rintro e w2 ⟨rfl, hb2⟩
    have HB2 := hid (up_trans HB1.out hb2)
    clear hb2
    obtain ⟨w3, hw3⟩ : ∃ w3, w3 = w2.alloc (.cells #[.int .i64 r.y, .int .i64 r.m, .int .i64 r.d, .int .i64 r.h, .int .i64 r.i, .int .i64 r.s] 31) := ⟨_, rfl⟩
    obtain ⟨hc, hb, hsw3⟩ := chain_heap w2 [.cells #[.int .i64 r.y, .int .i64 r.m, .int .i64 r.d, .int .i64 r.h, .int .i64 r.i, .int .i64 r.s] 31]
    simp only [List.foldl_cons, List.foldl_nil] at hc hb hsw3
    rw [← hw3] at hc hb hsw3
    have hw3_0 := hid (show w3.heap[w2.heap.size]? = some _ from hc 0 _ rfl)
    have HBw3 := hid hb
    have Hsw3 := hid (show w3.heap.size = w2.heap.size + 1 from hsw3)
    clear hc hb hsw3
    have HB3 := hid (up_trans HB2.out HBw3.out)
    go_wp2_with fail
    rw [← hw3]
    refine (H1.out _).mono ?_
    rintro e wn ⟨rfl, hw⟩
    obtain rfl := hw.symm
    clear hw hw3
    go_wp2_with fail
    refine (H2.out _).mono ?_
    rintro e wn ⟨rfl, hw⟩
    obtain rfl := hw.symm
    clear hw
    have t0 : w3.cell? ⟨w2.heap.size, 0, none⟩ = some (.int .i64 r.y) := by rw [cell_of_row hw3_0.out]; rfl
    have t1 : w3.cell? ⟨w2.heap.size, 1, none⟩ = some (.int .i64 r.m) := by rw [cell_of_row hw3_0.out]; rfl
    have t2 : w3.cell? ⟨w2.heap.size, 2, none⟩ = some (.int .i64 r.d) := by rw [cell_of_row hw3_0.out]; rfl
    have t3 : w3.cell? ⟨w2.heap.size, 3, none⟩ = some (.int .i64 r.h) := by rw [cell_of_row hw3_0.out]; rfl
    have t4 : w3.cell? ⟨w2.heap.size, 4, none⟩ = some (.int .i64 r.i) := by rw [cell_of_row hw3_0.out]; rfl
    have t5 : w3.cell? ⟨w2.heap.size, 5, none⟩ = some (.int .i64 r.s) := by rw [cell_of_row hw3_0.out]; rfl
    clear H1 H2
    obtain ⟨w4, hw4⟩ : ∃ w4, w4 = ((((w3.alloc (.cells #[.int .i64 (0), .int .i64 (1), .int .i64 (2)] 3)).alloc (.cells #[.int .i64 (k), .int .i64 (3)] 3)).alloc (.cells #[.int .i64 (1 + u)] 3)).alloc (.cells #[.int .i64 (1)] 3)).alloc (.cells #[.int .i64 1, .slice (some ⟨w3.heap.size + 1, 0, none⟩) 2 2, .int .i64 2, .slice (some ⟨w3.heap.size + 1 + 1, 0, none⟩) 1 1, .int .i64 2, .slice (some ⟨w3.heap.size + 1 + 1 + 1, 0, none⟩) 1 1] 24) := ⟨_, rfl⟩
    obtain ⟨hc, hb, hsw4⟩ := chain_heap w3 [.cells #[.int .i64 (0), .int .i64 (1), .int .i64 (2)] 3, .cells #[.int .i64 (k), .int .i64 (3)] 3, .cells #[.int .i64 (1 + u)] 3, .cells #[.int .i64 (1)] 3, .cells #[.int .i64 1, .slice (some ⟨w3.heap.size + 1, 0, none⟩) 2 2, .int .i64 2, .slice (some ⟨w3.heap.size + 1 + 1, 0, none⟩) 1 1, .int .i64 2, .slice (some ⟨w3.heap.size + 1 + 1 + 1, 0, none⟩) 1 1] 24]
    simp only [List.foldl_cons, List.foldl_nil] at hc hb hsw4
    rw [← hw4] at hc hb hsw4
    have hw4_0 := hid (show w4.heap[w3.heap.size]? = some _ from hc 0 _ rfl)
    have hw4_1 := hid (hc 1 _ rfl)
    have hw4_2 := hid (hc 2 _ rfl)
    have hw4_3 := hid (hc 3 _ rfl)
    have hw4_4 := hid (hc 4 _ rfl)
    have HBw4 := hid hb
    have Hsw4 := hid (show w4.heap.size = w3.heap.size + 5 from hsw4)
    clear hc hb hsw4
    have HP := hid (IA.at [0, 1, 2] hw4_0.out (by simp))
    have HL := hid (LA.three hw4_4.out (IA.at [k, 3] hw4_1.out (by simp)) (IA.at [1 + u] hw4_2.out (by simp)) (IA.at [1] hw4_3.out (by simp)))
    have HB4 := hid (up_trans HB3.out HBw4.out)
    have HX4 := hid ((HBw4.out.block w2.heap.size (by have := Hsw3.out; omega)).trans hw3_0.out)
    have t0 : (((((w3.alloc (.cells #[.int .i64 (0), .int .i64 (1), .int .i64 (2)] 3)).alloc (.cells #[.int .i64 (k), .int .i64 (3)] 3)).alloc (.cells #[.int .i64 (1 + u)] 3)).alloc (.cells #[.int .i64 (1)] 3)).alloc (.cells #[.int .i64 1, .slice (some ⟨w3.heap.size + 1, 0, none⟩) 2 2, .int .i64 2, .slice (some ⟨w3.heap.size + 1 + 1, 0, none⟩) 1 1, .int .i64 2, .slice (some ⟨w3.heap.size + 1 + 1 + 1, 0, none⟩) 1 1] 24)).cell? ⟨w2.heap.size, 0, none⟩ = some (.int .i64 r.y) := by rw [← hw4, cell_of_row HX4.out]; rfl
    have t1 : (((((w3.alloc (.cells #[.int .i64 (0), .int .i64 (1), .int .i64 (2)] 3)).alloc (.cells #[.int .i64 (k), .int .i64 (3)] 3)).alloc (.cells #[.int .i64 (1 + u)] 3)).alloc (.cells #[.int .i64 (1)] 3)).alloc (.cells #[.int .i64 1, .slice (some ⟨w3.heap.size + 1, 0, none⟩) 2 2, .int .i64 2, .slice (some ⟨w3.heap.size + 1 + 1, 0, none⟩) 1 1, .int .i64 2, .slice (some ⟨w3.heap.size + 1 + 1 + 1, 0, none⟩) 1 1] 24)).cell? ⟨w2.heap.size, 1, none⟩ = some (.int .i64 r.m) := by rw [← hw4, cell_of_row HX4.out]; rfl
    have t2 : (((((w3.alloc (.cells #[.int .i64 (0), .int .i64 (1), .int .i64 (2)] 3)).alloc (.cells #[.int .i64 (k), .int .i64 (3)] 3)).alloc (.cells #[.int .i64 (1 + u)] 3)).alloc (.cells #[.int .i64 (1)] 3)).alloc (.cells #[.int .i64 1, .slice (some ⟨w3.heap.size + 1, 0, none⟩) 2 2, .int .i64 2, .slice (some ⟨w3.heap.size + 1 + 1, 0, none⟩) 1 1, .int .i64 2, .slice (some ⟨w3.heap.size + 1 + 1 + 1, 0, none⟩) 1 1] 24)).cell? ⟨w2.heap.size, 2, none⟩ = some (.int .i64 r.d) := by rw [← hw4, cell_of_row HX4.out]; rfl
    have t3 : (((((w3.alloc (.cells #[.int .i64 (0), .int .i64 (1), .int .i64 (2)] 3)).alloc (.cells #[.int .i64 (k), .int .i64 (3)] 3)).alloc (.cells #[.int .i64 (1 + u)] 3)).alloc (.cells #[.int .i64 (1)] 3)).alloc (.cells #[.int .i64 1, .slice (some ⟨w3.heap.size + 1, 0, none⟩) 2 2, .int .i64 2, .slice (some ⟨w3.heap.size + 1 + 1, 0, none⟩) 1 1, .int .i64 2, .slice (some ⟨w3.heap.size + 1 + 1 + 1, 0, none⟩) 1 1] 24)).cell? ⟨w2.heap.size, 3, none⟩ = some (.int .i64 r.h) := by rw [← hw4, cell_of_row HX4.out]; rfl
    have t4 : (((((w3.alloc (.cells #[.int .i64 (0), .int .i64 (1), .int .i64 (2)] 3)).alloc (.cells #[.int .i64 (k), .int .i64 (3)] 3)).alloc (.cells #[.int .i64 (1 + u)] 3)).alloc (.cells #[.int .i64 (1)] 3)).alloc (.cells #[.int .i64 1, .slice (some ⟨w3.heap.size + 1, 0, none⟩) 2 2, .int .i64 2, .slice (some ⟨w3.heap.size + 1 + 1, 0, none⟩) 1 1, .int .i64 2, .slice (some ⟨w3.heap.size + 1 + 1 + 1, 0, none⟩) 1 1] 24)).cell? ⟨w2.heap.size, 4, none⟩ = some (.int .i64 r.i) := by rw [← hw4, cell_of_row HX4.out]; rfl
    have t5 : (((((w3.alloc (.cells #[.int .i64 (0), .int .i64 (1), .int .i64 (2)] 3)).alloc (.cells #[.int .i64 (k), .int .i64 (3)] 3)).alloc (.cells #[.int .i64 (1 + u)] 3)).alloc (.cells #[.int .i64 (1)] 3)).alloc (.cells #[.int .i64 1, .slice (some ⟨w3.heap.size + 1, 0, none⟩) 2 2, .int .i64 2, .slice (some ⟨w3.heap.size + 1 + 1, 0, none⟩) 1 1, .int .i64 2, .slice (some ⟨w3.heap.size + 1 + 1 + 1, 0, none⟩) 1 1] 24)).cell? ⟨w2.heap.size, 5, none⟩ = some (.int .i64 r.s) := by rw [← hw4, cell_of_row HX4.out]; rfl
    have HD := hid (made_any (p := p) 6 r _ _ _ _ w4 (by decide) HP.out HL.out (HT.out.on HB4.out) (by intro q hq; simp at hq; rcases hq with rfl | rfl | rfl <;> simp) trivial HRR.out)
    rw [show doO 6 (madeO 6 r (List.map (fun (q : Int) => [(⟨1, [k, 3]⟩ : Val), ⟨2, [1 + u]⟩, ⟨2, [1]⟩].getD q.toNat nilVal) [0, 1, 2])) = _ from hm] at HD
    unfold momV at HD
    clear hw4_0 hw4_1 hw4_2 hw4_3 hw4_4 hw3_0 HP HL hm
    go_wp2_with fail
    rw [← hw4]
    refine HD.out.mono ?_
    rintro e w5 ⟨hb5, hr⟩
    have HB5 := hid (up_trans HB4.out hb5)
    have HX5 := hid ((hb5.block w2.heap.size (by have := Hsw3.out; have := Hsw4.out; omega)).trans HX4.out)
    clear hb5 HD hw4 t0 t1 t2 t3 t4 t5 HX4
    have hcases : 1 + u = 1 ∨ 1 + u = 2 ∨ 1 + u = 3 ∨ 1 + u = 4 := by omega
    generalize 1 + u = v at *
    rcases hcases with rfl | rfl | rfl | rfl
    ·
      have HA := hid (HA.out 0 (k * 1))
      have hr : match onO r 0 (k * 1) with | some x => ∃ v, e = .returned (.tuple #[v, .bool true]) ∧ NV w4.heap.size w5 v x | none => e = .returned noneV := hr
      unfold onO at hr
      simp only [show k * 1 = k by omega] at *
      cases hok : Ci.addOk r.y r.m r.d 0 k with
      | false =>
        rw [hok, if_neg (by decide)] at hr HA
        unfold Ci.tup at HA
        obtain rfl : e = .returned noneV := hr
        unfold noneV
        clear hok
        obtain ⟨w6, hw6⟩ : ∃ w6, w6 = w5.alloc (.cells #[.int .i64 0, .slice none 0 0] 24) := ⟨_, rfl⟩
        obtain ⟨hc, hb, hsw6⟩ := chain_heap w5 [.cells #[.int .i64 0, .slice none 0 0] 24]
        simp only [List.foldl_cons, List.foldl_nil] at hc hb hsw6
        rw [← hw6] at hc hb hsw6
        have hw6_0 := hid (show w6.heap[w5.heap.size]? = some _ from hc 0 _ rfl)
        have HBw6 := hid hb
        have Hsw6 := hid (show w6.heap.size = w5.heap.size + 1 from hsw6)
        clear hc hb hsw6
        have HB6 := hid (up_trans HB5.out HBw6.out)
        have HX6 := hid ((HBw6.out.block w2.heap.size (Array.getElem?_eq_some_iff.1 HX5.out).1).trans HX5.out)
        have t0 : (w5.alloc (.cells #[.int .i64 0, .slice none 0 0] 24)).cell? ⟨w2.heap.size, 0, none⟩ = some (.int .i64 r.y) := by rw [← hw6, cell_of_row HX6.out]; rfl
        have t1 : (w5.alloc (.cells #[.int .i64 0, .slice none 0 0] 24)).cell? ⟨w2.heap.size, 1, none⟩ = some (.int .i64 r.m) := by rw [← hw6, cell_of_row HX6.out]; rfl
        have t2 : (w5.alloc (.cells #[.int .i64 0, .slice none 0 0] 24)).cell? ⟨w2.heap.size, 2, none⟩ = some (.int .i64 r.d) := by rw [← hw6, cell_of_row HX6.out]; rfl
        clear hw6_0 HX5
        go_wp2_with fail
        rw [← hw6]
        refine (HA.out _).mono ?_
        rintro e wn ⟨rfl, hw⟩
        obtain rfl := hw.symm
        clear hw
        clear hw6 t0 t1 t2
        go_wp2
        go_ret
        exact ⟨rfl, HB6.out⟩
      | true =>
        rw [hok, if_pos rfl] at hr HA
        unfold Ci.tup at HA
        obtain ⟨vv, rfl, hv⟩ := hr
        clear hok
        generalize Ci.Civ.cY (Ci.addK r.y r.m r.d 0 k) = z0 at *
        generalize Ci.Civ.cM (Ci.addK r.y r.m r.d 0 k) = z1 at *
        generalize Ci.Civ.cD (Ci.addK r.y r.m r.d 0 k) = z2 at *
        obtain ⟨fv, rfl, hf⟩ := hv
        have HF := hid hf.ia
        obtain ⟨gb, go, cap, rfl, hc1, hc2, hlt⟩ := hf.ia.has3
        dsimp only at *
        obtain ⟨w6, hw6⟩ : ∃ w6, w6 = w5.alloc (.cells #[.int .i64 4, .slice (some ⟨gb, go, none⟩) 3 cap] 24) := ⟨_, rfl⟩
        obtain ⟨hc, hb, hsw6⟩ := chain_heap w5 [.cells #[.int .i64 4, .slice (some ⟨gb, go, none⟩) 3 cap] 24]
        simp only [List.foldl_cons, List.foldl_nil] at hc hb hsw6
        rw [← hw6] at hc hb hsw6
        have hw6_0 := hid (show w6.heap[w5.heap.size]? = some _ from hc 0 _ rfl)
        have HBw6 := hid hb
        have Hsw6 := hid (show w6.heap.size = w5.heap.size + 1 from hsw6)
        clear hc hb hsw6
        have HB6 := hid (up_trans HB5.out HBw6.out)
        have HX6 := hid ((HBw6.out.block w2.heap.size (Array.getElem?_eq_some_iff.1 HX5.out).1).trans HX5.out)
        have t0 : (w5.alloc (.cells #[.int .i64 4, .slice (some ⟨gb, go, none⟩) 3 cap] 24)).cell? ⟨w2.heap.size, 0, none⟩ = some (.int .i64 r.y) := by rw [← hw6, cell_of_row HX6.out]; rfl
        have t1 : (w5.alloc (.cells #[.int .i64 4, .slice (some ⟨gb, go, none⟩) 3 cap] 24)).cell? ⟨w2.heap.size, 1, none⟩ = some (.int .i64 r.m) := by rw [← hw6, cell_of_row HX6.out]; rfl
        have t2 : (w5.alloc (.cells #[.int .i64 4, .slice (some ⟨gb, go, none⟩) 3 cap] 24)).cell? ⟨w2.heap.size, 2, none⟩ = some (.int .i64 r.d) := by rw [← hw6, cell_of_row HX6.out]; rfl
        have c0 : w6.cell? ⟨w5.heap.size, 0, none⟩ = some (.int .i64 4) := by rw [cell_of_row hw6_0.out]; rfl
        have c1 : w6.cell? ⟨w5.heap.size, 1, none⟩ = some (.slice (some ⟨gb, go, none⟩) 3 cap) := by rw [cell_of_row hw6_0.out]; rfl
        have e0 := (HF.out.on HBw6.out).cell0
        have e1 := (HF.out.on HBw6.out).cell1
        have e2 := (HF.out.on HBw6.out).cell2
        clear hw6_0 HX5 hf
        go_wp2_with fail
        rw [← hw6]
        refine (HA.out _).mono ?_
        rintro e wn ⟨rfl, hw⟩
        obtain rfl := hw.symm
        clear hw
        clear hw6 t0 t1 t2
        go_wp2
        go_ret
        exact ⟨rfl, HB6.out⟩
    ·
      have HA := hid (HA.out 0 (7 * (k * 1)))
      have hr : match onO r 0 (7 * (k * 1)) with | some x => ∃ v, e = .returned (.tuple #[v, .bool true]) ∧ NV w4.heap.size w5 v x | none => e = .returned noneV := hr
      unfold onO at hr
      simp only [show k * 1 = k by omega] at *
      cases hok : Ci.addOk r.y r.m r.d 0 (7 * k) with
      | false =>
        rw [hok, if_neg (by decide)] at hr HA
        unfold Ci.tup at HA
        obtain rfl : e = .returned noneV := hr
        unfold noneV
        clear hok
        obtain ⟨w6, hw6⟩ : ∃ w6, w6 = w5.alloc (.cells #[.int .i64 0, .slice none 0 0] 24) := ⟨_, rfl⟩
        obtain ⟨hc, hb, hsw6⟩ := chain_heap w5 [.cells #[.int .i64 0, .slice none 0 0] 24]
        simp only [List.foldl_cons, List.foldl_nil] at hc hb hsw6
        rw [← hw6] at hc hb hsw6
        have hw6_0 := hid (show w6.heap[w5.heap.size]? = some _ from hc 0 _ rfl)
        have HBw6 := hid hb
        have Hsw6 := hid (show w6.heap.size = w5.heap.size + 1 from hsw6)
        clear hc hb hsw6
        have HB6 := hid (up_trans HB5.out HBw6.out)
        have HX6 := hid ((HBw6.out.block w2.heap.size (Array.getElem?_eq_some_iff.1 HX5.out).1).trans HX5.out)
        have t0 : (w5.alloc (.cells #[.int .i64 0, .slice none 0 0] 24)).cell? ⟨w2.heap.size, 0, none⟩ = some (.int .i64 r.y) := by rw [← hw6, cell_of_row HX6.out]; rfl
        have t1 : (w5.alloc (.cells #[.int .i64 0, .slice none 0 0] 24)).cell? ⟨w2.heap.size, 1, none⟩ = some (.int .i64 r.m) := by rw [← hw6, cell_of_row HX6.out]; rfl
        have t2 : (w5.alloc (.cells #[.int .i64 0, .slice none 0 0] 24)).cell? ⟨w2.heap.size, 2, none⟩ = some (.int .i64 r.d) := by rw [← hw6, cell_of_row HX6.out]; rfl
        clear hw6_0 HX5
        go_wp2_with fail
        rw [← hw6]
        refine (HA.out _).mono ?_
        rintro e wn ⟨rfl, hw⟩
        obtain rfl := hw.symm
        clear hw
        clear hw6 t0 t1 t2
        go_wp2
        go_ret
        exact ⟨rfl, HB6.out⟩
      | true =>
        rw [hok, if_pos rfl] at hr HA
        unfold Ci.tup at HA
        obtain ⟨vv, rfl, hv⟩ := hr
        clear hok
        generalize Ci.Civ.cY (Ci.addK r.y r.m r.d 0 (7 * k)) = z0 at *
        generalize Ci.Civ.cM (Ci.addK r.y r.m r.d 0 (7 * k)) = z1 at *
        generalize Ci.Civ.cD (Ci.addK r.y r.m r.d 0 (7 * k)) = z2 at *
        obtain ⟨fv, rfl, hf⟩ := hv
        have HF := hid hf.ia
        obtain ⟨gb, go, cap, rfl, hc1, hc2, hlt⟩ := hf.ia.has3
        dsimp only at *
        obtain ⟨w6, hw6⟩ : ∃ w6, w6 = w5.alloc (.cells #[.int .i64 4, .slice (some ⟨gb, go, none⟩) 3 cap] 24) := ⟨_, rfl⟩
        obtain ⟨hc, hb, hsw6⟩ := chain_heap w5 [.cells #[.int .i64 4, .slice (some ⟨gb, go, none⟩) 3 cap] 24]
        simp only [List.foldl_cons, List.foldl_nil] at hc hb hsw6
        rw [← hw6] at hc hb hsw6
        have hw6_0 := hid (show w6.heap[w5.heap.size]? = some _ from hc 0 _ rfl)
        have HBw6 := hid hb
        have Hsw6 := hid (show w6.heap.size = w5.heap.size + 1 from hsw6)
        clear hc hb hsw6
        have HB6 := hid (up_trans HB5.out HBw6.out)
        have HX6 := hid ((HBw6.out.block w2.heap.size (Array.getElem?_eq_some_iff.1 HX5.out).1).trans HX5.out)
        have t0 : (w5.alloc (.cells #[.int .i64 4, .slice (some ⟨gb, go, none⟩) 3 cap] 24)).cell? ⟨w2.heap.size, 0, none⟩ = some (.int .i64 r.y) := by rw [← hw6, cell_of_row HX6.out]; rfl
        have t1 : (w5.alloc (.cells #[.int .i64 4, .slice (some ⟨gb, go, none⟩) 3 cap] 24)).cell? ⟨w2.heap.size, 1, none⟩ = some (.int .i64 r.m) := by rw [← hw6, cell_of_row HX6.out]; rfl
        have t2 : (w5.alloc (.cells #[.int .i64 4, .slice (some ⟨gb, go, none⟩) 3 cap] 24)).cell? ⟨w2.heap.size, 2, none⟩ = some (.int .i64 r.d) := by rw [← hw6, cell_of_row HX6.out]; rfl
        have c0 : w6.cell? ⟨w5.heap.size, 0, none⟩ = some (.int .i64 4) := by rw [cell_of_row hw6_0.out]; rfl
        have c1 : w6.cell? ⟨w5.heap.size, 1, none⟩ = some (.slice (some ⟨gb, go, none⟩) 3 cap) := by rw [cell_of_row hw6_0.out]; rfl
        have e0 := (HF.out.on HBw6.out).cell0
        have e1 := (HF.out.on HBw6.out).cell1
        have e2 := (HF.out.on HBw6.out).cell2
        clear hw6_0 HX5 hf
        go_wp2_with fail
        rw [← hw6]
        refine (HA.out _).mono ?_
        rintro e wn ⟨rfl, hw⟩
        obtain rfl := hw.symm
        clear hw
        clear hw6 t0 t1 t2
        go_wp2
        go_ret
        exact ⟨rfl, HB6.out⟩
    ·
      have HA := hid (HA.out (k * 1) 0)
      have hr : match onO r (k * 1) 0 with | some x => ∃ v, e = .returned (.tuple #[v, .bool true]) ∧ NV w4.heap.size w5 v x | none => e = .returned noneV := hr
      unfold onO at hr
      simp only [show k * 1 = k by omega] at *
      cases hok : Ci.addOk r.y r.m r.d k 0 with
      | false =>
        rw [hok, if_neg (by decide)] at hr HA
        unfold Ci.tup at HA
        obtain rfl : e = .returned noneV := hr
        unfold noneV
        clear hok
        obtain ⟨w6, hw6⟩ : ∃ w6, w6 = w5.alloc (.cells #[.int .i64 0, .slice none 0 0] 24) := ⟨_, rfl⟩
        obtain ⟨hc, hb, hsw6⟩ := chain_heap w5 [.cells #[.int .i64 0, .slice none 0 0] 24]
        simp only [List.foldl_cons, List.foldl_nil] at hc hb hsw6
        rw [← hw6] at hc hb hsw6
        have hw6_0 := hid (show w6.heap[w5.heap.size]? = some _ from hc 0 _ rfl)
        have HBw6 := hid hb
        have Hsw6 := hid (show w6.heap.size = w5.heap.size + 1 from hsw6)
        clear hc hb hsw6
        have HB6 := hid (up_trans HB5.out HBw6.out)
        have HX6 := hid ((HBw6.out.block w2.heap.size (Array.getElem?_eq_some_iff.1 HX5.out).1).trans HX5.out)
        have t0 : (w5.alloc (.cells #[.int .i64 0, .slice none 0 0] 24)).cell? ⟨w2.heap.size, 0, none⟩ = some (.int .i64 r.y) := by rw [← hw6, cell_of_row HX6.out]; rfl
        have t1 : (w5.alloc (.cells #[.int .i64 0, .slice none 0 0] 24)).cell? ⟨w2.heap.size, 1, none⟩ = some (.int .i64 r.m) := by rw [← hw6, cell_of_row HX6.out]; rfl
        have t2 : (w5.alloc (.cells #[.int .i64 0, .slice none 0 0] 24)).cell? ⟨w2.heap.size, 2, none⟩ = some (.int .i64 r.d) := by rw [← hw6, cell_of_row HX6.out]; rfl
        clear hw6_0 HX5
        go_wp2_with fail
        rw [← hw6]
        refine (HA.out _).mono ?_
        rintro e wn ⟨rfl, hw⟩
        obtain rfl := hw.symm
        clear hw
        clear hw6 t0 t1 t2
        go_wp2
        go_ret
        exact ⟨rfl, HB6.out⟩
      | true =>
        rw [hok, if_pos rfl] at hr HA
        unfold Ci.tup at HA
        obtain ⟨vv, rfl, hv⟩ := hr
        clear hok
        generalize Ci.Civ.cY (Ci.addK r.y r.m r.d k 0) = z0 at *
        generalize Ci.Civ.cM (Ci.addK r.y r.m r.d k 0) = z1 at *
        generalize Ci.Civ.cD (Ci.addK r.y r.m r.d k 0) = z2 at *
        obtain ⟨fv, rfl, hf⟩ := hv
        have HF := hid hf.ia
        obtain ⟨gb, go, cap, rfl, hc1, hc2, hlt⟩ := hf.ia.has3
        dsimp only at *
        obtain ⟨w6, hw6⟩ : ∃ w6, w6 = w5.alloc (.cells #[.int .i64 4, .slice (some ⟨gb, go, none⟩) 3 cap] 24) := ⟨_, rfl⟩
        obtain ⟨hc, hb, hsw6⟩ := chain_heap w5 [.cells #[.int .i64 4, .slice (some ⟨gb, go, none⟩) 3 cap] 24]
        simp only [List.foldl_cons, List.foldl_nil] at hc hb hsw6
        rw [← hw6] at hc hb hsw6
        have hw6_0 := hid (show w6.heap[w5.heap.size]? = some _ from hc 0 _ rfl)
        have HBw6 := hid hb
        have Hsw6 := hid (show w6.heap.size = w5.heap.size + 1 from hsw6)
        clear hc hb hsw6
        have HB6 := hid (up_trans HB5.out HBw6.out)
        have HX6 := hid ((HBw6.out.block w2.heap.size (Array.getElem?_eq_some_iff.1 HX5.out).1).trans HX5.out)
        have t0 : (w5.alloc (.cells #[.int .i64 4, .slice (some ⟨gb, go, none⟩) 3 cap] 24)).cell? ⟨w2.heap.size, 0, none⟩ = some (.int .i64 r.y) := by rw [← hw6, cell_of_row HX6.out]; rfl
        have t1 : (w5.alloc (.cells #[.int .i64 4, .slice (some ⟨gb, go, none⟩) 3 cap] 24)).cell? ⟨w2.heap.size, 1, none⟩ = some (.int .i64 r.m) := by rw [← hw6, cell_of_row HX6.out]; rfl
        have t2 : (w5.alloc (.cells #[.int .i64 4, .slice (some ⟨gb, go, none⟩) 3 cap] 24)).cell? ⟨w2.heap.size, 2, none⟩ = some (.int .i64 r.d) := by rw [← hw6, cell_of_row HX6.out]; rfl
        have c0 : w6.cell? ⟨w5.heap.size, 0, none⟩ = some (.int .i64 4) := by rw [cell_of_row hw6_0.out]; rfl
        have c1 : w6.cell? ⟨w5.heap.size, 1, none⟩ = some (.slice (some ⟨gb, go, none⟩) 3 cap) := by rw [cell_of_row hw6_0.out]; rfl
        have e0 := (HF.out.on HBw6.out).cell0
        have e1 := (HF.out.on HBw6.out).cell1
        have e2 := (HF.out.on HBw6.out).cell2
        clear hw6_0 HX5 hf
        go_wp2_with fail
        rw [← hw6]
        refine (HA.out _).mono ?_
        rintro e wn ⟨rfl, hw⟩
        obtain rfl := hw.symm
        clear hw
        clear hw6 t0 t1 t2
        go_wp2
        go_ret
        exact ⟨rfl, HB6.out⟩
    ·
      have HA := hid (HA.out (12 * (k * 1)) 0)
      have hr : match onO r (12 * (k * 1)) 0 with | some x => ∃ v, e = .returned (.tuple #[v, .bool true]) ∧ NV w4.heap.size w5 v x | none => e = .returned noneV := hr
      unfold onO at hr
      simp only [show k * 1 = k by omega] at *
      cases hok : Ci.addOk r.y r.m r.d (12 * k) 0 with
      | false =>
        rw [hok, if_neg (by decide)] at hr HA
        unfold Ci.tup at HA
        obtain rfl : e = .returned noneV := hr
        unfold noneV
        clear hok
        obtain ⟨w6, hw6⟩ : ∃ w6, w6 = w5.alloc (.cells #[.int .i64 0, .slice none 0 0] 24) := ⟨_, rfl⟩
        obtain ⟨hc, hb, hsw6⟩ := chain_heap w5 [.cells #[.int .i64 0, .slice none 0 0] 24]
        simp only [List.foldl_cons, List.foldl_nil] at hc hb hsw6
        rw [← hw6] at hc hb hsw6
        have hw6_0 := hid (show w6.heap[w5.heap.size]? = some _ from hc 0 _ rfl)
        have HBw6 := hid hb
        have Hsw6 := hid (show w6.heap.size = w5.heap.size + 1 from hsw6)
        clear hc hb hsw6
        have HB6 := hid (up_trans HB5.out HBw6.out)
        have HX6 := hid ((HBw6.out.block w2.heap.size (Array.getElem?_eq_some_iff.1 HX5.out).1).trans HX5.out)
        have t0 : (w5.alloc (.cells #[.int .i64 0, .slice none 0 0] 24)).cell? ⟨w2.heap.size, 0, none⟩ = some (.int .i64 r.y) := by rw [← hw6, cell_of_row HX6.out]; rfl
        have t1 : (w5.alloc (.cells #[.int .i64 0, .slice none 0 0] 24)).cell? ⟨w2.heap.size, 1, none⟩ = some (.int .i64 r.m) := by rw [← hw6, cell_of_row HX6.out]; rfl
        have t2 : (w5.alloc (.cells #[.int .i64 0, .slice none 0 0] 24)).cell? ⟨w2.heap.size, 2, none⟩ = some (.int .i64 r.d) := by rw [← hw6, cell_of_row HX6.out]; rfl
        clear hw6_0 HX5
        go_wp2_with fail
        rw [← hw6]
        refine (HA.out _).mono ?_
        rintro e wn ⟨rfl, hw⟩
        obtain rfl := hw.symm
        clear hw
        clear hw6 t0 t1 t2
        go_wp2
        go_ret
        exact ⟨rfl, HB6.out⟩
      | true =>
        rw [hok, if_pos rfl] at hr HA
        unfold Ci.tup at HA
        obtain ⟨vv, rfl, hv⟩ := hr
        clear hok
        generalize Ci.Civ.cY (Ci.addK r.y r.m r.d (12 * k) 0) = z0 at *
        generalize Ci.Civ.cM (Ci.addK r.y r.m r.d (12 * k) 0) = z1 at *
        generalize Ci.Civ.cD (Ci.addK r.y r.m r.d (12 * k) 0) = z2 at *
        obtain ⟨fv, rfl, hf⟩ := hv
        have HF := hid hf.ia
        obtain ⟨gb, go, cap, rfl, hc1, hc2, hlt⟩ := hf.ia.has3
        dsimp only at *
        obtain ⟨w6, hw6⟩ : ∃ w6, w6 = w5.alloc (.cells #[.int .i64 4, .slice (some ⟨gb, go, none⟩) 3 cap] 24) := ⟨_, rfl⟩
        obtain ⟨hc, hb, hsw6⟩ := chain_heap w5 [.cells #[.int .i64 4, .slice (some ⟨gb, go, none⟩) 3 cap] 24]
        simp only [List.foldl_cons, List.foldl_nil] at hc hb hsw6
        rw [← hw6] at hc hb hsw6
        have hw6_0 := hid (show w6.heap[w5.heap.size]? = some _ from hc 0 _ rfl)
        have HBw6 := hid hb
        have Hsw6 := hid (show w6.heap.size = w5.heap.size + 1 from hsw6)
        clear hc hb hsw6
        have HB6 := hid (up_trans HB5.out HBw6.out)
        have HX6 := hid ((HBw6.out.block w2.heap.size (Array.getElem?_eq_some_iff.1 HX5.out).1).trans HX5.out)
        have t0 : (w5.alloc (.cells #[.int .i64 4, .slice (some ⟨gb, go, none⟩) 3 cap] 24)).cell? ⟨w2.heap.size, 0, none⟩ = some (.int .i64 r.y) := by rw [← hw6, cell_of_row HX6.out]; rfl
        have t1 : (w5.alloc (.cells #[.int .i64 4, .slice (some ⟨gb, go, none⟩) 3 cap] 24)).cell? ⟨w2.heap.size, 1, none⟩ = some (.int .i64 r.m) := by rw [← hw6, cell_of_row HX6.out]; rfl
        have t2 : (w5.alloc (.cells #[.int .i64 4, .slice (some ⟨gb, go, none⟩) 3 cap] 24)).cell? ⟨w2.heap.size, 2, none⟩ = some (.int .i64 r.d) := by rw [← hw6, cell_of_row HX6.out]; rfl
        have c0 : w6.cell? ⟨w5.heap.size, 0, none⟩ = some (.int .i64 4) := by rw [cell_of_row hw6_0.out]; rfl
        have c1 : w6.cell? ⟨w5.heap.size, 1, none⟩ = some (.slice (some ⟨gb, go, none⟩) 3 cap) := by rw [cell_of_row hw6_0.out]; rfl
        have e0 := (HF.out.on HBw6.out).cell0
        have e1 := (HF.out.on HBw6.out).cell1
        have e2 := (HF.out.on HBw6.out).cell2
        clear hw6_0 HX5 hf
        go_wp2_with fail
        rw [← hw6]
        refine (HA.out _).mono ?_
        rintro e wn ⟨rfl, hw⟩
        obtain rfl := hw.symm
        clear hw
        clear hw6 t0 t1 t2
        go_wp2
        go_ret
        exact ⟨rfl, HB6.out⟩
  | true =>
    have hm := moves_made r k (1 + u) (-1) hk0 hk1 (by omega) (by omega) (by decide)
    go_enter Tryd.func4, Tryd.ntmps4
    go_wp2_with fail
    refine HK.out.mono ?_
    rintro e w1 ⟨rfl, hb1⟩
    have HB1 := hid hb1
    clear hb1 HK
    go_wp2_with fail
    refine (HR.out _).mono ?_
    rintro e w2 ⟨rfl, hb2⟩
    have HB2 := hid (up_trans HB1.out hb2)
    clear hb2
    obtain ⟨w3, hw3⟩ : ∃ w3, w3 = w2.alloc (.cells #[.int .i64 r.y, .int .i64 r.m, .int .i64 r.d, .int .i64 r.h, .int .i64 r.i, .int .i64 r.s] 31) := ⟨_, rfl⟩
    obtain ⟨hc, hb, hsw3⟩ := chain_heap w2 [.cells #[.int .i64 r.y, .int .i64 r.m, .int .i64 r.d, .int .i64 r.h, .int .i64 r.i, .int .i64 r.s] 31]
    simp only [List.foldl_cons, List.foldl_nil] at hc hb hsw3
    rw [← hw3] at hc hb hsw3
    have hw3_0 := hid (show w3.heap[w2.heap.size]? = some _ from hc 0 _ rfl)
    have HBw3 := hid hb
    have Hsw3 := hid (show w3.heap.size = w2.heap.size + 1 from hsw3)
    clear hc hb hsw3
    have HB3 := hid (up_trans HB2.out HBw3.out)
    go_wp2_with fail
    rw [← hw3]
    refine (H1.out _).mono ?_
    rintro e wn ⟨rfl, hw⟩
    obtain rfl := hw.symm
    clear hw hw3
    go_wp2_with fail
    refine (H2.out _).mono ?_
    rintro e wn ⟨rfl, hw⟩
    obtain rfl := hw.symm
    clear hw
    have t0 : w3.cell? ⟨w2.heap.size, 0, none⟩ = some (.int .i64 r.y) := by rw [cell_of_row hw3_0.out]; rfl
    have t1 : w3.cell? ⟨w2.heap.size, 1, none⟩ = some (.int .i64 r.m) := by rw [cell_of_row hw3_0.out]; rfl
    have t2 : w3.cell? ⟨w2.heap.size, 2, none⟩ = some (.int .i64 r.d) := by rw [cell_of_row hw3_0.out]; rfl
    have t3 : w3.cell? ⟨w2.heap.size, 3, none⟩ = some (.int .i64 r.h) := by rw [cell_of_row hw3_0.out]; rfl
    have t4 : w3.cell? ⟨w2.heap.size, 4, none⟩ = some (.int .i64 r.i) := by rw [cell_of_row hw3_0.out]; rfl
    have t5 : w3.cell? ⟨w2.heap.size, 5, none⟩ = some (.int .i64 r.s) := by rw [cell_of_row hw3_0.out]; rfl
    clear H1 H2
    obtain ⟨w4, hw4⟩ : ∃ w4, w4 = ((((w3.alloc (.cells #[.int .i64 (0), .int .i64 (1), .int .i64 (2)] 3)).alloc (.cells #[.int .i64 (k), .int .i64 (3)] 3)).alloc (.cells #[.int .i64 (1 + u)] 3)).alloc (.cells #[.int .i64 ((-1))] 3)).alloc (.cells #[.int .i64 1, .slice (some ⟨w3.heap.size + 1, 0, none⟩) 2 2, .int .i64 2, .slice (some ⟨w3.heap.size + 1 + 1, 0, none⟩) 1 1, .int .i64 2, .slice (some ⟨w3.heap.size + 1 + 1 + 1, 0, none⟩) 1 1] 24) := ⟨_, rfl⟩
    obtain ⟨hc, hb, hsw4⟩ := chain_heap w3 [.cells #[.int .i64 (0), .int .i64 (1), .int .i64 (2)] 3, .cells #[.int .i64 (k), .int .i64 (3)] 3, .cells #[.int .i64 (1 + u)] 3, .cells #[.int .i64 ((-1))] 3, .cells #[.int .i64 1, .slice (some ⟨w3.heap.size + 1, 0, none⟩) 2 2, .int .i64 2, .slice (some ⟨w3.heap.size + 1 + 1, 0, none⟩) 1 1, .int .i64 2, .slice (some ⟨w3.heap.size + 1 + 1 + 1, 0, none⟩) 1 1] 24]
    simp only [List.foldl_cons, List.foldl_nil] at hc hb hsw4
    rw [← hw4] at hc hb hsw4
    have hw4_0 := hid (show w4.heap[w3.heap.size]? = some _ from hc 0 _ rfl)
    have hw4_1 := hid (hc 1 _ rfl)
    have hw4_2 := hid (hc 2 _ rfl)
    have hw4_3 := hid (hc 3 _ rfl)
    have hw4_4 := hid (hc 4 _ rfl)
    have HBw4 := hid hb
    have Hsw4 := hid (show w4.heap.size = w3.heap.size + 5 from hsw4)
    clear hc hb hsw4
    have HP := hid (IA.at [0, 1, 2] hw4_0.out (by simp))
    have HL := hid (LA.three hw4_4.out (IA.at [k, 3] hw4_1.out (by simp)) (IA.at [1 + u] hw4_2.out (by simp)) (IA.at [(-1)] hw4_3.out (by simp)))
    have HB4 := hid (up_trans HB3.out HBw4.out)
    have HX4 := hid ((HBw4.out.block w2.heap.size (by have := Hsw3.out; omega)).trans hw3_0.out)
    have t0 : (((((w3.alloc (.cells #[.int .i64 (0), .int .i64 (1), .int .i64 (2)] 3)).alloc (.cells #[.int .i64 (k), .int .i64 (3)] 3)).alloc (.cells #[.int .i64 (1 + u)] 3)).alloc (.cells #[.int .i64 ((-1))] 3)).alloc (.cells #[.int .i64 1, .slice (some ⟨w3.heap.size + 1, 0, none⟩) 2 2, .int .i64 2, .slice (some ⟨w3.heap.size + 1 + 1, 0, none⟩) 1 1, .int .i64 2, .slice (some ⟨w3.heap.size + 1 + 1 + 1, 0, none⟩) 1 1] 24)).cell? ⟨w2.heap.size, 0, none⟩ = some (.int .i64 r.y) := by rw [← hw4, cell_of_row HX4.out]; rfl
    have t1 : (((((w3.alloc (.cells #[.int .i64 (0), .int .i64 (1), .int .i64 (2)] 3)).alloc (.cells #[.int .i64 (k), .int .i64 (3)] 3)).alloc (.cells #[.int .i64 (1 + u)] 3)).alloc (.cells #[.int .i64 ((-1))] 3)).alloc (.cells #[.int .i64 1, .slice (some ⟨w3.heap.size + 1, 0, none⟩) 2 2, .int .i64 2, .slice (some ⟨w3.heap.size + 1 + 1, 0, none⟩) 1 1, .int .i64 2, .slice (some ⟨w3.heap.size + 1 + 1 + 1, 0, none⟩) 1 1] 24)).cell? ⟨w2.heap.size, 1, none⟩ = some (.int .i64 r.m) := by rw [← hw4, cell_of_row HX4.out]; rfl
    have t2 : (((((w3.alloc (.cells #[.int .i64 (0), .int .i64 (1), .int .i64 (2)] 3)).alloc (.cells #[.int .i64 (k), .int .i64 (3)] 3)).alloc (.cells #[.int .i64 (1 + u)] 3)).alloc (.cells #[.int .i64 ((-1))] 3)).alloc (.cells #[.int .i64 1, .slice (some ⟨w3.heap.size + 1, 0, none⟩) 2 2, .int .i64 2, .slice (some ⟨w3.heap.size + 1 + 1, 0, none⟩) 1 1, .int .i64 2, .slice (some ⟨w3.heap.size + 1 + 1 + 1, 0, none⟩) 1 1] 24)).cell? ⟨w2.heap.size, 2, none⟩ = some (.int .i64 r.d) := by rw [← hw4, cell_of_row HX4.out]; rfl
    have t3 : (((((w3.alloc (.cells #[.int .i64 (0), .int .i64 (1), .int .i64 (2)] 3)).alloc (.cells #[.int .i64 (k), .int .i64 (3)] 3)).alloc (.cells #[.int .i64 (1 + u)] 3)).alloc (.cells #[.int .i64 ((-1))] 3)).alloc (.cells #[.int .i64 1, .slice (some ⟨w3.heap.size + 1, 0, none⟩) 2 2, .int .i64 2, .slice (some ⟨w3.heap.size + 1 + 1, 0, none⟩) 1 1, .int .i64 2, .slice (some ⟨w3.heap.size + 1 + 1 + 1, 0, none⟩) 1 1] 24)).cell? ⟨w2.heap.size, 3, none⟩ = some (.int .i64 r.h) := by rw [← hw4, cell_of_row HX4.out]; rfl
    have t4 : (((((w3.alloc (.cells #[.int .i64 (0), .int .i64 (1), .int .i64 (2)] 3)).alloc (.cells #[.int .i64 (k), .int .i64 (3)] 3)).alloc (.cells #[.int .i64 (1 + u)] 3)).alloc (.cells #[.int .i64 ((-1))] 3)).alloc (.cells #[.int .i64 1, .slice (some ⟨w3.heap.size + 1, 0, none⟩) 2 2, .int .i64 2, .slice (some ⟨w3.heap.size + 1 + 1, 0, none⟩) 1 1, .int .i64 2, .slice (some ⟨w3.heap.size + 1 + 1 + 1, 0, none⟩) 1 1] 24)).cell? ⟨w2.heap.size, 4, none⟩ = some (.int .i64 r.i) := by rw [← hw4, cell_of_row HX4.out]; rfl
    have t5 : (((((w3.alloc (.cells #[.int .i64 (0), .int .i64 (1), .int .i64 (2)] 3)).alloc (.cells #[.int .i64 (k), .int .i64 (3)] 3)).alloc (.cells #[.int .i64 (1 + u)] 3)).alloc (.cells #[.int .i64 ((-1))] 3)).alloc (.cells #[.int .i64 1, .slice (some ⟨w3.heap.size + 1, 0, none⟩) 2 2, .int .i64 2, .slice (some ⟨w3.heap.size + 1 + 1, 0, none⟩) 1 1, .int .i64 2, .slice (some ⟨w3.heap.size + 1 + 1 + 1, 0, none⟩) 1 1] 24)).cell? ⟨w2.heap.size, 5, none⟩ = some (.int .i64 r.s) := by rw [← hw4, cell_of_row HX4.out]; rfl
    have HD := hid (made_any (p := p) 6 r _ _ _ _ w4 (by decide) HP.out HL.out (HT.out.on HB4.out) (by intro q hq; simp at hq; rcases hq with rfl | rfl | rfl <;> simp) trivial HRR.out)
    rw [show doO 6 (madeO 6 r (List.map (fun (q : Int) => [(⟨1, [k, 3]⟩ : Val), ⟨2, [1 + u]⟩, ⟨2, [(-1)]⟩].getD q.toNat nilVal) [0, 1, 2])) = _ from hm] at HD
    unfold momV at HD
    clear hw4_0 hw4_1 hw4_2 hw4_3 hw4_4 hw3_0 HP HL hm
    go_wp2_with fail
    rw [← hw4]
    refine HD.out.mono ?_
    rintro e w5 ⟨hb5, hr⟩
    have HB5 := hid (up_trans HB4.out hb5)
    have HX5 := hid ((hb5.block w2.heap.size (by have := Hsw3.out; have := Hsw4.out; omega)).trans HX4.out)
    clear hb5 HD hw4 t0 t1 t2 t3 t4 t5 HX4
    have hcases : 1 + u = 1 ∨ 1 + u = 2 ∨ 1 + u = 3 ∨ 1 + u = 4 := by omega
    generalize 1 + u = v at *
    rcases hcases with rfl | rfl | rfl | rfl
    ·
      have HA := hid (HA.out 0 (k * (-1)))
      have hr : match onO r 0 (k * (-1)) with | some x => ∃ v, e = .returned (.tuple #[v, .bool true]) ∧ NV w4.heap.size w5 v x | none => e = .returned noneV := hr
      unfold onO at hr
      simp only [show k * (-1) = -k by omega] at *
      cases hok : Ci.addOk r.y r.m r.d 0 (-k) with
      | false =>
        rw [hok, if_neg (by decide)] at hr HA
        unfold Ci.tup at HA
        obtain rfl : e = .returned noneV := hr
        unfold noneV
        clear hok
        obtain ⟨w6, hw6⟩ : ∃ w6, w6 = w5.alloc (.cells #[.int .i64 0, .slice none 0 0] 24) := ⟨_, rfl⟩
        obtain ⟨hc, hb, hsw6⟩ := chain_heap w5 [.cells #[.int .i64 0, .slice none 0 0] 24]
        simp only [List.foldl_cons, List.foldl_nil] at hc hb hsw6
        rw [← hw6] at hc hb hsw6
        have hw6_0 := hid (show w6.heap[w5.heap.size]? = some _ from hc 0 _ rfl)
        have HBw6 := hid hb
        have Hsw6 := hid (show w6.heap.size = w5.heap.size + 1 from hsw6)
        clear hc hb hsw6
        have HB6 := hid (up_trans HB5.out HBw6.out)
        have HX6 := hid ((HBw6.out.block w2.heap.size (Array.getElem?_eq_some_iff.1 HX5.out).1).trans HX5.out)
        have t0 : (w5.alloc (.cells #[.int .i64 0, .slice none 0 0] 24)).cell? ⟨w2.heap.size, 0, none⟩ = some (.int .i64 r.y) := by rw [← hw6, cell_of_row HX6.out]; rfl
        have t1 : (w5.alloc (.cells #[.int .i64 0, .slice none 0 0] 24)).cell? ⟨w2.heap.size, 1, none⟩ = some (.int .i64 r.m) := by rw [← hw6, cell_of_row HX6.out]; rfl
        have t2 : (w5.alloc (.cells #[.int .i64 0, .slice none 0 0] 24)).cell? ⟨w2.heap.size, 2, none⟩ = some (.int .i64 r.d) := by rw [← hw6, cell_of_row HX6.out]; rfl
        clear hw6_0 HX5
        go_wp2_with fail
        rw [← hw6]
        refine (HA.out _).mono ?_
        rintro e wn ⟨rfl, hw⟩
        obtain rfl := hw.symm
        clear hw
        clear hw6 t0 t1 t2
        go_wp2
        go_ret
        exact ⟨rfl, HB6.out⟩
      | true =>
        rw [hok, if_pos rfl] at hr HA
        unfold Ci.tup at HA
        obtain ⟨vv, rfl, hv⟩ := hr
        clear hok
        generalize Ci.Civ.cY (Ci.addK r.y r.m r.d 0 (-k)) = z0 at *
        generalize Ci.Civ.cM (Ci.addK r.y r.m r.d 0 (-k)) = z1 at *
        generalize Ci.Civ.cD (Ci.addK r.y r.m r.d 0 (-k)) = z2 at *
        obtain ⟨fv, rfl, hf⟩ := hv
        have HF := hid hf.ia
        obtain ⟨gb, go, cap, rfl, hc1, hc2, hlt⟩ := hf.ia.has3
        dsimp only at *
        obtain ⟨w6, hw6⟩ : ∃ w6, w6 = w5.alloc (.cells #[.int .i64 4, .slice (some ⟨gb, go, none⟩) 3 cap] 24) := ⟨_, rfl⟩
        obtain ⟨hc, hb, hsw6⟩ := chain_heap w5 [.cells #[.int .i64 4, .slice (some ⟨gb, go, none⟩) 3 cap] 24]
        simp only [List.foldl_cons, List.foldl_nil] at hc hb hsw6
        rw [← hw6] at hc hb hsw6
        have hw6_0 := hid (show w6.heap[w5.heap.size]? = some _ from hc 0 _ rfl)
        have HBw6 := hid hb
        have Hsw6 := hid (show w6.heap.size = w5.heap.size + 1 from hsw6)
        clear hc hb hsw6
        have HB6 := hid (up_trans HB5.out HBw6.out)
        have HX6 := hid ((HBw6.out.block w2.heap.size (Array.getElem?_eq_some_iff.1 HX5.out).1).trans HX5.out)
        have t0 : (w5.alloc (.cells #[.int .i64 4, .slice (some ⟨gb, go, none⟩) 3 cap] 24)).cell? ⟨w2.heap.size, 0, none⟩ = some (.int .i64 r.y) := by rw [← hw6, cell_of_row HX6.out]; rfl
        have t1 : (w5.alloc (.cells #[.int .i64 4, .slice (some ⟨gb, go, none⟩) 3 cap] 24)).cell? ⟨w2.heap.size, 1, none⟩ = some (.int .i64 r.m) := by rw [← hw6, cell_of_row HX6.out]; rfl
        have t2 : (w5.alloc (.cells #[.int .i64 4, .slice (some ⟨gb, go, none⟩) 3 cap] 24)).cell? ⟨w2.heap.size, 2, none⟩ = some (.int .i64 r.d) := by rw [← hw6, cell_of_row HX6.out]; rfl
        have c0 : w6.cell? ⟨w5.heap.size, 0, none⟩ = some (.int .i64 4) := by rw [cell_of_row hw6_0.out]; rfl
        have c1 : w6.cell? ⟨w5.heap.size, 1, none⟩ = some (.slice (some ⟨gb, go, none⟩) 3 cap) := by rw [cell_of_row hw6_0.out]; rfl
        have e0 := (HF.out.on HBw6.out).cell0
        have e1 := (HF.out.on HBw6.out).cell1
        have e2 := (HF.out.on HBw6.out).cell2
        clear hw6_0 HX5 hf
        go_wp2_with fail
        rw [← hw6]
        refine (HA.out _).mono ?_
        rintro e wn ⟨rfl, hw⟩
        obtain rfl := hw.symm
        clear hw
        clear hw6 t0 t1 t2
        go_wp2
        go_ret
        exact ⟨rfl, HB6.out⟩
    ·
      have HA := hid (HA.out 0 (7 * (k * (-1))))
      have hr : match onO r 0 (7 * (k * (-1))) with | some x => ∃ v, e = .returned (.tuple #[v, .bool true]) ∧ NV w4.heap.size w5 v x | none => e = .returned noneV := hr
      unfold onO at hr
      simp only [show k * (-1) = -k by omega, show 7 * (-k) = -(7 * k) by omega] at *
      cases hok : Ci.addOk r.y r.m r.d 0 (-(7 * k)) with
      | false =>
        rw [hok, if_neg (by decide)] at hr HA
        unfold Ci.tup at HA
        obtain rfl : e = .returned noneV := hr
        unfold noneV
        clear hok
        obtain ⟨w6, hw6⟩ : ∃ w6, w6 = w5.alloc (.cells #[.int .i64 0, .slice none 0 0] 24) := ⟨_, rfl⟩
        obtain ⟨hc, hb, hsw6⟩ := chain_heap w5 [.cells #[.int .i64 0, .slice none 0 0] 24]
        simp only [List.foldl_cons, List.foldl_nil] at hc hb hsw6
        rw [← hw6] at hc hb hsw6
        have hw6_0 := hid (show w6.heap[w5.heap.size]? = some _ from hc 0 _ rfl)
        have HBw6 := hid hb
        have Hsw6 := hid (show w6.heap.size = w5.heap.size + 1 from hsw6)
        clear hc hb hsw6
        have HB6 := hid (up_trans HB5.out HBw6.out)
        have HX6 := hid ((HBw6.out.block w2.heap.size (Array.getElem?_eq_some_iff.1 HX5.out).1).trans HX5.out)
        have t0 : (w5.alloc (.cells #[.int .i64 0, .slice none 0 0] 24)).cell? ⟨w2.heap.size, 0, none⟩ = some (.int .i64 r.y) := by rw [← hw6, cell_of_row HX6.out]; rfl
        have t1 : (w5.alloc (.cells #[.int .i64 0, .slice none 0 0] 24)).cell? ⟨w2.heap.size, 1, none⟩ = some (.int .i64 r.m) := by rw [← hw6, cell_of_row HX6.out]; rfl
        have t2 : (w5.alloc (.cells #[.int .i64 0, .slice none 0 0] 24)).cell? ⟨w2.heap.size, 2, none⟩ = some (.int .i64 r.d) := by rw [← hw6, cell_of_row HX6.out]; rfl
        clear hw6_0 HX5
        go_wp2_with fail
        rw [← hw6]
        refine (HA.out _).mono ?_
        rintro e wn ⟨rfl, hw⟩
        obtain rfl := hw.symm
        clear hw
        clear hw6 t0 t1 t2
        go_wp2
        go_ret
        exact ⟨rfl, HB6.out⟩
      | true =>
        rw [hok, if_pos rfl] at hr HA
        unfold Ci.tup at HA
        obtain ⟨vv, rfl, hv⟩ := hr
        clear hok
        generalize Ci.Civ.cY (Ci.addK r.y r.m r.d 0 (-(7 * k))) = z0 at *
        generalize Ci.Civ.cM (Ci.addK r.y r.m r.d 0 (-(7 * k))) = z1 at *
        generalize Ci.Civ.cD (Ci.addK r.y r.m r.d 0 (-(7 * k))) = z2 at *
        obtain ⟨fv, rfl, hf⟩ := hv
        have HF := hid hf.ia
        obtain ⟨gb, go, cap, rfl, hc1, hc2, hlt⟩ := hf.ia.has3
        dsimp only at *
        obtain ⟨w6, hw6⟩ : ∃ w6, w6 = w5.alloc (.cells #[.int .i64 4, .slice (some ⟨gb, go, none⟩) 3 cap] 24) := ⟨_, rfl⟩
        obtain ⟨hc, hb, hsw6⟩ := chain_heap w5 [.cells #[.int .i64 4, .slice (some ⟨gb, go, none⟩) 3 cap] 24]
        simp only [List.foldl_cons, List.foldl_nil] at hc hb hsw6
        rw [← hw6] at hc hb hsw6
        have hw6_0 := hid (show w6.heap[w5.heap.size]? = some _ from hc 0 _ rfl)
        have HBw6 := hid hb
        have Hsw6 := hid (show w6.heap.size = w5.heap.size + 1 from hsw6)
        clear hc hb hsw6
        have HB6 := hid (up_trans HB5.out HBw6.out)
        have HX6 := hid ((HBw6.out.block w2.heap.size (Array.getElem?_eq_some_iff.1 HX5.out).1).trans HX5.out)
        have t0 : (w5.alloc (.cells #[.int .i64 4, .slice (some ⟨gb, go, none⟩) 3 cap] 24)).cell? ⟨w2.heap.size, 0, none⟩ = some (.int .i64 r.y) := by rw [← hw6, cell_of_row HX6.out]; rfl
        have t1 : (w5.alloc (.cells #[.int .i64 4, .slice (some ⟨gb, go, none⟩) 3 cap] 24)).cell? ⟨w2.heap.size, 1, none⟩ = some (.int .i64 r.m) := by rw [← hw6, cell_of_row HX6.out]; rfl
        have t2 : (w5.alloc (.cells #[.int .i64 4, .slice (some ⟨gb, go, none⟩) 3 cap] 24)).cell? ⟨w2.heap.size, 2, none⟩ = some (.int .i64 r.d) := by rw [← hw6, cell_of_row HX6.out]; rfl
        have c0 : w6.cell? ⟨w5.heap.size, 0, none⟩ = some (.int .i64 4) := by rw [cell_of_row hw6_0.out]; rfl
        have c1 : w6.cell? ⟨w5.heap.size, 1, none⟩ = some (.slice (some ⟨gb, go, none⟩) 3 cap) := by rw [cell_of_row hw6_0.out]; rfl
        have e0 := (HF.out.on HBw6.out).cell0
        have e1 := (HF.out.on HBw6.out).cell1
        have e2 := (HF.out.on HBw6.out).cell2
        clear hw6_0 HX5 hf
        go_wp2_with fail
        rw [← hw6]
        refine (HA.out _).mono ?_
        rintro e wn ⟨rfl, hw⟩
        obtain rfl := hw.symm
        clear hw
        clear hw6 t0 t1 t2
        go_wp2
        go_ret
        exact ⟨rfl, HB6.out⟩
    ·
      have HA := hid (HA.out (k * (-1)) 0)
      have hr : match onO r (k * (-1)) 0 with | some x => ∃ v, e = .returned (.tuple #[v, .bool true]) ∧ NV w4.heap.size w5 v x | none => e = .returned noneV := hr
      unfold onO at hr
      simp only [show k * (-1) = -k by omega] at *
      cases hok : Ci.addOk r.y r.m r.d (-k) 0 with
      | false =>
        rw [hok, if_neg (by decide)] at hr HA
        unfold Ci.tup at HA
        obtain rfl : e = .returned noneV := hr
        unfold noneV
        clear hok
        obtain ⟨w6, hw6⟩ : ∃ w6, w6 = w5.alloc (.cells #[.int .i64 0, .slice none 0 0] 24) := ⟨_, rfl⟩
        obtain ⟨hc, hb, hsw6⟩ := chain_heap w5 [.cells #[.int .i64 0, .slice none 0 0] 24]
        simp only [List.foldl_cons, List.foldl_nil] at hc hb hsw6
        rw [← hw6] at hc hb hsw6
        have hw6_0 := hid (show w6.heap[w5.heap.size]? = some _ from hc 0 _ rfl)
        have HBw6 := hid hb
        have Hsw6 := hid (show w6.heap.size = w5.heap.size + 1 from hsw6)
        clear hc hb hsw6
        have HB6 := hid (up_trans HB5.out HBw6.out)
        have HX6 := hid ((HBw6.out.block w2.heap.size (Array.getElem?_eq_some_iff.1 HX5.out).1).trans HX5.out)
        have t0 : (w5.alloc (.cells #[.int .i64 0, .slice none 0 0] 24)).cell? ⟨w2.heap.size, 0, none⟩ = some (.int .i64 r.y) := by rw [← hw6, cell_of_row HX6.out]; rfl
        have t1 : (w5.alloc (.cells #[.int .i64 0, .slice none 0 0] 24)).cell? ⟨w2.heap.size, 1, none⟩ = some (.int .i64 r.m) := by rw [← hw6, cell_of_row HX6.out]; rfl
        have t2 : (w5.alloc (.cells #[.int .i64 0, .slice none 0 0] 24)).cell? ⟨w2.heap.size, 2, none⟩ = some (.int .i64 r.d) := by rw [← hw6, cell_of_row HX6.out]; rfl
        clear hw6_0 HX5
        go_wp2_with fail
        rw [← hw6]
        refine (HA.out _).mono ?_
        rintro e wn ⟨rfl, hw⟩
        obtain rfl := hw.symm
        clear hw
        clear hw6 t0 t1 t2
        go_wp2
        go_ret
        exact ⟨rfl, HB6.out⟩
      | true =>
        rw [hok, if_pos rfl] at hr HA
        unfold Ci.tup at HA
        obtain ⟨vv, rfl, hv⟩ := hr
        clear hok
        generalize Ci.Civ.cY (Ci.addK r.y r.m r.d (-k) 0) = z0 at *
        generalize Ci.Civ.cM (Ci.addK r.y r.m r.d (-k) 0) = z1 at *
        generalize Ci.Civ.cD (Ci.addK r.y r.m r.d (-k) 0) = z2 at *
        obtain ⟨fv, rfl, hf⟩ := hv
        have HF := hid hf.ia
        obtain ⟨gb, go, cap, rfl, hc1, hc2, hlt⟩ := hf.ia.has3
        dsimp only at *
        obtain ⟨w6, hw6⟩ : ∃ w6, w6 = w5.alloc (.cells #[.int .i64 4, .slice (some ⟨gb, go, none⟩) 3 cap] 24) := ⟨_, rfl⟩
        obtain ⟨hc, hb, hsw6⟩ := chain_heap w5 [.cells #[.int .i64 4, .slice (some ⟨gb, go, none⟩) 3 cap] 24]
        simp only [List.foldl_cons, List.foldl_nil] at hc hb hsw6
        rw [← hw6] at hc hb hsw6
        have hw6_0 := hid (show w6.heap[w5.heap.size]? = some _ from hc 0 _ rfl)
        have HBw6 := hid hb
        have Hsw6 := hid (show w6.heap.size = w5.heap.size + 1 from hsw6)
        clear hc hb hsw6
        have HB6 := hid (up_trans HB5.out HBw6.out)
        have HX6 := hid ((HBw6.out.block w2.heap.size (Array.getElem?_eq_some_iff.1 HX5.out).1).trans HX5.out)
        have t0 : (w5.alloc (.cells #[.int .i64 4, .slice (some ⟨gb, go, none⟩) 3 cap] 24)).cell? ⟨w2.heap.size, 0, none⟩ = some (.int .i64 r.y) := by rw [← hw6, cell_of_row HX6.out]; rfl
        have t1 : (w5.alloc (.cells #[.int .i64 4, .slice (some ⟨gb, go, none⟩) 3 cap] 24)).cell? ⟨w2.heap.size, 1, none⟩ = some (.int .i64 r.m) := by rw [← hw6, cell_of_row HX6.out]; rfl
        have t2 : (w5.alloc (.cells #[.int .i64 4, .slice (some ⟨gb, go, none⟩) 3 cap] 24)).cell? ⟨w2.heap.size, 2, none⟩ = some (.int .i64 r.d) := by rw [← hw6, cell_of_row HX6.out]; rfl
        have c0 : w6.cell? ⟨w5.heap.size, 0, none⟩ = some (.int .i64 4) := by rw [cell_of_row hw6_0.out]; rfl
        have c1 : w6.cell? ⟨w5.heap.size, 1, none⟩ = some (.slice (some ⟨gb, go, none⟩) 3 cap) := by rw [cell_of_row hw6_0.out]; rfl
        have e0 := (HF.out.on HBw6.out).cell0
        have e1 := (HF.out.on HBw6.out).cell1
        have e2 := (HF.out.on HBw6.out).cell2
        clear hw6_0 HX5 hf
        go_wp2_with fail
        rw [← hw6]
        refine (HA.out _).mono ?_
        rintro e wn ⟨rfl, hw⟩
        obtain rfl := hw.symm
        clear hw
        clear hw6 t0 t1 t2
        go_wp2
        go_ret
        exact ⟨rfl, HB6.out⟩
    ·
      have HA := hid (HA.out (12 * (k * (-1))) 0)
      have hr : match onO r (12 * (k * (-1))) 0 with | some x => ∃ v, e = .returned (.tuple #[v, .bool true]) ∧ NV w4.heap.size w5 v x | none => e = .returned noneV := hr
      unfold onO at hr
      simp only [show k * (-1) = -k by omega, show 12 * (-k) = -(12 * k) by omega] at *
      cases hok : Ci.addOk r.y r.m r.d (-(12 * k)) 0 with
      | false =>
        rw [hok, if_neg (by decide)] at hr HA
        unfold Ci.tup at HA
        obtain rfl : e = .returned noneV := hr
        unfold noneV
        clear hok
        obtain ⟨w6, hw6⟩ : ∃ w6, w6 = w5.alloc (.cells #[.int .i64 0, .slice none 0 0] 24) := ⟨_, rfl⟩
        obtain ⟨hc, hb, hsw6⟩ := chain_heap w5 [.cells #[.int .i64 0, .slice none 0 0] 24]
        simp only [List.foldl_cons, List.foldl_nil] at hc hb hsw6
        rw [← hw6] at hc hb hsw6
        have hw6_0 := hid (show w6.heap[w5.heap.size]? = some _ from hc 0 _ rfl)
        have HBw6 := hid hb
        have Hsw6 := hid (show w6.heap.size = w5.heap.size + 1 from hsw6)
        clear hc hb hsw6
        have HB6 := hid (up_trans HB5.out HBw6.out)
        have HX6 := hid ((HBw6.out.block w2.heap.size (Array.getElem?_eq_some_iff.1 HX5.out).1).trans HX5.out)
        have t0 : (w5.alloc (.cells #[.int .i64 0, .slice none 0 0] 24)).cell? ⟨w2.heap.size, 0, none⟩ = some (.int .i64 r.y) := by rw [← hw6, cell_of_row HX6.out]; rfl
        have t1 : (w5.alloc (.cells #[.int .i64 0, .slice none 0 0] 24)).cell? ⟨w2.heap.size, 1, none⟩ = some (.int .i64 r.m) := by rw [← hw6, cell_of_row HX6.out]; rfl
        have t2 : (w5.alloc (.cells #[.int .i64 0, .slice none 0 0] 24)).cell? ⟨w2.heap.size, 2, none⟩ = some (.int .i64 r.d) := by rw [← hw6, cell_of_row HX6.out]; rfl
        clear hw6_0 HX5
        go_wp2_with fail
        rw [← hw6]
        refine (HA.out _).mono ?_
        rintro e wn ⟨rfl, hw⟩
        obtain rfl := hw.symm
        clear hw
        clear hw6 t0 t1 t2
        go_wp2
        go_ret
        exact ⟨rfl, HB6.out⟩
      | true =>
        rw [hok, if_pos rfl] at hr HA
        unfold Ci.tup at HA
        obtain ⟨vv, rfl, hv⟩ := hr
        clear hok
        generalize Ci.Civ.cY (Ci.addK r.y r.m r.d (-(12 * k)) 0) = z0 at *
        generalize Ci.Civ.cM (Ci.addK r.y r.m r.d (-(12 * k)) 0) = z1 at *
        generalize Ci.Civ.cD (Ci.addK r.y r.m r.d (-(12 * k)) 0) = z2 at *
        obtain ⟨fv, rfl, hf⟩ := hv
        have HF := hid hf.ia
        obtain ⟨gb, go, cap, rfl, hc1, hc2, hlt⟩ := hf.ia.has3
        dsimp only at *
        obtain ⟨w6, hw6⟩ : ∃ w6, w6 = w5.alloc (.cells #[.int .i64 4, .slice (some ⟨gb, go, none⟩) 3 cap] 24) := ⟨_, rfl⟩
        obtain ⟨hc, hb, hsw6⟩ := chain_heap w5 [.cells #[.int .i64 4, .slice (some ⟨gb, go, none⟩) 3 cap] 24]
        simp only [List.foldl_cons, List.foldl_nil] at hc hb hsw6
        rw [← hw6] at hc hb hsw6
        have hw6_0 := hid (show w6.heap[w5.heap.size]? = some _ from hc 0 _ rfl)
        have HBw6 := hid hb
        have Hsw6 := hid (show w6.heap.size = w5.heap.size + 1 from hsw6)
        clear hc hb hsw6
        have HB6 := hid (up_trans HB5.out HBw6.out)
        have HX6 := hid ((HBw6.out.block w2.heap.size (Array.getElem?_eq_some_iff.1 HX5.out).1).trans HX5.out)
        have t0 : (w5.alloc (.cells #[.int .i64 4, .slice (some ⟨gb, go, none⟩) 3 cap] 24)).cell? ⟨w2.heap.size, 0, none⟩ = some (.int .i64 r.y) := by rw [← hw6, cell_of_row HX6.out]; rfl
        have t1 : (w5.alloc (.cells #[.int .i64 4, .slice (some ⟨gb, go, none⟩) 3 cap] 24)).cell? ⟨w2.heap.size, 1, none⟩ = some (.int .i64 r.m) := by rw [← hw6, cell_of_row HX6.out]; rfl
        have t2 : (w5.alloc (.cells #[.int .i64 4, .slice (some ⟨gb, go, none⟩) 3 cap] 24)).cell? ⟨w2.heap.size, 2, none⟩ = some (.int .i64 r.d) := by rw [← hw6, cell_of_row HX6.out]; rfl
        have c0 : w6.cell? ⟨w5.heap.size, 0, none⟩ = some (.int .i64 4) := by rw [cell_of_row hw6_0.out]; rfl
        have c1 : w6.cell? ⟨w5.heap.size, 1, none⟩ = some (.slice (some ⟨gb, go, none⟩) 3 cap) := by rw [cell_of_row hw6_0.out]; rfl
        have e0 := (HF.out.on HBw6.out).cell0
        have e1 := (HF.out.on HBw6.out).cell1
        have e2 := (HF.out.on HBw6.out).cell2
        clear hw6_0 HX5 hf
        go_wp2_with fail
        rw [← hw6]
        refine (HA.out _).mono ?_
        rintro e wn ⟨rfl, hw⟩
        obtain rfl := hw.symm
        clear hw
        clear hw6 t0 t1 t2
        go_wp2
        go_ret
        exact ⟨rfl, HB6.out⟩

theorem own : ownKnob Tryd.prog.godebug = none := by kernel_rfl

theorem table {W : World} (h : laidMetH Tryd.prog Rows.actMovesRow.laid W) : TabsE W := by
  rw [MakeChecks.laidMetH_plain _ _ _ (by kernel_rfl)] at h
  exact tabs_of_laid h

set_option maxRecDepth 100000 in
theorem lifted (os : Os) (started : os.Started) (H : Type) (enc : TypeId × Value → H) :
    ReturnsInHanded {} Tryd.checked os 4 .any (fun w args => (Rows.actMovesSpec.pre enc Tryd.prog Tryd.f4 Rows.actMovesRow.domain false w args ∧ laidMetH Tryd.prog Rows.actMovesRow.laid w) ∧ sizedMet enc Tryd.prog Tryd.f4 (OpenSpec.ofChange Rows.actMovesSpec) false w args)
      (Rows.actMovesSpec.post enc Tryd.prog Tryd.f4 false true false false) := by
  refine returnsInHanded_of_change_and (C := Tryd.checked) (X := fun w _ => laidMetH Tryd.prog Rows.actMovesRow.laid w) (fun _ _ _ hh h => h.of_heap hh) own started (by kernel_rfl) Tryd.func4
    (ChangeSpec.witness_shaped (enc := enc) (C := Tryd.checked) (os := os) (X := fun w _ => laidMetH Tryd.prog Rows.actMovesRow.laid w) false (World.laidAll Tryd.prog os Rows.actMovesRow.laid) #[.int .i64 0, .int .i64 0, .bool false, .int .i64 0] 8 (World.laidAll_os _ _ _)
      (World.shaped_of_ZipB (by kernel_rfl) (by kernel_rfl)) (by kernel_rfl) (by kernel_rfl) (by kernel_rfl)
      (by rw [MakeChecks.laidMetH_plain _ _ _ (by kernel_rfl)]; exact laidMet_laidAll _ (by kernel_rfl) (by kernel_rfl))) ?_
  intro W base args ds gs before hval0 hW _ _ hL _
  have hval : ∀ (j : Nat) t v, Tryd.f4.params[j]? = some t → args[j]? = some v → Value.okWide Tryd.prog W .any base t v := hval0
  have hW' := hW
  obtain ⟨p, q, hA0, hV, rfl, hfz, hnd⟩ := hW
  have hA : DataW.TrodAll enc Tryd.prog W 0 (fun _ => true) true Tryd.f4.params.toList args.toList ds p := hA0
  rw [Tryd.params4] at hA hval
  obtain ⟨v0, vs0, d0, ds0, p0, q0, hargs, rfl, rfl, h0, r0⟩ := trodAll_cons hA
  obtain ⟨v1, vs1, d1, ds1, p1, q1, rfl, rfl, rfl, h1, r1⟩ := trodAll_cons r0
  obtain ⟨v2, vs2, d2, ds2, p2, q2, rfl, rfl, rfl, h2, r2⟩ := trodAll_cons r1
  obtain ⟨v3, vs3, d3, ds3, p3, q3, rfl, rfl, rfl, h3, r3⟩ := trodAll_cons r2
  obtain ⟨rfl, rfl, rfl⟩ := trodAll_nil r3
  obtain rfl : args = #[v0, v1, v2, v3] := by cases args; simp_all
  obtain ⟨rfl, rfl⟩ := trodVars_none hV
  obtain ⟨a0, rfl, rfl, rfl, w0⟩ := open_int Tryd.underlying3 (hval 0 3 v0 rfl rfl) h0
  obtain ⟨a1, rfl, rfl, rfl, w1⟩ := open_int Tryd.underlying3 (hval 1 3 v1 rfl rfl) h1
  obtain ⟨a2, rfl, rfl, rfl⟩ := open_bool Tryd.underlying4 (hval 2 4 v2 rfl rfl) h2
  obtain ⟨a3, rfl, rfl, rfl, w3⟩ := open_int Tryd.underlying3 (hval 3 3 v3 rfl rfl) h3
  clear hA0 hval0
  refine (walk a0 a1 a2 a3 W w0 w1 w3 (table hL)).mono fun e W' ⟨he, bel⟩ => ?_
  subst he
  exact ⟨_, rfl, _, _, _, [], _, [], hW', trodAll_mk1 (shut_bool Tryd.underlying4 _), (trodAll_cons_mk (shut_int Tryd.underlying3 w0) (trodAll_cons_mk (shut_int Tryd.underlying3 w1) (trodAll_cons_mk (shut_bool Tryd.underlying4 _) (trodAll_cons_mk (shut_int Tryd.underlying3 w3) trodAll_mk0)))), rfl, bel.frame _, fun h => by cases h⟩

theorem row_holds : Rows.ActMovesSaid :=
  OpenClaim.holds_of_wide 4 Tryd.f4 rfl rfl rfl rfl rfl rfl rfl ⟨rfl, rfl, rfl, rfl, rfl⟩ rfl rfl rfl rfl rfl (by kernel_rfl) Tryd.func4 (by kernel_rfl)
    (of_decide_eq_true (by kernel_rfl)) (by unfold Func.isWrapper; first | (rw [if_pos (by decide +kernel)]; kernel_rfl) | (rw [if_neg (by decide +kernel)]; exact ⟨rfl, rfl⟩))
    (fun os started H enc _ => lifted os started H enc)

theorem actMoves_holds : Rows.ActMovesCardSaid :=
  Claim7.holds_tied_plain_at .later [] _ _ _ _ row_holds (fun _ h => by cases h) (by kernel_rfl) (fun _ h => by cases h) actMoves_row_tie rfl ⟨rfl, rfl⟩ (by kernel_rfl) rfl
    (fun f fn hf hfn => by
      obtain rfl : f = 4 := Option.some.inj ((show Tryd.prog.funcNamed "interlocutor/interlocutorlaw8.ActMoves" = some 4 by kernel_rfl).symm.trans hf) |>.symm
      obtain rfl : fn = Tryd.f4 := (Option.some.inj (Tryd.func4.symm.trans hfn)).symm
      exact ⟨by kernel_rfl, fun j t ht => by
        rw [Tryd.params4] at ht
        have hm : t ∈ [3, 3, 4, 3] := by simpa using Array.mem_of_getElem? ht
        have hall : ([3, 3, 4, 3].all fun u => !Tryd.prog.wantsStandIn u) = true := by kernel_rfl
        exact (show Tryd.prog.wantsStandIn t = false by simpa using List.all_eq_true.1 hall t hm)⟩)
    (by kernel_rfl)

end Go.Proofs.YtdecphhmiioihaaDoor
