/- ActDates answers true of any five arguments: a day by year, month, day is one just if the calendar has it; by month and day alone it is of the reference's year. The table of how many numbers a kind has, and what an action stops with, are as listed. -/
import Derived.Test.YtdecphhmiioihaaDoorCards
import Derived.Test.YtdecphhmiioihaaDoorTie
import Derived.Test.YtdecphhmiioihaaDoorTab
import Derived.ProofKit
import Derived.OpenShut
import Derived.Lay
import Derived.SevenTiedAt
import Derived.Stop.Joined
import Derived.Lib.LaidTab
namespace Go.Proofs.YtdecphhmiioihaaDoor
open Go.ChangeShapes Go.WideShapes Go.ChangeAt Go.RowKit

theorem date_right (y m d : Int) : rightB ⟨4, [y, m, d]⟩ = Ci.dayB y m d := by
  show (wholeB ⟨4, [y, m, d]⟩ && Ci.dayB y m d) = _
  rw [show wholeB ⟨4, [y, m, d]⟩ = true from rfl, Bool.true_and]
theorem ciInB {n a b : Int} : Ci.inB n a b = true ↔ a ≤ n ∧ n ≤ b := by unfold Ci.inB; simp
def kidM (b : Int) (word : Bool) : Val := if word then ⟨2, [b]⟩ else ⟨1, [b, 2]⟩
theorem kidM_cnt (b : Int) (word : Bool) : cntC (kidM b word) = some b := by cases word <;> rfl
theorem date_made (r : Mom) (a b c : Int) (word : Bool) : doO 1 (madeO 1 r [⟨1, [a, 4]⟩, kidM b word, ⟨1, [c, 2]⟩]) = if Ci.dayB a b c = true then some ⟨4, [a, b, c]⟩ else none := by
  show doO 1 (dateO r ⟨1, [a, 4]⟩ (kidM b word) ⟨1, [c, 2]⟩) = _
  have ey : yearB ⟨1, [a, 4]⟩ r.y = if inB a 1 9999 = true then some a else none := by
    unfold yearB
    rw [if_pos ⟨rfl, rfl⟩]
    exact if_neg (show ¬ inB 4 1 2 = true by decide)
  unfold dateO
  rw [ey, kidM_cnt]
  by_cases h : inB a 1 9999 = true
  · rw [if_pos h]
    show (if (1 : Nat) = 0 ∨ rightB ⟨4, [a, b, c]⟩ = true then some _ else none) = _
    rw [date_right]
    by_cases hd : Ci.dayB a b c = true
    · rw [if_pos hd, if_pos (Or.inr hd)]; rfl
    · rw [if_neg hd, if_neg (by simp [hd])]
  · rw [if_neg h, if_neg]
    · rfl
    · intro hd
      unfold Ci.dayB at hd
      simp only [Bool.and_eq_true] at hd
      exact h (inB_iff.2 (ciInB.1 hd.1))
theorem this_made (r : Mom) (b c : Int) (word : Bool) : doO 2 (madeO 2 r [kidM b word, ⟨1, [c, 2]⟩]) = if Ci.dayB r.y b c = true then some ⟨4, [r.y, b, c]⟩ else none := by
  show doO 2 (thisO r (kidM b word) ⟨1, [c, 2]⟩) = _
  unfold thisO
  rw [kidM_cnt]
  show (if (2 : Nat) = 0 ∨ rightB ⟨4, [r.y, b, c]⟩ = true then some _ else none) = _
  rw [date_right]
  by_cases hd : Ci.dayB r.y b c = true
  · rw [if_pos hd, if_pos (Or.inr hd)]; rfl
  · rw [if_neg hd, if_neg (by simp [hd])]

set_option maxRecDepth 8000 in
set_option maxHeartbeats 8000000 in
theorem walk (y m d x : Int) (word : Bool) (W : World) (w0 : (Lit.int .i64 y).wf = true) (w1 : (Lit.int .i64 m).wf = true) (w2 : (Lit.int .i64 d).wf = true) (w3 : (Lit.int .i64 x).wf = true) (hX : TabsE W) : Calls Tryd.prog 10 #[.int .i64 y, .int .i64 m, .int .i64 d, .int .i64 x, .bool word] W fun e W' => e = .returned (.bool true) ∧ Below W.heap.size W W' := by
  obtain ⟨p, hT⟩ := hX
  obtain ⟨ba, ba'⟩ := wf_bd w0
  obtain ⟨bb, bb'⟩ := wf_bd w1
  obtain ⟨bc, bc'⟩ := wf_bd w2
  obtain ⟨bd, bd'⟩ := wf_bd w3
  have HK := hid (known_any p W hT)
  have HT := hid hT
  have H1 := hid fun w => lwithin_any y 11000 w (by decide) (by decide) ba ba'
  have H2 := hid fun w => lwithin_any m 15 w (by decide) (by decide) bb bb'
  have H3 := hid fun w => lwithin_any d 34 w (by decide) (by decide) bc bc'
  have HR := hid fun w => ref_any x w bd bd'
  have HRR := hid (refM_right x)
  unfold momV at HR
  generalize y % 11000 = a at *
  generalize m % 15 = b at *
  generalize d % 34 = c at *
  generalize refM x = r at *
  clear hT w0 w1 w2 w3 ba ba' bb bb' bc bc' bd bd'
  have hm1 := date_made r a b c word
  have hm2 := this_made r b c word
  have HD1 := hid (Ci.rday_any a b c)
  have HD2 := hid (Ci.rday_any r.y b c)
  by_cases h1 : Ci.dayB a b c = true
  case pos =>
    by_cases h2 : Ci.dayB r.y b c = true
    case pos =>
      cases word with
      | false =>
        go_enter Tryd.func10, Tryd.ntmps10
        go_wp2_with fail
        refine HK.out.mono ?_
        rintro e w1 ⟨rfl, hb1⟩
        have HB1 := hid hb1
        clear hb1 HK
        go_wp2_with fail
        refine (H1.out _).mono ?_
        rintro e wn ⟨rfl, hw⟩
        obtain rfl := hw.symm
        clear hw
        go_wp2_with fail
        refine (H2.out _).mono ?_
        rintro e wn ⟨rfl, hw⟩
        obtain rfl := hw.symm
        clear hw
        go_wp2_with fail
        refine (H3.out _).mono ?_
        rintro e wn ⟨rfl, hw⟩
        obtain rfl := hw.symm
        clear hw
        clear H1 H2 H3
        go_wp2_with fail
        refine (HR.out _).mono ?_
        rintro e w2 ⟨rfl, hb2⟩
        have HB2 := hid (up_trans HB1.out hb2)
        clear hb2 HR
        obtain ⟨w4, hw4⟩ : ∃ w4, w4 = ((((((w2.alloc (.cells #[.int .i64 r.y, .int .i64 r.m, .int .i64 r.d, .int .i64 r.h, .int .i64 r.i, .int .i64 r.s] 31)).alloc (.cells #[.int .i64 (b), .int .i64 (2)] 3)).alloc (.cells #[.int .i64 1, .slice (some ⟨w2.heap.size + 1, 0, none⟩) 2 2] 24)).alloc (.cells #[.int .i64 (a), .int .i64 (4)] 3)).alloc (.cells #[.int .i64 (c), .int .i64 (2)] 3)).alloc (.cells #[.int .i64 1, .slice (some ⟨w2.heap.size + 1 + 1 + 1, 0, none⟩) 2 2, .int .i64 1, .slice (some ⟨w2.heap.size + 1, 0, none⟩) 2 2, .int .i64 1, .slice (some ⟨w2.heap.size + 1 + 1 + 1 + 1, 0, none⟩) 2 2] 24)).alloc (.cells #[.int .i64 (0), .int .i64 (1), .int .i64 (2)] 3) := ⟨_, rfl⟩
        obtain ⟨hc, hb, hsw4⟩ := chain_heap w2 [.cells #[.int .i64 r.y, .int .i64 r.m, .int .i64 r.d, .int .i64 r.h, .int .i64 r.i, .int .i64 r.s] 31, .cells #[.int .i64 (b), .int .i64 (2)] 3, .cells #[.int .i64 1, .slice (some ⟨w2.heap.size + 1, 0, none⟩) 2 2] 24, .cells #[.int .i64 (a), .int .i64 (4)] 3, .cells #[.int .i64 (c), .int .i64 (2)] 3, .cells #[.int .i64 1, .slice (some ⟨w2.heap.size + 1 + 1 + 1, 0, none⟩) 2 2, .int .i64 1, .slice (some ⟨w2.heap.size + 1, 0, none⟩) 2 2, .int .i64 1, .slice (some ⟨w2.heap.size + 1 + 1 + 1 + 1, 0, none⟩) 2 2] 24, .cells #[.int .i64 (0), .int .i64 (1), .int .i64 (2)] 3]
        simp only [List.foldl_cons, List.foldl_nil] at hc hb hsw4
        rw [← hw4] at hc hb hsw4
        have hw4_0 := hid (show w4.heap[w2.heap.size]? = some _ from hc 0 _ rfl)
        have hw4_1 := hid (hc 1 _ rfl)
        have hw4_2 := hid (hc 2 _ rfl)
        have hw4_3 := hid (hc 3 _ rfl)
        have hw4_4 := hid (hc 4 _ rfl)
        have hw4_5 := hid (hc 5 _ rfl)
        have hw4_6 := hid (hc 6 _ rfl)
        have HBw4 := hid hb
        have Hsw4 := hid (show w4.heap.size = w2.heap.size + 7 from hsw4)
        clear hc hb hsw4
        have HP := hid (IA.at [0, 1, 2] hw4_6.out (by simp))
        have HL := hid (LA.three hw4_5.out (IA.at [a, 4] hw4_3.out (by simp)) (IA.at [b, 2] hw4_1.out (by simp)) (IA.at [c, 2] hw4_4.out (by simp)))
        have HB4 := hid (up_trans HB2.out HBw4.out)
        have X4 := hid hw4_0.out
        have t0 : (((((((w2.alloc (.cells #[.int .i64 r.y, .int .i64 r.m, .int .i64 r.d, .int .i64 r.h, .int .i64 r.i, .int .i64 r.s] 31)).alloc (.cells #[.int .i64 (b), .int .i64 (2)] 3)).alloc (.cells #[.int .i64 1, .slice (some ⟨w2.heap.size + 1, 0, none⟩) 2 2] 24)).alloc (.cells #[.int .i64 (a), .int .i64 (4)] 3)).alloc (.cells #[.int .i64 (c), .int .i64 (2)] 3)).alloc (.cells #[.int .i64 1, .slice (some ⟨w2.heap.size + 1 + 1 + 1, 0, none⟩) 2 2, .int .i64 1, .slice (some ⟨w2.heap.size + 1, 0, none⟩) 2 2, .int .i64 1, .slice (some ⟨w2.heap.size + 1 + 1 + 1 + 1, 0, none⟩) 2 2] 24)).alloc (.cells #[.int .i64 (0), .int .i64 (1), .int .i64 (2)] 3)).cell? ⟨w2.heap.size, 0, none⟩ = some (.int .i64 r.y) := by rw [← hw4, cell_of_row X4.out]; rfl
        have t1 : (((((((w2.alloc (.cells #[.int .i64 r.y, .int .i64 r.m, .int .i64 r.d, .int .i64 r.h, .int .i64 r.i, .int .i64 r.s] 31)).alloc (.cells #[.int .i64 (b), .int .i64 (2)] 3)).alloc (.cells #[.int .i64 1, .slice (some ⟨w2.heap.size + 1, 0, none⟩) 2 2] 24)).alloc (.cells #[.int .i64 (a), .int .i64 (4)] 3)).alloc (.cells #[.int .i64 (c), .int .i64 (2)] 3)).alloc (.cells #[.int .i64 1, .slice (some ⟨w2.heap.size + 1 + 1 + 1, 0, none⟩) 2 2, .int .i64 1, .slice (some ⟨w2.heap.size + 1, 0, none⟩) 2 2, .int .i64 1, .slice (some ⟨w2.heap.size + 1 + 1 + 1 + 1, 0, none⟩) 2 2] 24)).alloc (.cells #[.int .i64 (0), .int .i64 (1), .int .i64 (2)] 3)).cell? ⟨w2.heap.size, 1, none⟩ = some (.int .i64 r.m) := by rw [← hw4, cell_of_row X4.out]; rfl
        have t2 : (((((((w2.alloc (.cells #[.int .i64 r.y, .int .i64 r.m, .int .i64 r.d, .int .i64 r.h, .int .i64 r.i, .int .i64 r.s] 31)).alloc (.cells #[.int .i64 (b), .int .i64 (2)] 3)).alloc (.cells #[.int .i64 1, .slice (some ⟨w2.heap.size + 1, 0, none⟩) 2 2] 24)).alloc (.cells #[.int .i64 (a), .int .i64 (4)] 3)).alloc (.cells #[.int .i64 (c), .int .i64 (2)] 3)).alloc (.cells #[.int .i64 1, .slice (some ⟨w2.heap.size + 1 + 1 + 1, 0, none⟩) 2 2, .int .i64 1, .slice (some ⟨w2.heap.size + 1, 0, none⟩) 2 2, .int .i64 1, .slice (some ⟨w2.heap.size + 1 + 1 + 1 + 1, 0, none⟩) 2 2] 24)).alloc (.cells #[.int .i64 (0), .int .i64 (1), .int .i64 (2)] 3)).cell? ⟨w2.heap.size, 2, none⟩ = some (.int .i64 r.d) := by rw [← hw4, cell_of_row X4.out]; rfl
        have t3 : (((((((w2.alloc (.cells #[.int .i64 r.y, .int .i64 r.m, .int .i64 r.d, .int .i64 r.h, .int .i64 r.i, .int .i64 r.s] 31)).alloc (.cells #[.int .i64 (b), .int .i64 (2)] 3)).alloc (.cells #[.int .i64 1, .slice (some ⟨w2.heap.size + 1, 0, none⟩) 2 2] 24)).alloc (.cells #[.int .i64 (a), .int .i64 (4)] 3)).alloc (.cells #[.int .i64 (c), .int .i64 (2)] 3)).alloc (.cells #[.int .i64 1, .slice (some ⟨w2.heap.size + 1 + 1 + 1, 0, none⟩) 2 2, .int .i64 1, .slice (some ⟨w2.heap.size + 1, 0, none⟩) 2 2, .int .i64 1, .slice (some ⟨w2.heap.size + 1 + 1 + 1 + 1, 0, none⟩) 2 2] 24)).alloc (.cells #[.int .i64 (0), .int .i64 (1), .int .i64 (2)] 3)).cell? ⟨w2.heap.size, 3, none⟩ = some (.int .i64 r.h) := by rw [← hw4, cell_of_row X4.out]; rfl
        have t4 : (((((((w2.alloc (.cells #[.int .i64 r.y, .int .i64 r.m, .int .i64 r.d, .int .i64 r.h, .int .i64 r.i, .int .i64 r.s] 31)).alloc (.cells #[.int .i64 (b), .int .i64 (2)] 3)).alloc (.cells #[.int .i64 1, .slice (some ⟨w2.heap.size + 1, 0, none⟩) 2 2] 24)).alloc (.cells #[.int .i64 (a), .int .i64 (4)] 3)).alloc (.cells #[.int .i64 (c), .int .i64 (2)] 3)).alloc (.cells #[.int .i64 1, .slice (some ⟨w2.heap.size + 1 + 1 + 1, 0, none⟩) 2 2, .int .i64 1, .slice (some ⟨w2.heap.size + 1, 0, none⟩) 2 2, .int .i64 1, .slice (some ⟨w2.heap.size + 1 + 1 + 1 + 1, 0, none⟩) 2 2] 24)).alloc (.cells #[.int .i64 (0), .int .i64 (1), .int .i64 (2)] 3)).cell? ⟨w2.heap.size, 4, none⟩ = some (.int .i64 r.i) := by rw [← hw4, cell_of_row X4.out]; rfl
        have t5 : (((((((w2.alloc (.cells #[.int .i64 r.y, .int .i64 r.m, .int .i64 r.d, .int .i64 r.h, .int .i64 r.i, .int .i64 r.s] 31)).alloc (.cells #[.int .i64 (b), .int .i64 (2)] 3)).alloc (.cells #[.int .i64 1, .slice (some ⟨w2.heap.size + 1, 0, none⟩) 2 2] 24)).alloc (.cells #[.int .i64 (a), .int .i64 (4)] 3)).alloc (.cells #[.int .i64 (c), .int .i64 (2)] 3)).alloc (.cells #[.int .i64 1, .slice (some ⟨w2.heap.size + 1 + 1 + 1, 0, none⟩) 2 2, .int .i64 1, .slice (some ⟨w2.heap.size + 1, 0, none⟩) 2 2, .int .i64 1, .slice (some ⟨w2.heap.size + 1 + 1 + 1 + 1, 0, none⟩) 2 2] 24)).alloc (.cells #[.int .i64 (0), .int .i64 (1), .int .i64 (2)] 3)).cell? ⟨w2.heap.size, 5, none⟩ = some (.int .i64 r.s) := by rw [← hw4, cell_of_row X4.out]; rfl
        have HD := hid (made_any (p := p) 1 r [(⟨1, [a, 4]⟩ : Val), (⟨1, [b, 2]⟩ : Val), ⟨1, [c, 2]⟩] [0, 1, 2] _ _ w4 (by decide) HP.out HL.out (HT.out.on HB4.out) (by intro q hq; simp at hq; rcases hq with rfl | rfl | rfl <;> simp) trivial HRR.out)
        rw [show doO 1 (madeO 1 r (List.map (fun (q : Int) => [(⟨1, [a, 4]⟩ : Val), (⟨1, [b, 2]⟩ : Val), ⟨1, [c, 2]⟩].getD q.toNat nilVal) [0, 1, 2])) = _ from hm1] at HD
        unfold momV at HD
        clear hw4_0 hw4_1 hw4_2 hw4_3 hw4_4 hw4_5 hw4_6 HP hm1
        go_wp2_with fail
        rw [← hw4]
        refine HD.out.mono ?_
        rintro e w5 ⟨hb5, hr⟩
        have HB5 := hid (up_trans HB4.out hb5)
        have X5 := hid ((hb5.block w2.heap.size (by have := Hsw4.out; omega)).trans X4.out)
        have HL5 := hid (HL.out.on hb5)
        clear hb5 HD hw4 t0 t1 t2 t3 t4 t5 X4 HL
        rw [if_pos h1] at hr
        obtain ⟨vP, rfl, hvP⟩ := hr
        obtain ⟨fP, rfl, hfP⟩ := hvP
        have HFP := hid hfP.ia
        obtain ⟨gP, oP, capP, rfl, hcP, hmP, hlP⟩ := hfP.ia.has3
        clear hfP
        dsimp only at *
        obtain ⟨w6, hw6⟩ : ∃ w6, w6 = (w5.alloc (.cells #[.int .i64 4, .slice (some ⟨gP, oP, none⟩) 3 capP] 24)).alloc (.cells #[.int .i64 (1), .int .i64 (2)] 3) := ⟨_, rfl⟩
        obtain ⟨hc, hb, hsw6⟩ := chain_heap w5 [.cells #[.int .i64 4, .slice (some ⟨gP, oP, none⟩) 3 capP] 24, .cells #[.int .i64 (1), .int .i64 (2)] 3]
        simp only [List.foldl_cons, List.foldl_nil] at hc hb hsw6
        rw [← hw6] at hc hb hsw6
        have hw6_0 := hid (show w6.heap[w5.heap.size]? = some _ from hc 0 _ rfl)
        have hw6_1 := hid (hc 1 _ rfl)
        have HBw6 := hid hb
        have Hsw6 := hid (show w6.heap.size = w5.heap.size + 2 from hsw6)
        clear hc hb hsw6
        have HB6 := hid (up_trans HB5.out HBw6.out)
        have X6 := hid ((HBw6.out.block w2.heap.size (Array.getElem?_eq_some_iff.1 X5.out).1).trans X5.out)
        have HL6 := hid (HL5.out.on HBw6.out)
        have HP := hid (IA.at [1, 2] hw6_1.out (by simp))
        have Y6 := hid hw6_0.out
        have t0 : ((w5.alloc (.cells #[.int .i64 4, .slice (some ⟨gP, oP, none⟩) 3 capP] 24)).alloc (.cells #[.int .i64 (1), .int .i64 (2)] 3)).cell? ⟨w2.heap.size, 0, none⟩ = some (.int .i64 r.y) := by rw [← hw6, cell_of_row X6.out]; rfl
        have t1 : ((w5.alloc (.cells #[.int .i64 4, .slice (some ⟨gP, oP, none⟩) 3 capP] 24)).alloc (.cells #[.int .i64 (1), .int .i64 (2)] 3)).cell? ⟨w2.heap.size, 1, none⟩ = some (.int .i64 r.m) := by rw [← hw6, cell_of_row X6.out]; rfl
        have t2 : ((w5.alloc (.cells #[.int .i64 4, .slice (some ⟨gP, oP, none⟩) 3 capP] 24)).alloc (.cells #[.int .i64 (1), .int .i64 (2)] 3)).cell? ⟨w2.heap.size, 2, none⟩ = some (.int .i64 r.d) := by rw [← hw6, cell_of_row X6.out]; rfl
        have t3 : ((w5.alloc (.cells #[.int .i64 4, .slice (some ⟨gP, oP, none⟩) 3 capP] 24)).alloc (.cells #[.int .i64 (1), .int .i64 (2)] 3)).cell? ⟨w2.heap.size, 3, none⟩ = some (.int .i64 r.h) := by rw [← hw6, cell_of_row X6.out]; rfl
        have t4 : ((w5.alloc (.cells #[.int .i64 4, .slice (some ⟨gP, oP, none⟩) 3 capP] 24)).alloc (.cells #[.int .i64 (1), .int .i64 (2)] 3)).cell? ⟨w2.heap.size, 4, none⟩ = some (.int .i64 r.i) := by rw [← hw6, cell_of_row X6.out]; rfl
        have t5 : ((w5.alloc (.cells #[.int .i64 4, .slice (some ⟨gP, oP, none⟩) 3 capP] 24)).alloc (.cells #[.int .i64 (1), .int .i64 (2)] 3)).cell? ⟨w2.heap.size, 5, none⟩ = some (.int .i64 r.s) := by rw [← hw6, cell_of_row X6.out]; rfl
        have HD := hid (made_any (p := p) 2 r [(⟨1, [a, 4]⟩ : Val), (⟨1, [b, 2]⟩ : Val), ⟨1, [c, 2]⟩] [1, 2] _ _ w6 (by decide) HP.out HL6.out (HT.out.on HB6.out) (by intro q hq; simp at hq; rcases hq with rfl | rfl <;> simp) trivial HRR.out)
        rw [show doO 2 (madeO 2 r (List.map (fun (q : Int) => [(⟨1, [a, 4]⟩ : Val), (⟨1, [b, 2]⟩ : Val), ⟨1, [c, 2]⟩].getD q.toNat nilVal) [1, 2])) = _ from hm2] at HD
        unfold momV at HD
        clear hw6_0 hw6_1 HP hm2 X5 HL5
        go_wp2_with fail
        rw [← hw6]
        refine HD.out.mono ?_
        rintro e w7 ⟨hb7, hr⟩
        have HB7 := hid (up_trans HB6.out hb7)
        have X7 := hid ((hb7.block w2.heap.size (Array.getElem?_eq_some_iff.1 X6.out).1).trans X6.out)
        have Y7 := hid ((hb7.block w5.heap.size (Array.getElem?_eq_some_iff.1 Y6.out).1).trans Y6.out)
        have HFP7 := hid ((HFP.out.on HBw6.out).on hb7)
        clear hb7 HD hw6 t0 t1 t2 t3 t4 t5 X6 HL6 Y6
        rw [if_pos h2] at hr
        obtain ⟨vQ, rfl, hvQ⟩ := hr
        obtain ⟨fQ, rfl, hfQ⟩ := hvQ
        have HFQ := hid hfQ.ia
        obtain ⟨gQ, oQ, capQ, rfl, hcQ, hmQ, hlQ⟩ := hfQ.ia.has3
        clear hfQ
        dsimp only at *
        obtain ⟨w8, hw8⟩ : ∃ w8, w8 = w7.alloc (.cells #[.int .i64 4, .slice (some ⟨gQ, oQ, none⟩) 3 capQ] 24) := ⟨_, rfl⟩
        obtain ⟨hc, hb, hsw8⟩ := chain_heap w7 [.cells #[.int .i64 4, .slice (some ⟨gQ, oQ, none⟩) 3 capQ] 24]
        simp only [List.foldl_cons, List.foldl_nil] at hc hb hsw8
        rw [← hw8] at hc hb hsw8
        have hw8_0 := hid (show w8.heap[w7.heap.size]? = some _ from hc 0 _ rfl)
        have HBw8 := hid hb
        have Hsw8 := hid (show w8.heap.size = w7.heap.size + 1 from hsw8)
        clear hc hb hsw8
        have HB8 := hid (up_trans HB7.out HBw8.out)
        have X8 := hid ((HBw8.out.block w2.heap.size (Array.getElem?_eq_some_iff.1 X7.out).1).trans X7.out)
        have Y8 := hid ((HBw8.out.block w5.heap.size (Array.getElem?_eq_some_iff.1 Y7.out).1).trans Y7.out)
        have Z8 := hid hw8_0.out
        have u0 : (w7.alloc (.cells #[.int .i64 4, .slice (some ⟨gQ, oQ, none⟩) 3 capQ] 24)).cell? ⟨w2.heap.size, 0, none⟩ = some (.int .i64 r.y) := by rw [← hw8, cell_of_row X8.out]; rfl
        have HFP8 := hid (HFP7.out.on HBw8.out)
        have HFQ8 := hid (HFQ.out.on HBw8.out)
        have HD1 := hid fun w => HD1.out w
        have HD2 := hid fun w => HD2.out w
        rw [h1] at HD1
        rw [h2] at HD2
        clear hw8_0 X7 Y7
        go_wp2_with fail
        refine (HD1.out _).mono ?_
        rintro e wn ⟨rfl, hw⟩
        obtain rfl := hw.symm
        clear hw
        go_wp2_with fail
        refine (HD2.out _).mono ?_
        rintro e wn ⟨rfl, hw⟩
        obtain rfl := hw.symm
        clear hw
        clear HD1 HD2 u0
        have p0 : w8.cell? ⟨w5.heap.size, 0, none⟩ = some (.int .i64 4) := by rw [cell_of_row Y8.out]; rfl
        have p1 : w8.cell? ⟨w5.heap.size, 1, none⟩ = some (.slice (some ⟨gP, oP, none⟩) 3 capP) := by rw [cell_of_row Y8.out]; rfl
        have p0' : (w7.alloc (.cells #[.int .i64 4, .slice (some ⟨gQ, oQ, none⟩) 3 capQ] 24)).cell? ⟨w5.heap.size, 0, none⟩ = some (.int .i64 4) := by rw [← hw8]; exact p0
        have p1' : (w7.alloc (.cells #[.int .i64 4, .slice (some ⟨gQ, oQ, none⟩) 3 capQ] 24)).cell? ⟨w5.heap.size, 1, none⟩ = some (.slice (some ⟨gP, oP, none⟩) 3 capP) := by rw [← hw8]; exact p1
        obtain ⟨w9, hw9⟩ : ∃ w9, w9 = w8.alloc (.cells #[.int .i64 (a), .int .i64 (b), .int .i64 (c)] 3) := ⟨_, rfl⟩
        have HU9 := hid (show Below w8.heap.size w8 w9 by rw [hw9]; exact up_alloc _ _)
        have R9 := hid (show w9.heap[w8.heap.size]? = some (.cells #[.int .i64 (a), .int .i64 (b), .int .i64 (c)] 3) by rw [hw9]; exact new_row _ _)
        have HC := hid (rcmp_any ⟨4, [a, b, c]⟩ ⟨4, [a, b, c]⟩ _ _ w9 ⟨_, rfl, HFP8.out.on HU9.out⟩ ⟨_, rfl, IA.at [a, b, c] R9.out (by simp)⟩)
        rw [cmpV_self] at HC
        have hs8 := hid (show w8.heap.size = w7.heap.size + 1 from Hsw8.out)
        go_wp2_with fail
        rw [← hw8, ← Hsw8.out, ← hw9]
        refine HC.out.mono ?_
        rintro e w10 ⟨rfl, hb10⟩
        have HB10 := hid (up_trans (up_trans HB8.out HU9.out) hb10)
        have X10 := hid ((hb10.block w2.heap.size (by have := Nat.lt_of_lt_of_le (Array.getElem?_eq_some_iff.1 X8.out).1 HU9.out.size; exact this)).trans ((HU9.out.block w2.heap.size (Array.getElem?_eq_some_iff.1 X8.out).1).trans X8.out))
        have Z10 := hid ((hb10.block w7.heap.size (by have := Nat.lt_of_lt_of_le (Array.getElem?_eq_some_iff.1 Z8.out).1 HU9.out.size; exact this)).trans ((HU9.out.block w7.heap.size (Array.getElem?_eq_some_iff.1 Z8.out).1).trans Z8.out))
        have HFQ10 := hid ((HFQ8.out.on HU9.out).on hb10)
        clear hb10 hw9 hw8 HC R9 p0 p1 p0' p1' hs8
        have q0 : w10.cell? ⟨w7.heap.size, 0, none⟩ = some (.int .i64 4) := by rw [cell_of_row Z10.out]; rfl
        have q1 : w10.cell? ⟨w7.heap.size, 1, none⟩ = some (.slice (some ⟨gQ, oQ, none⟩) 3 capQ) := by rw [cell_of_row Z10.out]; rfl
        have q2 : w10.cell? ⟨w2.heap.size, 0, none⟩ = some (.int .i64 r.y) := by rw [cell_of_row X10.out]; rfl
        obtain ⟨w11, hw11⟩ : ∃ w11, w11 = w10.alloc (.cells #[.int .i64 (r.y), .int .i64 (b), .int .i64 (c)] 3) := ⟨_, rfl⟩
        have HU11 := hid (show Below w10.heap.size w10 w11 by rw [hw11]; exact up_alloc _ _)
        have R11 := hid (show w11.heap[w10.heap.size]? = some (.cells #[.int .i64 (r.y), .int .i64 (b), .int .i64 (c)] 3) by rw [hw11]; exact new_row _ _)
        have HC := hid (rcmp_any ⟨4, [r.y, b, c]⟩ ⟨4, [r.y, b, c]⟩ _ _ w11 ⟨_, rfl, HFQ10.out.on HU11.out⟩ ⟨_, rfl, IA.at [r.y, b, c] R11.out (by simp)⟩)
        rw [cmpV_self] at HC
        go_wp2_with fail
        rw [← hw11]
        refine HC.out.mono ?_
        rintro e w12 ⟨rfl, hb12⟩
        have HB12 := hid (up_trans (up_trans HB10.out HU11.out) hb12)
        clear hb12 hw11 HC q0 q1 q2
        go_wp2
        go_ret
        exact ⟨rfl, HB12.out⟩
      | true =>
        go_enter Tryd.func10, Tryd.ntmps10
        go_wp2_with fail
        refine HK.out.mono ?_
        rintro e w1 ⟨rfl, hb1⟩
        have HB1 := hid hb1
        clear hb1 HK
        go_wp2_with fail
        refine (H1.out _).mono ?_
        rintro e wn ⟨rfl, hw⟩
        obtain rfl := hw.symm
        clear hw
        go_wp2_with fail
        refine (H2.out _).mono ?_
        rintro e wn ⟨rfl, hw⟩
        obtain rfl := hw.symm
        clear hw
        go_wp2_with fail
        refine (H3.out _).mono ?_
        rintro e wn ⟨rfl, hw⟩
        obtain rfl := hw.symm
        clear hw
        clear H1 H2 H3
        go_wp2_with fail
        refine (HR.out _).mono ?_
        rintro e w2 ⟨rfl, hb2⟩
        have HB2 := hid (up_trans HB1.out hb2)
        clear hb2 HR
        obtain ⟨w4, hw4⟩ : ∃ w4, w4 = (((((((w2.alloc (.cells #[.int .i64 r.y, .int .i64 r.m, .int .i64 r.d, .int .i64 r.h, .int .i64 r.i, .int .i64 r.s] 31)).alloc (.cells #[.int .i64 (b), .int .i64 (2)] 3)).alloc (.cells #[.int .i64 2, .slice (some ⟨w2.heap.size + 1 + 1 + 1, 0, none⟩) 1 1] 24)).alloc (.cells #[.int .i64 (b)] 3)).alloc (.cells #[.int .i64 (a), .int .i64 (4)] 3)).alloc (.cells #[.int .i64 (c), .int .i64 (2)] 3)).alloc (.cells #[.int .i64 1, .slice (some ⟨w2.heap.size + 1 + 1 + 1 + 1, 0, none⟩) 2 2, .int .i64 2, .slice (some ⟨w2.heap.size + 1 + 1 + 1, 0, none⟩) 1 1, .int .i64 1, .slice (some ⟨w2.heap.size + 1 + 1 + 1 + 1 + 1, 0, none⟩) 2 2] 24)).alloc (.cells #[.int .i64 (0), .int .i64 (1), .int .i64 (2)] 3) := ⟨_, rfl⟩
        obtain ⟨hc, hb, hsw4⟩ := chain_heap w2 [.cells #[.int .i64 r.y, .int .i64 r.m, .int .i64 r.d, .int .i64 r.h, .int .i64 r.i, .int .i64 r.s] 31, .cells #[.int .i64 (b), .int .i64 (2)] 3, .cells #[.int .i64 2, .slice (some ⟨w2.heap.size + 1 + 1 + 1, 0, none⟩) 1 1] 24, .cells #[.int .i64 (b)] 3, .cells #[.int .i64 (a), .int .i64 (4)] 3, .cells #[.int .i64 (c), .int .i64 (2)] 3, .cells #[.int .i64 1, .slice (some ⟨w2.heap.size + 1 + 1 + 1 + 1, 0, none⟩) 2 2, .int .i64 2, .slice (some ⟨w2.heap.size + 1 + 1 + 1, 0, none⟩) 1 1, .int .i64 1, .slice (some ⟨w2.heap.size + 1 + 1 + 1 + 1 + 1, 0, none⟩) 2 2] 24, .cells #[.int .i64 (0), .int .i64 (1), .int .i64 (2)] 3]
        simp only [List.foldl_cons, List.foldl_nil] at hc hb hsw4
        rw [← hw4] at hc hb hsw4
        have hw4_0 := hid (show w4.heap[w2.heap.size]? = some _ from hc 0 _ rfl)
        have hw4_1 := hid (hc 1 _ rfl)
        have hw4_2 := hid (hc 2 _ rfl)
        have hw4_3 := hid (hc 3 _ rfl)
        have hw4_4 := hid (hc 4 _ rfl)
        have hw4_5 := hid (hc 5 _ rfl)
        have hw4_6 := hid (hc 6 _ rfl)
        have hw4_7 := hid (hc 7 _ rfl)
        have HBw4 := hid hb
        have Hsw4 := hid (show w4.heap.size = w2.heap.size + 8 from hsw4)
        clear hc hb hsw4
        have HP := hid (IA.at [0, 1, 2] hw4_7.out (by simp))
        have HL := hid (LA.three hw4_6.out (IA.at [a, 4] hw4_4.out (by simp)) (IA.at [b] hw4_3.out (by simp)) (IA.at [c, 2] hw4_5.out (by simp)))
        have HB4 := hid (up_trans HB2.out HBw4.out)
        have X4 := hid hw4_0.out
        have t0 : ((((((((w2.alloc (.cells #[.int .i64 r.y, .int .i64 r.m, .int .i64 r.d, .int .i64 r.h, .int .i64 r.i, .int .i64 r.s] 31)).alloc (.cells #[.int .i64 (b), .int .i64 (2)] 3)).alloc (.cells #[.int .i64 2, .slice (some ⟨w2.heap.size + 1 + 1 + 1, 0, none⟩) 1 1] 24)).alloc (.cells #[.int .i64 (b)] 3)).alloc (.cells #[.int .i64 (a), .int .i64 (4)] 3)).alloc (.cells #[.int .i64 (c), .int .i64 (2)] 3)).alloc (.cells #[.int .i64 1, .slice (some ⟨w2.heap.size + 1 + 1 + 1 + 1, 0, none⟩) 2 2, .int .i64 2, .slice (some ⟨w2.heap.size + 1 + 1 + 1, 0, none⟩) 1 1, .int .i64 1, .slice (some ⟨w2.heap.size + 1 + 1 + 1 + 1 + 1, 0, none⟩) 2 2] 24)).alloc (.cells #[.int .i64 (0), .int .i64 (1), .int .i64 (2)] 3)).cell? ⟨w2.heap.size, 0, none⟩ = some (.int .i64 r.y) := by rw [← hw4, cell_of_row X4.out]; rfl
        have t1 : ((((((((w2.alloc (.cells #[.int .i64 r.y, .int .i64 r.m, .int .i64 r.d, .int .i64 r.h, .int .i64 r.i, .int .i64 r.s] 31)).alloc (.cells #[.int .i64 (b), .int .i64 (2)] 3)).alloc (.cells #[.int .i64 2, .slice (some ⟨w2.heap.size + 1 + 1 + 1, 0, none⟩) 1 1] 24)).alloc (.cells #[.int .i64 (b)] 3)).alloc (.cells #[.int .i64 (a), .int .i64 (4)] 3)).alloc (.cells #[.int .i64 (c), .int .i64 (2)] 3)).alloc (.cells #[.int .i64 1, .slice (some ⟨w2.heap.size + 1 + 1 + 1 + 1, 0, none⟩) 2 2, .int .i64 2, .slice (some ⟨w2.heap.size + 1 + 1 + 1, 0, none⟩) 1 1, .int .i64 1, .slice (some ⟨w2.heap.size + 1 + 1 + 1 + 1 + 1, 0, none⟩) 2 2] 24)).alloc (.cells #[.int .i64 (0), .int .i64 (1), .int .i64 (2)] 3)).cell? ⟨w2.heap.size, 1, none⟩ = some (.int .i64 r.m) := by rw [← hw4, cell_of_row X4.out]; rfl
        have t2 : ((((((((w2.alloc (.cells #[.int .i64 r.y, .int .i64 r.m, .int .i64 r.d, .int .i64 r.h, .int .i64 r.i, .int .i64 r.s] 31)).alloc (.cells #[.int .i64 (b), .int .i64 (2)] 3)).alloc (.cells #[.int .i64 2, .slice (some ⟨w2.heap.size + 1 + 1 + 1, 0, none⟩) 1 1] 24)).alloc (.cells #[.int .i64 (b)] 3)).alloc (.cells #[.int .i64 (a), .int .i64 (4)] 3)).alloc (.cells #[.int .i64 (c), .int .i64 (2)] 3)).alloc (.cells #[.int .i64 1, .slice (some ⟨w2.heap.size + 1 + 1 + 1 + 1, 0, none⟩) 2 2, .int .i64 2, .slice (some ⟨w2.heap.size + 1 + 1 + 1, 0, none⟩) 1 1, .int .i64 1, .slice (some ⟨w2.heap.size + 1 + 1 + 1 + 1 + 1, 0, none⟩) 2 2] 24)).alloc (.cells #[.int .i64 (0), .int .i64 (1), .int .i64 (2)] 3)).cell? ⟨w2.heap.size, 2, none⟩ = some (.int .i64 r.d) := by rw [← hw4, cell_of_row X4.out]; rfl
        have t3 : ((((((((w2.alloc (.cells #[.int .i64 r.y, .int .i64 r.m, .int .i64 r.d, .int .i64 r.h, .int .i64 r.i, .int .i64 r.s] 31)).alloc (.cells #[.int .i64 (b), .int .i64 (2)] 3)).alloc (.cells #[.int .i64 2, .slice (some ⟨w2.heap.size + 1 + 1 + 1, 0, none⟩) 1 1] 24)).alloc (.cells #[.int .i64 (b)] 3)).alloc (.cells #[.int .i64 (a), .int .i64 (4)] 3)).alloc (.cells #[.int .i64 (c), .int .i64 (2)] 3)).alloc (.cells #[.int .i64 1, .slice (some ⟨w2.heap.size + 1 + 1 + 1 + 1, 0, none⟩) 2 2, .int .i64 2, .slice (some ⟨w2.heap.size + 1 + 1 + 1, 0, none⟩) 1 1, .int .i64 1, .slice (some ⟨w2.heap.size + 1 + 1 + 1 + 1 + 1, 0, none⟩) 2 2] 24)).alloc (.cells #[.int .i64 (0), .int .i64 (1), .int .i64 (2)] 3)).cell? ⟨w2.heap.size, 3, none⟩ = some (.int .i64 r.h) := by rw [← hw4, cell_of_row X4.out]; rfl
        have t4 : ((((((((w2.alloc (.cells #[.int .i64 r.y, .int .i64 r.m, .int .i64 r.d, .int .i64 r.h, .int .i64 r.i, .int .i64 r.s] 31)).alloc (.cells #[.int .i64 (b), .int .i64 (2)] 3)).alloc (.cells #[.int .i64 2, .slice (some ⟨w2.heap.size + 1 + 1 + 1, 0, none⟩) 1 1] 24)).alloc (.cells #[.int .i64 (b)] 3)).alloc (.cells #[.int .i64 (a), .int .i64 (4)] 3)).alloc (.cells #[.int .i64 (c), .int .i64 (2)] 3)).alloc (.cells #[.int .i64 1, .slice (some ⟨w2.heap.size + 1 + 1 + 1 + 1, 0, none⟩) 2 2, .int .i64 2, .slice (some ⟨w2.heap.size + 1 + 1 + 1, 0, none⟩) 1 1, .int .i64 1, .slice (some ⟨w2.heap.size + 1 + 1 + 1 + 1 + 1, 0, none⟩) 2 2] 24)).alloc (.cells #[.int .i64 (0), .int .i64 (1), .int .i64 (2)] 3)).cell? ⟨w2.heap.size, 4, none⟩ = some (.int .i64 r.i) := by rw [← hw4, cell_of_row X4.out]; rfl
        have t5 : ((((((((w2.alloc (.cells #[.int .i64 r.y, .int .i64 r.m, .int .i64 r.d, .int .i64 r.h, .int .i64 r.i, .int .i64 r.s] 31)).alloc (.cells #[.int .i64 (b), .int .i64 (2)] 3)).alloc (.cells #[.int .i64 2, .slice (some ⟨w2.heap.size + 1 + 1 + 1, 0, none⟩) 1 1] 24)).alloc (.cells #[.int .i64 (b)] 3)).alloc (.cells #[.int .i64 (a), .int .i64 (4)] 3)).alloc (.cells #[.int .i64 (c), .int .i64 (2)] 3)).alloc (.cells #[.int .i64 1, .slice (some ⟨w2.heap.size + 1 + 1 + 1 + 1, 0, none⟩) 2 2, .int .i64 2, .slice (some ⟨w2.heap.size + 1 + 1 + 1, 0, none⟩) 1 1, .int .i64 1, .slice (some ⟨w2.heap.size + 1 + 1 + 1 + 1 + 1, 0, none⟩) 2 2] 24)).alloc (.cells #[.int .i64 (0), .int .i64 (1), .int .i64 (2)] 3)).cell? ⟨w2.heap.size, 5, none⟩ = some (.int .i64 r.s) := by rw [← hw4, cell_of_row X4.out]; rfl
        have HD := hid (made_any (p := p) 1 r [(⟨1, [a, 4]⟩ : Val), (⟨2, [b]⟩ : Val), ⟨1, [c, 2]⟩] [0, 1, 2] _ _ w4 (by decide) HP.out HL.out (HT.out.on HB4.out) (by intro q hq; simp at hq; rcases hq with rfl | rfl | rfl <;> simp) trivial HRR.out)
        rw [show doO 1 (madeO 1 r (List.map (fun (q : Int) => [(⟨1, [a, 4]⟩ : Val), (⟨2, [b]⟩ : Val), ⟨1, [c, 2]⟩].getD q.toNat nilVal) [0, 1, 2])) = _ from hm1] at HD
        unfold momV at HD
        clear hw4_0 hw4_1 hw4_2 hw4_3 hw4_4 hw4_5 hw4_6 hw4_7 HP hm1
        go_wp2_with fail
        rw [← hw4]
        refine HD.out.mono ?_
        rintro e w5 ⟨hb5, hr⟩
        have HB5 := hid (up_trans HB4.out hb5)
        have X5 := hid ((hb5.block w2.heap.size (by have := Hsw4.out; omega)).trans X4.out)
        have HL5 := hid (HL.out.on hb5)
        clear hb5 HD hw4 t0 t1 t2 t3 t4 t5 X4 HL
        rw [if_pos h1] at hr
        obtain ⟨vP, rfl, hvP⟩ := hr
        obtain ⟨fP, rfl, hfP⟩ := hvP
        have HFP := hid hfP.ia
        obtain ⟨gP, oP, capP, rfl, hcP, hmP, hlP⟩ := hfP.ia.has3
        clear hfP
        dsimp only at *
        obtain ⟨w6, hw6⟩ : ∃ w6, w6 = (w5.alloc (.cells #[.int .i64 4, .slice (some ⟨gP, oP, none⟩) 3 capP] 24)).alloc (.cells #[.int .i64 (1), .int .i64 (2)] 3) := ⟨_, rfl⟩
        obtain ⟨hc, hb, hsw6⟩ := chain_heap w5 [.cells #[.int .i64 4, .slice (some ⟨gP, oP, none⟩) 3 capP] 24, .cells #[.int .i64 (1), .int .i64 (2)] 3]
        simp only [List.foldl_cons, List.foldl_nil] at hc hb hsw6
        rw [← hw6] at hc hb hsw6
        have hw6_0 := hid (show w6.heap[w5.heap.size]? = some _ from hc 0 _ rfl)
        have hw6_1 := hid (hc 1 _ rfl)
        have HBw6 := hid hb
        have Hsw6 := hid (show w6.heap.size = w5.heap.size + 2 from hsw6)
        clear hc hb hsw6
        have HB6 := hid (up_trans HB5.out HBw6.out)
        have X6 := hid ((HBw6.out.block w2.heap.size (Array.getElem?_eq_some_iff.1 X5.out).1).trans X5.out)
        have HL6 := hid (HL5.out.on HBw6.out)
        have HP := hid (IA.at [1, 2] hw6_1.out (by simp))
        have Y6 := hid hw6_0.out
        have t0 : ((w5.alloc (.cells #[.int .i64 4, .slice (some ⟨gP, oP, none⟩) 3 capP] 24)).alloc (.cells #[.int .i64 (1), .int .i64 (2)] 3)).cell? ⟨w2.heap.size, 0, none⟩ = some (.int .i64 r.y) := by rw [← hw6, cell_of_row X6.out]; rfl
        have t1 : ((w5.alloc (.cells #[.int .i64 4, .slice (some ⟨gP, oP, none⟩) 3 capP] 24)).alloc (.cells #[.int .i64 (1), .int .i64 (2)] 3)).cell? ⟨w2.heap.size, 1, none⟩ = some (.int .i64 r.m) := by rw [← hw6, cell_of_row X6.out]; rfl
        have t2 : ((w5.alloc (.cells #[.int .i64 4, .slice (some ⟨gP, oP, none⟩) 3 capP] 24)).alloc (.cells #[.int .i64 (1), .int .i64 (2)] 3)).cell? ⟨w2.heap.size, 2, none⟩ = some (.int .i64 r.d) := by rw [← hw6, cell_of_row X6.out]; rfl
        have t3 : ((w5.alloc (.cells #[.int .i64 4, .slice (some ⟨gP, oP, none⟩) 3 capP] 24)).alloc (.cells #[.int .i64 (1), .int .i64 (2)] 3)).cell? ⟨w2.heap.size, 3, none⟩ = some (.int .i64 r.h) := by rw [← hw6, cell_of_row X6.out]; rfl
        have t4 : ((w5.alloc (.cells #[.int .i64 4, .slice (some ⟨gP, oP, none⟩) 3 capP] 24)).alloc (.cells #[.int .i64 (1), .int .i64 (2)] 3)).cell? ⟨w2.heap.size, 4, none⟩ = some (.int .i64 r.i) := by rw [← hw6, cell_of_row X6.out]; rfl
        have t5 : ((w5.alloc (.cells #[.int .i64 4, .slice (some ⟨gP, oP, none⟩) 3 capP] 24)).alloc (.cells #[.int .i64 (1), .int .i64 (2)] 3)).cell? ⟨w2.heap.size, 5, none⟩ = some (.int .i64 r.s) := by rw [← hw6, cell_of_row X6.out]; rfl
        have HD := hid (made_any (p := p) 2 r [(⟨1, [a, 4]⟩ : Val), (⟨2, [b]⟩ : Val), ⟨1, [c, 2]⟩] [1, 2] _ _ w6 (by decide) HP.out HL6.out (HT.out.on HB6.out) (by intro q hq; simp at hq; rcases hq with rfl | rfl <;> simp) trivial HRR.out)
        rw [show doO 2 (madeO 2 r (List.map (fun (q : Int) => [(⟨1, [a, 4]⟩ : Val), (⟨2, [b]⟩ : Val), ⟨1, [c, 2]⟩].getD q.toNat nilVal) [1, 2])) = _ from hm2] at HD
        unfold momV at HD
        clear hw6_0 hw6_1 HP hm2 X5 HL5
        go_wp2_with fail
        rw [← hw6]
        refine HD.out.mono ?_
        rintro e w7 ⟨hb7, hr⟩
        have HB7 := hid (up_trans HB6.out hb7)
        have X7 := hid ((hb7.block w2.heap.size (Array.getElem?_eq_some_iff.1 X6.out).1).trans X6.out)
        have Y7 := hid ((hb7.block w5.heap.size (Array.getElem?_eq_some_iff.1 Y6.out).1).trans Y6.out)
        have HFP7 := hid ((HFP.out.on HBw6.out).on hb7)
        clear hb7 HD hw6 t0 t1 t2 t3 t4 t5 X6 HL6 Y6
        rw [if_pos h2] at hr
        obtain ⟨vQ, rfl, hvQ⟩ := hr
        obtain ⟨fQ, rfl, hfQ⟩ := hvQ
        have HFQ := hid hfQ.ia
        obtain ⟨gQ, oQ, capQ, rfl, hcQ, hmQ, hlQ⟩ := hfQ.ia.has3
        clear hfQ
        dsimp only at *
        obtain ⟨w8, hw8⟩ : ∃ w8, w8 = w7.alloc (.cells #[.int .i64 4, .slice (some ⟨gQ, oQ, none⟩) 3 capQ] 24) := ⟨_, rfl⟩
        obtain ⟨hc, hb, hsw8⟩ := chain_heap w7 [.cells #[.int .i64 4, .slice (some ⟨gQ, oQ, none⟩) 3 capQ] 24]
        simp only [List.foldl_cons, List.foldl_nil] at hc hb hsw8
        rw [← hw8] at hc hb hsw8
        have hw8_0 := hid (show w8.heap[w7.heap.size]? = some _ from hc 0 _ rfl)
        have HBw8 := hid hb
        have Hsw8 := hid (show w8.heap.size = w7.heap.size + 1 from hsw8)
        clear hc hb hsw8
        have HB8 := hid (up_trans HB7.out HBw8.out)
        have X8 := hid ((HBw8.out.block w2.heap.size (Array.getElem?_eq_some_iff.1 X7.out).1).trans X7.out)
        have Y8 := hid ((HBw8.out.block w5.heap.size (Array.getElem?_eq_some_iff.1 Y7.out).1).trans Y7.out)
        have Z8 := hid hw8_0.out
        have u0 : (w7.alloc (.cells #[.int .i64 4, .slice (some ⟨gQ, oQ, none⟩) 3 capQ] 24)).cell? ⟨w2.heap.size, 0, none⟩ = some (.int .i64 r.y) := by rw [← hw8, cell_of_row X8.out]; rfl
        have HFP8 := hid (HFP7.out.on HBw8.out)
        have HFQ8 := hid (HFQ.out.on HBw8.out)
        have HD1 := hid fun w => HD1.out w
        have HD2 := hid fun w => HD2.out w
        rw [h1] at HD1
        rw [h2] at HD2
        clear hw8_0 X7 Y7
        go_wp2_with fail
        refine (HD1.out _).mono ?_
        rintro e wn ⟨rfl, hw⟩
        obtain rfl := hw.symm
        clear hw
        go_wp2_with fail
        refine (HD2.out _).mono ?_
        rintro e wn ⟨rfl, hw⟩
        obtain rfl := hw.symm
        clear hw
        clear HD1 HD2 u0
        have p0 : w8.cell? ⟨w5.heap.size, 0, none⟩ = some (.int .i64 4) := by rw [cell_of_row Y8.out]; rfl
        have p1 : w8.cell? ⟨w5.heap.size, 1, none⟩ = some (.slice (some ⟨gP, oP, none⟩) 3 capP) := by rw [cell_of_row Y8.out]; rfl
        have p0' : (w7.alloc (.cells #[.int .i64 4, .slice (some ⟨gQ, oQ, none⟩) 3 capQ] 24)).cell? ⟨w5.heap.size, 0, none⟩ = some (.int .i64 4) := by rw [← hw8]; exact p0
        have p1' : (w7.alloc (.cells #[.int .i64 4, .slice (some ⟨gQ, oQ, none⟩) 3 capQ] 24)).cell? ⟨w5.heap.size, 1, none⟩ = some (.slice (some ⟨gP, oP, none⟩) 3 capP) := by rw [← hw8]; exact p1
        obtain ⟨w9, hw9⟩ : ∃ w9, w9 = w8.alloc (.cells #[.int .i64 (a), .int .i64 (b), .int .i64 (c)] 3) := ⟨_, rfl⟩
        have HU9 := hid (show Below w8.heap.size w8 w9 by rw [hw9]; exact up_alloc _ _)
        have R9 := hid (show w9.heap[w8.heap.size]? = some (.cells #[.int .i64 (a), .int .i64 (b), .int .i64 (c)] 3) by rw [hw9]; exact new_row _ _)
        have HC := hid (rcmp_any ⟨4, [a, b, c]⟩ ⟨4, [a, b, c]⟩ _ _ w9 ⟨_, rfl, HFP8.out.on HU9.out⟩ ⟨_, rfl, IA.at [a, b, c] R9.out (by simp)⟩)
        rw [cmpV_self] at HC
        have hs8 := hid (show w8.heap.size = w7.heap.size + 1 from Hsw8.out)
        go_wp2_with fail
        rw [← hw8, ← Hsw8.out, ← hw9]
        refine HC.out.mono ?_
        rintro e w10 ⟨rfl, hb10⟩
        have HB10 := hid (up_trans (up_trans HB8.out HU9.out) hb10)
        have X10 := hid ((hb10.block w2.heap.size (by have := Nat.lt_of_lt_of_le (Array.getElem?_eq_some_iff.1 X8.out).1 HU9.out.size; exact this)).trans ((HU9.out.block w2.heap.size (Array.getElem?_eq_some_iff.1 X8.out).1).trans X8.out))
        have Z10 := hid ((hb10.block w7.heap.size (by have := Nat.lt_of_lt_of_le (Array.getElem?_eq_some_iff.1 Z8.out).1 HU9.out.size; exact this)).trans ((HU9.out.block w7.heap.size (Array.getElem?_eq_some_iff.1 Z8.out).1).trans Z8.out))
        have HFQ10 := hid ((HFQ8.out.on HU9.out).on hb10)
        clear hb10 hw9 hw8 HC R9 p0 p1 p0' p1' hs8
        have q0 : w10.cell? ⟨w7.heap.size, 0, none⟩ = some (.int .i64 4) := by rw [cell_of_row Z10.out]; rfl
        have q1 : w10.cell? ⟨w7.heap.size, 1, none⟩ = some (.slice (some ⟨gQ, oQ, none⟩) 3 capQ) := by rw [cell_of_row Z10.out]; rfl
        have q2 : w10.cell? ⟨w2.heap.size, 0, none⟩ = some (.int .i64 r.y) := by rw [cell_of_row X10.out]; rfl
        obtain ⟨w11, hw11⟩ : ∃ w11, w11 = w10.alloc (.cells #[.int .i64 (r.y), .int .i64 (b), .int .i64 (c)] 3) := ⟨_, rfl⟩
        have HU11 := hid (show Below w10.heap.size w10 w11 by rw [hw11]; exact up_alloc _ _)
        have R11 := hid (show w11.heap[w10.heap.size]? = some (.cells #[.int .i64 (r.y), .int .i64 (b), .int .i64 (c)] 3) by rw [hw11]; exact new_row _ _)
        have HC := hid (rcmp_any ⟨4, [r.y, b, c]⟩ ⟨4, [r.y, b, c]⟩ _ _ w11 ⟨_, rfl, HFQ10.out.on HU11.out⟩ ⟨_, rfl, IA.at [r.y, b, c] R11.out (by simp)⟩)
        rw [cmpV_self] at HC
        go_wp2_with fail
        rw [← hw11]
        refine HC.out.mono ?_
        rintro e w12 ⟨rfl, hb12⟩
        have HB12 := hid (up_trans (up_trans HB10.out HU11.out) hb12)
        clear hb12 hw11 HC q0 q1 q2
        go_wp2
        go_ret
        exact ⟨rfl, HB12.out⟩
    case neg =>
      cases word with
      | false =>
        go_enter Tryd.func10, Tryd.ntmps10
        go_wp2_with fail
        refine HK.out.mono ?_
        rintro e w1 ⟨rfl, hb1⟩
        have HB1 := hid hb1
        clear hb1 HK
        go_wp2_with fail
        refine (H1.out _).mono ?_
        rintro e wn ⟨rfl, hw⟩
        obtain rfl := hw.symm
        clear hw
        go_wp2_with fail
        refine (H2.out _).mono ?_
        rintro e wn ⟨rfl, hw⟩
        obtain rfl := hw.symm
        clear hw
        go_wp2_with fail
        refine (H3.out _).mono ?_
        rintro e wn ⟨rfl, hw⟩
        obtain rfl := hw.symm
        clear hw
        clear H1 H2 H3
        go_wp2_with fail
        refine (HR.out _).mono ?_
        rintro e w2 ⟨rfl, hb2⟩
        have HB2 := hid (up_trans HB1.out hb2)
        clear hb2 HR
        obtain ⟨w4, hw4⟩ : ∃ w4, w4 = ((((((w2.alloc (.cells #[.int .i64 r.y, .int .i64 r.m, .int .i64 r.d, .int .i64 r.h, .int .i64 r.i, .int .i64 r.s] 31)).alloc (.cells #[.int .i64 (b), .int .i64 (2)] 3)).alloc (.cells #[.int .i64 1, .slice (some ⟨w2.heap.size + 1, 0, none⟩) 2 2] 24)).alloc (.cells #[.int .i64 (a), .int .i64 (4)] 3)).alloc (.cells #[.int .i64 (c), .int .i64 (2)] 3)).alloc (.cells #[.int .i64 1, .slice (some ⟨w2.heap.size + 1 + 1 + 1, 0, none⟩) 2 2, .int .i64 1, .slice (some ⟨w2.heap.size + 1, 0, none⟩) 2 2, .int .i64 1, .slice (some ⟨w2.heap.size + 1 + 1 + 1 + 1, 0, none⟩) 2 2] 24)).alloc (.cells #[.int .i64 (0), .int .i64 (1), .int .i64 (2)] 3) := ⟨_, rfl⟩
        obtain ⟨hc, hb, hsw4⟩ := chain_heap w2 [.cells #[.int .i64 r.y, .int .i64 r.m, .int .i64 r.d, .int .i64 r.h, .int .i64 r.i, .int .i64 r.s] 31, .cells #[.int .i64 (b), .int .i64 (2)] 3, .cells #[.int .i64 1, .slice (some ⟨w2.heap.size + 1, 0, none⟩) 2 2] 24, .cells #[.int .i64 (a), .int .i64 (4)] 3, .cells #[.int .i64 (c), .int .i64 (2)] 3, .cells #[.int .i64 1, .slice (some ⟨w2.heap.size + 1 + 1 + 1, 0, none⟩) 2 2, .int .i64 1, .slice (some ⟨w2.heap.size + 1, 0, none⟩) 2 2, .int .i64 1, .slice (some ⟨w2.heap.size + 1 + 1 + 1 + 1, 0, none⟩) 2 2] 24, .cells #[.int .i64 (0), .int .i64 (1), .int .i64 (2)] 3]
        simp only [List.foldl_cons, List.foldl_nil] at hc hb hsw4
        rw [← hw4] at hc hb hsw4
        have hw4_0 := hid (show w4.heap[w2.heap.size]? = some _ from hc 0 _ rfl)
        have hw4_1 := hid (hc 1 _ rfl)
        have hw4_2 := hid (hc 2 _ rfl)
        have hw4_3 := hid (hc 3 _ rfl)
        have hw4_4 := hid (hc 4 _ rfl)
        have hw4_5 := hid (hc 5 _ rfl)
        have hw4_6 := hid (hc 6 _ rfl)
        have HBw4 := hid hb
        have Hsw4 := hid (show w4.heap.size = w2.heap.size + 7 from hsw4)
        clear hc hb hsw4
        have HP := hid (IA.at [0, 1, 2] hw4_6.out (by simp))
        have HL := hid (LA.three hw4_5.out (IA.at [a, 4] hw4_3.out (by simp)) (IA.at [b, 2] hw4_1.out (by simp)) (IA.at [c, 2] hw4_4.out (by simp)))
        have HB4 := hid (up_trans HB2.out HBw4.out)
        have X4 := hid hw4_0.out
        have t0 : (((((((w2.alloc (.cells #[.int .i64 r.y, .int .i64 r.m, .int .i64 r.d, .int .i64 r.h, .int .i64 r.i, .int .i64 r.s] 31)).alloc (.cells #[.int .i64 (b), .int .i64 (2)] 3)).alloc (.cells #[.int .i64 1, .slice (some ⟨w2.heap.size + 1, 0, none⟩) 2 2] 24)).alloc (.cells #[.int .i64 (a), .int .i64 (4)] 3)).alloc (.cells #[.int .i64 (c), .int .i64 (2)] 3)).alloc (.cells #[.int .i64 1, .slice (some ⟨w2.heap.size + 1 + 1 + 1, 0, none⟩) 2 2, .int .i64 1, .slice (some ⟨w2.heap.size + 1, 0, none⟩) 2 2, .int .i64 1, .slice (some ⟨w2.heap.size + 1 + 1 + 1 + 1, 0, none⟩) 2 2] 24)).alloc (.cells #[.int .i64 (0), .int .i64 (1), .int .i64 (2)] 3)).cell? ⟨w2.heap.size, 0, none⟩ = some (.int .i64 r.y) := by rw [← hw4, cell_of_row X4.out]; rfl
        have t1 : (((((((w2.alloc (.cells #[.int .i64 r.y, .int .i64 r.m, .int .i64 r.d, .int .i64 r.h, .int .i64 r.i, .int .i64 r.s] 31)).alloc (.cells #[.int .i64 (b), .int .i64 (2)] 3)).alloc (.cells #[.int .i64 1, .slice (some ⟨w2.heap.size + 1, 0, none⟩) 2 2] 24)).alloc (.cells #[.int .i64 (a), .int .i64 (4)] 3)).alloc (.cells #[.int .i64 (c), .int .i64 (2)] 3)).alloc (.cells #[.int .i64 1, .slice (some ⟨w2.heap.size + 1 + 1 + 1, 0, none⟩) 2 2, .int .i64 1, .slice (some ⟨w2.heap.size + 1, 0, none⟩) 2 2, .int .i64 1, .slice (some ⟨w2.heap.size + 1 + 1 + 1 + 1, 0, none⟩) 2 2] 24)).alloc (.cells #[.int .i64 (0), .int .i64 (1), .int .i64 (2)] 3)).cell? ⟨w2.heap.size, 1, none⟩ = some (.int .i64 r.m) := by rw [← hw4, cell_of_row X4.out]; rfl
        have t2 : (((((((w2.alloc (.cells #[.int .i64 r.y, .int .i64 r.m, .int .i64 r.d, .int .i64 r.h, .int .i64 r.i, .int .i64 r.s] 31)).alloc (.cells #[.int .i64 (b), .int .i64 (2)] 3)).alloc (.cells #[.int .i64 1, .slice (some ⟨w2.heap.size + 1, 0, none⟩) 2 2] 24)).alloc (.cells #[.int .i64 (a), .int .i64 (4)] 3)).alloc (.cells #[.int .i64 (c), .int .i64 (2)] 3)).alloc (.cells #[.int .i64 1, .slice (some ⟨w2.heap.size + 1 + 1 + 1, 0, none⟩) 2 2, .int .i64 1, .slice (some ⟨w2.heap.size + 1, 0, none⟩) 2 2, .int .i64 1, .slice (some ⟨w2.heap.size + 1 + 1 + 1 + 1, 0, none⟩) 2 2] 24)).alloc (.cells #[.int .i64 (0), .int .i64 (1), .int .i64 (2)] 3)).cell? ⟨w2.heap.size, 2, none⟩ = some (.int .i64 r.d) := by rw [← hw4, cell_of_row X4.out]; rfl
        have t3 : (((((((w2.alloc (.cells #[.int .i64 r.y, .int .i64 r.m, .int .i64 r.d, .int .i64 r.h, .int .i64 r.i, .int .i64 r.s] 31)).alloc (.cells #[.int .i64 (b), .int .i64 (2)] 3)).alloc (.cells #[.int .i64 1, .slice (some ⟨w2.heap.size + 1, 0, none⟩) 2 2] 24)).alloc (.cells #[.int .i64 (a), .int .i64 (4)] 3)).alloc (.cells #[.int .i64 (c), .int .i64 (2)] 3)).alloc (.cells #[.int .i64 1, .slice (some ⟨w2.heap.size + 1 + 1 + 1, 0, none⟩) 2 2, .int .i64 1, .slice (some ⟨w2.heap.size + 1, 0, none⟩) 2 2, .int .i64 1, .slice (some ⟨w2.heap.size + 1 + 1 + 1 + 1, 0, none⟩) 2 2] 24)).alloc (.cells #[.int .i64 (0), .int .i64 (1), .int .i64 (2)] 3)).cell? ⟨w2.heap.size, 3, none⟩ = some (.int .i64 r.h) := by rw [← hw4, cell_of_row X4.out]; rfl
        have t4 : (((((((w2.alloc (.cells #[.int .i64 r.y, .int .i64 r.m, .int .i64 r.d, .int .i64 r.h, .int .i64 r.i, .int .i64 r.s] 31)).alloc (.cells #[.int .i64 (b), .int .i64 (2)] 3)).alloc (.cells #[.int .i64 1, .slice (some ⟨w2.heap.size + 1, 0, none⟩) 2 2] 24)).alloc (.cells #[.int .i64 (a), .int .i64 (4)] 3)).alloc (.cells #[.int .i64 (c), .int .i64 (2)] 3)).alloc (.cells #[.int .i64 1, .slice (some ⟨w2.heap.size + 1 + 1 + 1, 0, none⟩) 2 2, .int .i64 1, .slice (some ⟨w2.heap.size + 1, 0, none⟩) 2 2, .int .i64 1, .slice (some ⟨w2.heap.size + 1 + 1 + 1 + 1, 0, none⟩) 2 2] 24)).alloc (.cells #[.int .i64 (0), .int .i64 (1), .int .i64 (2)] 3)).cell? ⟨w2.heap.size, 4, none⟩ = some (.int .i64 r.i) := by rw [← hw4, cell_of_row X4.out]; rfl
        have t5 : (((((((w2.alloc (.cells #[.int .i64 r.y, .int .i64 r.m, .int .i64 r.d, .int .i64 r.h, .int .i64 r.i, .int .i64 r.s] 31)).alloc (.cells #[.int .i64 (b), .int .i64 (2)] 3)).alloc (.cells #[.int .i64 1, .slice (some ⟨w2.heap.size + 1, 0, none⟩) 2 2] 24)).alloc (.cells #[.int .i64 (a), .int .i64 (4)] 3)).alloc (.cells #[.int .i64 (c), .int .i64 (2)] 3)).alloc (.cells #[.int .i64 1, .slice (some ⟨w2.heap.size + 1 + 1 + 1, 0, none⟩) 2 2, .int .i64 1, .slice (some ⟨w2.heap.size + 1, 0, none⟩) 2 2, .int .i64 1, .slice (some ⟨w2.heap.size + 1 + 1 + 1 + 1, 0, none⟩) 2 2] 24)).alloc (.cells #[.int .i64 (0), .int .i64 (1), .int .i64 (2)] 3)).cell? ⟨w2.heap.size, 5, none⟩ = some (.int .i64 r.s) := by rw [← hw4, cell_of_row X4.out]; rfl
        have HD := hid (made_any (p := p) 1 r [(⟨1, [a, 4]⟩ : Val), (⟨1, [b, 2]⟩ : Val), ⟨1, [c, 2]⟩] [0, 1, 2] _ _ w4 (by decide) HP.out HL.out (HT.out.on HB4.out) (by intro q hq; simp at hq; rcases hq with rfl | rfl | rfl <;> simp) trivial HRR.out)
        rw [show doO 1 (madeO 1 r (List.map (fun (q : Int) => [(⟨1, [a, 4]⟩ : Val), (⟨1, [b, 2]⟩ : Val), ⟨1, [c, 2]⟩].getD q.toNat nilVal) [0, 1, 2])) = _ from hm1] at HD
        unfold momV at HD
        clear hw4_0 hw4_1 hw4_2 hw4_3 hw4_4 hw4_5 hw4_6 HP hm1
        go_wp2_with fail
        rw [← hw4]
        refine HD.out.mono ?_
        rintro e w5 ⟨hb5, hr⟩
        have HB5 := hid (up_trans HB4.out hb5)
        have X5 := hid ((hb5.block w2.heap.size (by have := Hsw4.out; omega)).trans X4.out)
        have HL5 := hid (HL.out.on hb5)
        clear hb5 HD hw4 t0 t1 t2 t3 t4 t5 X4 HL
        rw [if_pos h1] at hr
        obtain ⟨vP, rfl, hvP⟩ := hr
        obtain ⟨fP, rfl, hfP⟩ := hvP
        have HFP := hid hfP.ia
        obtain ⟨gP, oP, capP, rfl, hcP, hmP, hlP⟩ := hfP.ia.has3
        clear hfP
        dsimp only at *
        obtain ⟨w6, hw6⟩ : ∃ w6, w6 = (w5.alloc (.cells #[.int .i64 4, .slice (some ⟨gP, oP, none⟩) 3 capP] 24)).alloc (.cells #[.int .i64 (1), .int .i64 (2)] 3) := ⟨_, rfl⟩
        obtain ⟨hc, hb, hsw6⟩ := chain_heap w5 [.cells #[.int .i64 4, .slice (some ⟨gP, oP, none⟩) 3 capP] 24, .cells #[.int .i64 (1), .int .i64 (2)] 3]
        simp only [List.foldl_cons, List.foldl_nil] at hc hb hsw6
        rw [← hw6] at hc hb hsw6
        have hw6_0 := hid (show w6.heap[w5.heap.size]? = some _ from hc 0 _ rfl)
        have hw6_1 := hid (hc 1 _ rfl)
        have HBw6 := hid hb
        have Hsw6 := hid (show w6.heap.size = w5.heap.size + 2 from hsw6)
        clear hc hb hsw6
        have HB6 := hid (up_trans HB5.out HBw6.out)
        have X6 := hid ((HBw6.out.block w2.heap.size (Array.getElem?_eq_some_iff.1 X5.out).1).trans X5.out)
        have HL6 := hid (HL5.out.on HBw6.out)
        have HP := hid (IA.at [1, 2] hw6_1.out (by simp))
        have Y6 := hid hw6_0.out
        have t0 : ((w5.alloc (.cells #[.int .i64 4, .slice (some ⟨gP, oP, none⟩) 3 capP] 24)).alloc (.cells #[.int .i64 (1), .int .i64 (2)] 3)).cell? ⟨w2.heap.size, 0, none⟩ = some (.int .i64 r.y) := by rw [← hw6, cell_of_row X6.out]; rfl
        have t1 : ((w5.alloc (.cells #[.int .i64 4, .slice (some ⟨gP, oP, none⟩) 3 capP] 24)).alloc (.cells #[.int .i64 (1), .int .i64 (2)] 3)).cell? ⟨w2.heap.size, 1, none⟩ = some (.int .i64 r.m) := by rw [← hw6, cell_of_row X6.out]; rfl
        have t2 : ((w5.alloc (.cells #[.int .i64 4, .slice (some ⟨gP, oP, none⟩) 3 capP] 24)).alloc (.cells #[.int .i64 (1), .int .i64 (2)] 3)).cell? ⟨w2.heap.size, 2, none⟩ = some (.int .i64 r.d) := by rw [← hw6, cell_of_row X6.out]; rfl
        have t3 : ((w5.alloc (.cells #[.int .i64 4, .slice (some ⟨gP, oP, none⟩) 3 capP] 24)).alloc (.cells #[.int .i64 (1), .int .i64 (2)] 3)).cell? ⟨w2.heap.size, 3, none⟩ = some (.int .i64 r.h) := by rw [← hw6, cell_of_row X6.out]; rfl
        have t4 : ((w5.alloc (.cells #[.int .i64 4, .slice (some ⟨gP, oP, none⟩) 3 capP] 24)).alloc (.cells #[.int .i64 (1), .int .i64 (2)] 3)).cell? ⟨w2.heap.size, 4, none⟩ = some (.int .i64 r.i) := by rw [← hw6, cell_of_row X6.out]; rfl
        have t5 : ((w5.alloc (.cells #[.int .i64 4, .slice (some ⟨gP, oP, none⟩) 3 capP] 24)).alloc (.cells #[.int .i64 (1), .int .i64 (2)] 3)).cell? ⟨w2.heap.size, 5, none⟩ = some (.int .i64 r.s) := by rw [← hw6, cell_of_row X6.out]; rfl
        have HD := hid (made_any (p := p) 2 r [(⟨1, [a, 4]⟩ : Val), (⟨1, [b, 2]⟩ : Val), ⟨1, [c, 2]⟩] [1, 2] _ _ w6 (by decide) HP.out HL6.out (HT.out.on HB6.out) (by intro q hq; simp at hq; rcases hq with rfl | rfl <;> simp) trivial HRR.out)
        rw [show doO 2 (madeO 2 r (List.map (fun (q : Int) => [(⟨1, [a, 4]⟩ : Val), (⟨1, [b, 2]⟩ : Val), ⟨1, [c, 2]⟩].getD q.toNat nilVal) [1, 2])) = _ from hm2] at HD
        unfold momV at HD
        clear hw6_0 hw6_1 HP hm2 X5 HL5
        go_wp2_with fail
        rw [← hw6]
        refine HD.out.mono ?_
        rintro e w7 ⟨hb7, hr⟩
        have HB7 := hid (up_trans HB6.out hb7)
        have X7 := hid ((hb7.block w2.heap.size (Array.getElem?_eq_some_iff.1 X6.out).1).trans X6.out)
        have Y7 := hid ((hb7.block w5.heap.size (Array.getElem?_eq_some_iff.1 Y6.out).1).trans Y6.out)
        have HFP7 := hid ((HFP.out.on HBw6.out).on hb7)
        clear hb7 HD hw6 t0 t1 t2 t3 t4 t5 X6 HL6 Y6
        rw [if_neg h2] at hr
        obtain rfl : e = .returned noneV := hr
        unfold noneV
        obtain ⟨w8, hw8⟩ : ∃ w8, w8 = w7.alloc (.cells #[.int .i64 0, .slice none 0 0] 24) := ⟨_, rfl⟩
        obtain ⟨hc, hb, hsw8⟩ := chain_heap w7 [.cells #[.int .i64 0, .slice none 0 0] 24]
        simp only [List.foldl_cons, List.foldl_nil] at hc hb hsw8
        rw [← hw8] at hc hb hsw8
        have hw8_0 := hid (show w8.heap[w7.heap.size]? = some _ from hc 0 _ rfl)
        have HBw8 := hid hb
        have Hsw8 := hid (show w8.heap.size = w7.heap.size + 1 from hsw8)
        clear hc hb hsw8
        have HB8 := hid (up_trans HB7.out HBw8.out)
        have X8 := hid ((HBw8.out.block w2.heap.size (Array.getElem?_eq_some_iff.1 X7.out).1).trans X7.out)
        have Y8 := hid ((HBw8.out.block w5.heap.size (Array.getElem?_eq_some_iff.1 Y7.out).1).trans Y7.out)
        have Z8 := hid hw8_0.out
        have u0 : (w7.alloc (.cells #[.int .i64 0, .slice none 0 0] 24)).cell? ⟨w2.heap.size, 0, none⟩ = some (.int .i64 r.y) := by rw [← hw8, cell_of_row X8.out]; rfl
        have HFP8 := hid (HFP7.out.on HBw8.out)
        have HD1 := hid fun w => HD1.out w
        have HD2 := hid fun w => HD2.out w
        rw [h1] at HD1
        rw [Bool.eq_false_iff.2 h2] at HD2
        clear hw8_0 X7 Y7
        go_wp2_with fail
        refine (HD1.out _).mono ?_
        rintro e wn ⟨rfl, hw⟩
        obtain rfl := hw.symm
        clear hw
        go_wp2_with fail
        refine (HD2.out _).mono ?_
        rintro e wn ⟨rfl, hw⟩
        obtain rfl := hw.symm
        clear hw
        clear HD1 HD2 u0
        have p0 : w8.cell? ⟨w5.heap.size, 0, none⟩ = some (.int .i64 4) := by rw [cell_of_row Y8.out]; rfl
        have p1 : w8.cell? ⟨w5.heap.size, 1, none⟩ = some (.slice (some ⟨gP, oP, none⟩) 3 capP) := by rw [cell_of_row Y8.out]; rfl
        have p0' : (w7.alloc (.cells #[.int .i64 0, .slice none 0 0] 24)).cell? ⟨w5.heap.size, 0, none⟩ = some (.int .i64 4) := by rw [← hw8]; exact p0
        have p1' : (w7.alloc (.cells #[.int .i64 0, .slice none 0 0] 24)).cell? ⟨w5.heap.size, 1, none⟩ = some (.slice (some ⟨gP, oP, none⟩) 3 capP) := by rw [← hw8]; exact p1
        obtain ⟨w9, hw9⟩ : ∃ w9, w9 = w8.alloc (.cells #[.int .i64 (a), .int .i64 (b), .int .i64 (c)] 3) := ⟨_, rfl⟩
        have HU9 := hid (show Below w8.heap.size w8 w9 by rw [hw9]; exact up_alloc _ _)
        have R9 := hid (show w9.heap[w8.heap.size]? = some (.cells #[.int .i64 (a), .int .i64 (b), .int .i64 (c)] 3) by rw [hw9]; exact new_row _ _)
        have HC := hid (rcmp_any ⟨4, [a, b, c]⟩ ⟨4, [a, b, c]⟩ _ _ w9 ⟨_, rfl, HFP8.out.on HU9.out⟩ ⟨_, rfl, IA.at [a, b, c] R9.out (by simp)⟩)
        rw [cmpV_self] at HC
        have hs8 := hid (show w8.heap.size = w7.heap.size + 1 from Hsw8.out)
        go_wp2_with fail
        rw [← hw8, ← Hsw8.out, ← hw9]
        refine HC.out.mono ?_
        rintro e w10 ⟨rfl, hb10⟩
        have HB10 := hid (up_trans (up_trans HB8.out HU9.out) hb10)
        have X10 := hid ((hb10.block w2.heap.size (by have := Nat.lt_of_lt_of_le (Array.getElem?_eq_some_iff.1 X8.out).1 HU9.out.size; exact this)).trans ((HU9.out.block w2.heap.size (Array.getElem?_eq_some_iff.1 X8.out).1).trans X8.out))
        have Z10 := hid ((hb10.block w7.heap.size (by have := Nat.lt_of_lt_of_le (Array.getElem?_eq_some_iff.1 Z8.out).1 HU9.out.size; exact this)).trans ((HU9.out.block w7.heap.size (Array.getElem?_eq_some_iff.1 Z8.out).1).trans Z8.out))
        clear hb10 hw9 hw8 HC R9 p0 p1 p0' p1' hs8
        go_wp2
        go_ret
        exact ⟨rfl, HB10.out⟩
      | true =>
        go_enter Tryd.func10, Tryd.ntmps10
        go_wp2_with fail
        refine HK.out.mono ?_
        rintro e w1 ⟨rfl, hb1⟩
        have HB1 := hid hb1
        clear hb1 HK
        go_wp2_with fail
        refine (H1.out _).mono ?_
        rintro e wn ⟨rfl, hw⟩
        obtain rfl := hw.symm
        clear hw
        go_wp2_with fail
        refine (H2.out _).mono ?_
        rintro e wn ⟨rfl, hw⟩
        obtain rfl := hw.symm
        clear hw
        go_wp2_with fail
        refine (H3.out _).mono ?_
        rintro e wn ⟨rfl, hw⟩
        obtain rfl := hw.symm
        clear hw
        clear H1 H2 H3
        go_wp2_with fail
        refine (HR.out _).mono ?_
        rintro e w2 ⟨rfl, hb2⟩
        have HB2 := hid (up_trans HB1.out hb2)
        clear hb2 HR
        obtain ⟨w4, hw4⟩ : ∃ w4, w4 = (((((((w2.alloc (.cells #[.int .i64 r.y, .int .i64 r.m, .int .i64 r.d, .int .i64 r.h, .int .i64 r.i, .int .i64 r.s] 31)).alloc (.cells #[.int .i64 (b), .int .i64 (2)] 3)).alloc (.cells #[.int .i64 2, .slice (some ⟨w2.heap.size + 1 + 1 + 1, 0, none⟩) 1 1] 24)).alloc (.cells #[.int .i64 (b)] 3)).alloc (.cells #[.int .i64 (a), .int .i64 (4)] 3)).alloc (.cells #[.int .i64 (c), .int .i64 (2)] 3)).alloc (.cells #[.int .i64 1, .slice (some ⟨w2.heap.size + 1 + 1 + 1 + 1, 0, none⟩) 2 2, .int .i64 2, .slice (some ⟨w2.heap.size + 1 + 1 + 1, 0, none⟩) 1 1, .int .i64 1, .slice (some ⟨w2.heap.size + 1 + 1 + 1 + 1 + 1, 0, none⟩) 2 2] 24)).alloc (.cells #[.int .i64 (0), .int .i64 (1), .int .i64 (2)] 3) := ⟨_, rfl⟩
        obtain ⟨hc, hb, hsw4⟩ := chain_heap w2 [.cells #[.int .i64 r.y, .int .i64 r.m, .int .i64 r.d, .int .i64 r.h, .int .i64 r.i, .int .i64 r.s] 31, .cells #[.int .i64 (b), .int .i64 (2)] 3, .cells #[.int .i64 2, .slice (some ⟨w2.heap.size + 1 + 1 + 1, 0, none⟩) 1 1] 24, .cells #[.int .i64 (b)] 3, .cells #[.int .i64 (a), .int .i64 (4)] 3, .cells #[.int .i64 (c), .int .i64 (2)] 3, .cells #[.int .i64 1, .slice (some ⟨w2.heap.size + 1 + 1 + 1 + 1, 0, none⟩) 2 2, .int .i64 2, .slice (some ⟨w2.heap.size + 1 + 1 + 1, 0, none⟩) 1 1, .int .i64 1, .slice (some ⟨w2.heap.size + 1 + 1 + 1 + 1 + 1, 0, none⟩) 2 2] 24, .cells #[.int .i64 (0), .int .i64 (1), .int .i64 (2)] 3]
        simp only [List.foldl_cons, List.foldl_nil] at hc hb hsw4
        rw [← hw4] at hc hb hsw4
        have hw4_0 := hid (show w4.heap[w2.heap.size]? = some _ from hc 0 _ rfl)
        have hw4_1 := hid (hc 1 _ rfl)
        have hw4_2 := hid (hc 2 _ rfl)
        have hw4_3 := hid (hc 3 _ rfl)
        have hw4_4 := hid (hc 4 _ rfl)
        have hw4_5 := hid (hc 5 _ rfl)
        have hw4_6 := hid (hc 6 _ rfl)
        have hw4_7 := hid (hc 7 _ rfl)
        have HBw4 := hid hb
        have Hsw4 := hid (show w4.heap.size = w2.heap.size + 8 from hsw4)
        clear hc hb hsw4
        have HP := hid (IA.at [0, 1, 2] hw4_7.out (by simp))
        have HL := hid (LA.three hw4_6.out (IA.at [a, 4] hw4_4.out (by simp)) (IA.at [b] hw4_3.out (by simp)) (IA.at [c, 2] hw4_5.out (by simp)))
        have HB4 := hid (up_trans HB2.out HBw4.out)
        have X4 := hid hw4_0.out
        have t0 : ((((((((w2.alloc (.cells #[.int .i64 r.y, .int .i64 r.m, .int .i64 r.d, .int .i64 r.h, .int .i64 r.i, .int .i64 r.s] 31)).alloc (.cells #[.int .i64 (b), .int .i64 (2)] 3)).alloc (.cells #[.int .i64 2, .slice (some ⟨w2.heap.size + 1 + 1 + 1, 0, none⟩) 1 1] 24)).alloc (.cells #[.int .i64 (b)] 3)).alloc (.cells #[.int .i64 (a), .int .i64 (4)] 3)).alloc (.cells #[.int .i64 (c), .int .i64 (2)] 3)).alloc (.cells #[.int .i64 1, .slice (some ⟨w2.heap.size + 1 + 1 + 1 + 1, 0, none⟩) 2 2, .int .i64 2, .slice (some ⟨w2.heap.size + 1 + 1 + 1, 0, none⟩) 1 1, .int .i64 1, .slice (some ⟨w2.heap.size + 1 + 1 + 1 + 1 + 1, 0, none⟩) 2 2] 24)).alloc (.cells #[.int .i64 (0), .int .i64 (1), .int .i64 (2)] 3)).cell? ⟨w2.heap.size, 0, none⟩ = some (.int .i64 r.y) := by rw [← hw4, cell_of_row X4.out]; rfl
        have t1 : ((((((((w2.alloc (.cells #[.int .i64 r.y, .int .i64 r.m, .int .i64 r.d, .int .i64 r.h, .int .i64 r.i, .int .i64 r.s] 31)).alloc (.cells #[.int .i64 (b), .int .i64 (2)] 3)).alloc (.cells #[.int .i64 2, .slice (some ⟨w2.heap.size + 1 + 1 + 1, 0, none⟩) 1 1] 24)).alloc (.cells #[.int .i64 (b)] 3)).alloc (.cells #[.int .i64 (a), .int .i64 (4)] 3)).alloc (.cells #[.int .i64 (c), .int .i64 (2)] 3)).alloc (.cells #[.int .i64 1, .slice (some ⟨w2.heap.size + 1 + 1 + 1 + 1, 0, none⟩) 2 2, .int .i64 2, .slice (some ⟨w2.heap.size + 1 + 1 + 1, 0, none⟩) 1 1, .int .i64 1, .slice (some ⟨w2.heap.size + 1 + 1 + 1 + 1 + 1, 0, none⟩) 2 2] 24)).alloc (.cells #[.int .i64 (0), .int .i64 (1), .int .i64 (2)] 3)).cell? ⟨w2.heap.size, 1, none⟩ = some (.int .i64 r.m) := by rw [← hw4, cell_of_row X4.out]; rfl
        have t2 : ((((((((w2.alloc (.cells #[.int .i64 r.y, .int .i64 r.m, .int .i64 r.d, .int .i64 r.h, .int .i64 r.i, .int .i64 r.s] 31)).alloc (.cells #[.int .i64 (b), .int .i64 (2)] 3)).alloc (.cells #[.int .i64 2, .slice (some ⟨w2.heap.size + 1 + 1 + 1, 0, none⟩) 1 1] 24)).alloc (.cells #[.int .i64 (b)] 3)).alloc (.cells #[.int .i64 (a), .int .i64 (4)] 3)).alloc (.cells #[.int .i64 (c), .int .i64 (2)] 3)).alloc (.cells #[.int .i64 1, .slice (some ⟨w2.heap.size + 1 + 1 + 1 + 1, 0, none⟩) 2 2, .int .i64 2, .slice (some ⟨w2.heap.size + 1 + 1 + 1, 0, none⟩) 1 1, .int .i64 1, .slice (some ⟨w2.heap.size + 1 + 1 + 1 + 1 + 1, 0, none⟩) 2 2] 24)).alloc (.cells #[.int .i64 (0), .int .i64 (1), .int .i64 (2)] 3)).cell? ⟨w2.heap.size, 2, none⟩ = some (.int .i64 r.d) := by rw [← hw4, cell_of_row X4.out]; rfl
        have t3 : ((((((((w2.alloc (.cells #[.int .i64 r.y, .int .i64 r.m, .int .i64 r.d, .int .i64 r.h, .int .i64 r.i, .int .i64 r.s] 31)).alloc (.cells #[.int .i64 (b), .int .i64 (2)] 3)).alloc (.cells #[.int .i64 2, .slice (some ⟨w2.heap.size + 1 + 1 + 1, 0, none⟩) 1 1] 24)).alloc (.cells #[.int .i64 (b)] 3)).alloc (.cells #[.int .i64 (a), .int .i64 (4)] 3)).alloc (.cells #[.int .i64 (c), .int .i64 (2)] 3)).alloc (.cells #[.int .i64 1, .slice (some ⟨w2.heap.size + 1 + 1 + 1 + 1, 0, none⟩) 2 2, .int .i64 2, .slice (some ⟨w2.heap.size + 1 + 1 + 1, 0, none⟩) 1 1, .int .i64 1, .slice (some ⟨w2.heap.size + 1 + 1 + 1 + 1 + 1, 0, none⟩) 2 2] 24)).alloc (.cells #[.int .i64 (0), .int .i64 (1), .int .i64 (2)] 3)).cell? ⟨w2.heap.size, 3, none⟩ = some (.int .i64 r.h) := by rw [← hw4, cell_of_row X4.out]; rfl
        have t4 : ((((((((w2.alloc (.cells #[.int .i64 r.y, .int .i64 r.m, .int .i64 r.d, .int .i64 r.h, .int .i64 r.i, .int .i64 r.s] 31)).alloc (.cells #[.int .i64 (b), .int .i64 (2)] 3)).alloc (.cells #[.int .i64 2, .slice (some ⟨w2.heap.size + 1 + 1 + 1, 0, none⟩) 1 1] 24)).alloc (.cells #[.int .i64 (b)] 3)).alloc (.cells #[.int .i64 (a), .int .i64 (4)] 3)).alloc (.cells #[.int .i64 (c), .int .i64 (2)] 3)).alloc (.cells #[.int .i64 1, .slice (some ⟨w2.heap.size + 1 + 1 + 1 + 1, 0, none⟩) 2 2, .int .i64 2, .slice (some ⟨w2.heap.size + 1 + 1 + 1, 0, none⟩) 1 1, .int .i64 1, .slice (some ⟨w2.heap.size + 1 + 1 + 1 + 1 + 1, 0, none⟩) 2 2] 24)).alloc (.cells #[.int .i64 (0), .int .i64 (1), .int .i64 (2)] 3)).cell? ⟨w2.heap.size, 4, none⟩ = some (.int .i64 r.i) := by rw [← hw4, cell_of_row X4.out]; rfl
        have t5 : ((((((((w2.alloc (.cells #[.int .i64 r.y, .int .i64 r.m, .int .i64 r.d, .int .i64 r.h, .int .i64 r.i, .int .i64 r.s] 31)).alloc (.cells #[.int .i64 (b), .int .i64 (2)] 3)).alloc (.cells #[.int .i64 2, .slice (some ⟨w2.heap.size + 1 + 1 + 1, 0, none⟩) 1 1] 24)).alloc (.cells #[.int .i64 (b)] 3)).alloc (.cells #[.int .i64 (a), .int .i64 (4)] 3)).alloc (.cells #[.int .i64 (c), .int .i64 (2)] 3)).alloc (.cells #[.int .i64 1, .slice (some ⟨w2.heap.size + 1 + 1 + 1 + 1, 0, none⟩) 2 2, .int .i64 2, .slice (some ⟨w2.heap.size + 1 + 1 + 1, 0, none⟩) 1 1, .int .i64 1, .slice (some ⟨w2.heap.size + 1 + 1 + 1 + 1 + 1, 0, none⟩) 2 2] 24)).alloc (.cells #[.int .i64 (0), .int .i64 (1), .int .i64 (2)] 3)).cell? ⟨w2.heap.size, 5, none⟩ = some (.int .i64 r.s) := by rw [← hw4, cell_of_row X4.out]; rfl
        have HD := hid (made_any (p := p) 1 r [(⟨1, [a, 4]⟩ : Val), (⟨2, [b]⟩ : Val), ⟨1, [c, 2]⟩] [0, 1, 2] _ _ w4 (by decide) HP.out HL.out (HT.out.on HB4.out) (by intro q hq; simp at hq; rcases hq with rfl | rfl | rfl <;> simp) trivial HRR.out)
        rw [show doO 1 (madeO 1 r (List.map (fun (q : Int) => [(⟨1, [a, 4]⟩ : Val), (⟨2, [b]⟩ : Val), ⟨1, [c, 2]⟩].getD q.toNat nilVal) [0, 1, 2])) = _ from hm1] at HD
        unfold momV at HD
        clear hw4_0 hw4_1 hw4_2 hw4_3 hw4_4 hw4_5 hw4_6 hw4_7 HP hm1
        go_wp2_with fail
        rw [← hw4]
        refine HD.out.mono ?_
        rintro e w5 ⟨hb5, hr⟩
        have HB5 := hid (up_trans HB4.out hb5)
        have X5 := hid ((hb5.block w2.heap.size (by have := Hsw4.out; omega)).trans X4.out)
        have HL5 := hid (HL.out.on hb5)
        clear hb5 HD hw4 t0 t1 t2 t3 t4 t5 X4 HL
        rw [if_pos h1] at hr
        obtain ⟨vP, rfl, hvP⟩ := hr
        obtain ⟨fP, rfl, hfP⟩ := hvP
        have HFP := hid hfP.ia
        obtain ⟨gP, oP, capP, rfl, hcP, hmP, hlP⟩ := hfP.ia.has3
        clear hfP
        dsimp only at *
        obtain ⟨w6, hw6⟩ : ∃ w6, w6 = (w5.alloc (.cells #[.int .i64 4, .slice (some ⟨gP, oP, none⟩) 3 capP] 24)).alloc (.cells #[.int .i64 (1), .int .i64 (2)] 3) := ⟨_, rfl⟩
        obtain ⟨hc, hb, hsw6⟩ := chain_heap w5 [.cells #[.int .i64 4, .slice (some ⟨gP, oP, none⟩) 3 capP] 24, .cells #[.int .i64 (1), .int .i64 (2)] 3]
        simp only [List.foldl_cons, List.foldl_nil] at hc hb hsw6
        rw [← hw6] at hc hb hsw6
        have hw6_0 := hid (show w6.heap[w5.heap.size]? = some _ from hc 0 _ rfl)
        have hw6_1 := hid (hc 1 _ rfl)
        have HBw6 := hid hb
        have Hsw6 := hid (show w6.heap.size = w5.heap.size + 2 from hsw6)
        clear hc hb hsw6
        have HB6 := hid (up_trans HB5.out HBw6.out)
        have X6 := hid ((HBw6.out.block w2.heap.size (Array.getElem?_eq_some_iff.1 X5.out).1).trans X5.out)
        have HL6 := hid (HL5.out.on HBw6.out)
        have HP := hid (IA.at [1, 2] hw6_1.out (by simp))
        have Y6 := hid hw6_0.out
        have t0 : ((w5.alloc (.cells #[.int .i64 4, .slice (some ⟨gP, oP, none⟩) 3 capP] 24)).alloc (.cells #[.int .i64 (1), .int .i64 (2)] 3)).cell? ⟨w2.heap.size, 0, none⟩ = some (.int .i64 r.y) := by rw [← hw6, cell_of_row X6.out]; rfl
        have t1 : ((w5.alloc (.cells #[.int .i64 4, .slice (some ⟨gP, oP, none⟩) 3 capP] 24)).alloc (.cells #[.int .i64 (1), .int .i64 (2)] 3)).cell? ⟨w2.heap.size, 1, none⟩ = some (.int .i64 r.m) := by rw [← hw6, cell_of_row X6.out]; rfl
        have t2 : ((w5.alloc (.cells #[.int .i64 4, .slice (some ⟨gP, oP, none⟩) 3 capP] 24)).alloc (.cells #[.int .i64 (1), .int .i64 (2)] 3)).cell? ⟨w2.heap.size, 2, none⟩ = some (.int .i64 r.d) := by rw [← hw6, cell_of_row X6.out]; rfl
        have t3 : ((w5.alloc (.cells #[.int .i64 4, .slice (some ⟨gP, oP, none⟩) 3 capP] 24)).alloc (.cells #[.int .i64 (1), .int .i64 (2)] 3)).cell? ⟨w2.heap.size, 3, none⟩ = some (.int .i64 r.h) := by rw [← hw6, cell_of_row X6.out]; rfl
        have t4 : ((w5.alloc (.cells #[.int .i64 4, .slice (some ⟨gP, oP, none⟩) 3 capP] 24)).alloc (.cells #[.int .i64 (1), .int .i64 (2)] 3)).cell? ⟨w2.heap.size, 4, none⟩ = some (.int .i64 r.i) := by rw [← hw6, cell_of_row X6.out]; rfl
        have t5 : ((w5.alloc (.cells #[.int .i64 4, .slice (some ⟨gP, oP, none⟩) 3 capP] 24)).alloc (.cells #[.int .i64 (1), .int .i64 (2)] 3)).cell? ⟨w2.heap.size, 5, none⟩ = some (.int .i64 r.s) := by rw [← hw6, cell_of_row X6.out]; rfl
        have HD := hid (made_any (p := p) 2 r [(⟨1, [a, 4]⟩ : Val), (⟨2, [b]⟩ : Val), ⟨1, [c, 2]⟩] [1, 2] _ _ w6 (by decide) HP.out HL6.out (HT.out.on HB6.out) (by intro q hq; simp at hq; rcases hq with rfl | rfl <;> simp) trivial HRR.out)
        rw [show doO 2 (madeO 2 r (List.map (fun (q : Int) => [(⟨1, [a, 4]⟩ : Val), (⟨2, [b]⟩ : Val), ⟨1, [c, 2]⟩].getD q.toNat nilVal) [1, 2])) = _ from hm2] at HD
        unfold momV at HD
        clear hw6_0 hw6_1 HP hm2 X5 HL5
        go_wp2_with fail
        rw [← hw6]
        refine HD.out.mono ?_
        rintro e w7 ⟨hb7, hr⟩
        have HB7 := hid (up_trans HB6.out hb7)
        have X7 := hid ((hb7.block w2.heap.size (Array.getElem?_eq_some_iff.1 X6.out).1).trans X6.out)
        have Y7 := hid ((hb7.block w5.heap.size (Array.getElem?_eq_some_iff.1 Y6.out).1).trans Y6.out)
        have HFP7 := hid ((HFP.out.on HBw6.out).on hb7)
        clear hb7 HD hw6 t0 t1 t2 t3 t4 t5 X6 HL6 Y6
        rw [if_neg h2] at hr
        obtain rfl : e = .returned noneV := hr
        unfold noneV
        obtain ⟨w8, hw8⟩ : ∃ w8, w8 = w7.alloc (.cells #[.int .i64 0, .slice none 0 0] 24) := ⟨_, rfl⟩
        obtain ⟨hc, hb, hsw8⟩ := chain_heap w7 [.cells #[.int .i64 0, .slice none 0 0] 24]
        simp only [List.foldl_cons, List.foldl_nil] at hc hb hsw8
        rw [← hw8] at hc hb hsw8
        have hw8_0 := hid (show w8.heap[w7.heap.size]? = some _ from hc 0 _ rfl)
        have HBw8 := hid hb
        have Hsw8 := hid (show w8.heap.size = w7.heap.size + 1 from hsw8)
        clear hc hb hsw8
        have HB8 := hid (up_trans HB7.out HBw8.out)
        have X8 := hid ((HBw8.out.block w2.heap.size (Array.getElem?_eq_some_iff.1 X7.out).1).trans X7.out)
        have Y8 := hid ((HBw8.out.block w5.heap.size (Array.getElem?_eq_some_iff.1 Y7.out).1).trans Y7.out)
        have Z8 := hid hw8_0.out
        have u0 : (w7.alloc (.cells #[.int .i64 0, .slice none 0 0] 24)).cell? ⟨w2.heap.size, 0, none⟩ = some (.int .i64 r.y) := by rw [← hw8, cell_of_row X8.out]; rfl
        have HFP8 := hid (HFP7.out.on HBw8.out)
        have HD1 := hid fun w => HD1.out w
        have HD2 := hid fun w => HD2.out w
        rw [h1] at HD1
        rw [Bool.eq_false_iff.2 h2] at HD2
        clear hw8_0 X7 Y7
        go_wp2_with fail
        refine (HD1.out _).mono ?_
        rintro e wn ⟨rfl, hw⟩
        obtain rfl := hw.symm
        clear hw
        go_wp2_with fail
        refine (HD2.out _).mono ?_
        rintro e wn ⟨rfl, hw⟩
        obtain rfl := hw.symm
        clear hw
        clear HD1 HD2 u0
        have p0 : w8.cell? ⟨w5.heap.size, 0, none⟩ = some (.int .i64 4) := by rw [cell_of_row Y8.out]; rfl
        have p1 : w8.cell? ⟨w5.heap.size, 1, none⟩ = some (.slice (some ⟨gP, oP, none⟩) 3 capP) := by rw [cell_of_row Y8.out]; rfl
        have p0' : (w7.alloc (.cells #[.int .i64 0, .slice none 0 0] 24)).cell? ⟨w5.heap.size, 0, none⟩ = some (.int .i64 4) := by rw [← hw8]; exact p0
        have p1' : (w7.alloc (.cells #[.int .i64 0, .slice none 0 0] 24)).cell? ⟨w5.heap.size, 1, none⟩ = some (.slice (some ⟨gP, oP, none⟩) 3 capP) := by rw [← hw8]; exact p1
        obtain ⟨w9, hw9⟩ : ∃ w9, w9 = w8.alloc (.cells #[.int .i64 (a), .int .i64 (b), .int .i64 (c)] 3) := ⟨_, rfl⟩
        have HU9 := hid (show Below w8.heap.size w8 w9 by rw [hw9]; exact up_alloc _ _)
        have R9 := hid (show w9.heap[w8.heap.size]? = some (.cells #[.int .i64 (a), .int .i64 (b), .int .i64 (c)] 3) by rw [hw9]; exact new_row _ _)
        have HC := hid (rcmp_any ⟨4, [a, b, c]⟩ ⟨4, [a, b, c]⟩ _ _ w9 ⟨_, rfl, HFP8.out.on HU9.out⟩ ⟨_, rfl, IA.at [a, b, c] R9.out (by simp)⟩)
        rw [cmpV_self] at HC
        have hs8 := hid (show w8.heap.size = w7.heap.size + 1 from Hsw8.out)
        go_wp2_with fail
        rw [← hw8, ← Hsw8.out, ← hw9]
        refine HC.out.mono ?_
        rintro e w10 ⟨rfl, hb10⟩
        have HB10 := hid (up_trans (up_trans HB8.out HU9.out) hb10)
        have X10 := hid ((hb10.block w2.heap.size (by have := Nat.lt_of_lt_of_le (Array.getElem?_eq_some_iff.1 X8.out).1 HU9.out.size; exact this)).trans ((HU9.out.block w2.heap.size (Array.getElem?_eq_some_iff.1 X8.out).1).trans X8.out))
        have Z10 := hid ((hb10.block w7.heap.size (by have := Nat.lt_of_lt_of_le (Array.getElem?_eq_some_iff.1 Z8.out).1 HU9.out.size; exact this)).trans ((HU9.out.block w7.heap.size (Array.getElem?_eq_some_iff.1 Z8.out).1).trans Z8.out))
        clear hb10 hw9 hw8 HC R9 p0 p1 p0' p1' hs8
        go_wp2
        go_ret
        exact ⟨rfl, HB10.out⟩
  case neg =>
    by_cases h2 : Ci.dayB r.y b c = true
    case pos =>
      cases word with
      | false =>
        go_enter Tryd.func10, Tryd.ntmps10
        go_wp2_with fail
        refine HK.out.mono ?_
        rintro e w1 ⟨rfl, hb1⟩
        have HB1 := hid hb1
        clear hb1 HK
        go_wp2_with fail
        refine (H1.out _).mono ?_
        rintro e wn ⟨rfl, hw⟩
        obtain rfl := hw.symm
        clear hw
        go_wp2_with fail
        refine (H2.out _).mono ?_
        rintro e wn ⟨rfl, hw⟩
        obtain rfl := hw.symm
        clear hw
        go_wp2_with fail
        refine (H3.out _).mono ?_
        rintro e wn ⟨rfl, hw⟩
        obtain rfl := hw.symm
        clear hw
        clear H1 H2 H3
        go_wp2_with fail
        refine (HR.out _).mono ?_
        rintro e w2 ⟨rfl, hb2⟩
        have HB2 := hid (up_trans HB1.out hb2)
        clear hb2 HR
        obtain ⟨w4, hw4⟩ : ∃ w4, w4 = ((((((w2.alloc (.cells #[.int .i64 r.y, .int .i64 r.m, .int .i64 r.d, .int .i64 r.h, .int .i64 r.i, .int .i64 r.s] 31)).alloc (.cells #[.int .i64 (b), .int .i64 (2)] 3)).alloc (.cells #[.int .i64 1, .slice (some ⟨w2.heap.size + 1, 0, none⟩) 2 2] 24)).alloc (.cells #[.int .i64 (a), .int .i64 (4)] 3)).alloc (.cells #[.int .i64 (c), .int .i64 (2)] 3)).alloc (.cells #[.int .i64 1, .slice (some ⟨w2.heap.size + 1 + 1 + 1, 0, none⟩) 2 2, .int .i64 1, .slice (some ⟨w2.heap.size + 1, 0, none⟩) 2 2, .int .i64 1, .slice (some ⟨w2.heap.size + 1 + 1 + 1 + 1, 0, none⟩) 2 2] 24)).alloc (.cells #[.int .i64 (0), .int .i64 (1), .int .i64 (2)] 3) := ⟨_, rfl⟩
        obtain ⟨hc, hb, hsw4⟩ := chain_heap w2 [.cells #[.int .i64 r.y, .int .i64 r.m, .int .i64 r.d, .int .i64 r.h, .int .i64 r.i, .int .i64 r.s] 31, .cells #[.int .i64 (b), .int .i64 (2)] 3, .cells #[.int .i64 1, .slice (some ⟨w2.heap.size + 1, 0, none⟩) 2 2] 24, .cells #[.int .i64 (a), .int .i64 (4)] 3, .cells #[.int .i64 (c), .int .i64 (2)] 3, .cells #[.int .i64 1, .slice (some ⟨w2.heap.size + 1 + 1 + 1, 0, none⟩) 2 2, .int .i64 1, .slice (some ⟨w2.heap.size + 1, 0, none⟩) 2 2, .int .i64 1, .slice (some ⟨w2.heap.size + 1 + 1 + 1 + 1, 0, none⟩) 2 2] 24, .cells #[.int .i64 (0), .int .i64 (1), .int .i64 (2)] 3]
        simp only [List.foldl_cons, List.foldl_nil] at hc hb hsw4
        rw [← hw4] at hc hb hsw4
        have hw4_0 := hid (show w4.heap[w2.heap.size]? = some _ from hc 0 _ rfl)
        have hw4_1 := hid (hc 1 _ rfl)
        have hw4_2 := hid (hc 2 _ rfl)
        have hw4_3 := hid (hc 3 _ rfl)
        have hw4_4 := hid (hc 4 _ rfl)
        have hw4_5 := hid (hc 5 _ rfl)
        have hw4_6 := hid (hc 6 _ rfl)
        have HBw4 := hid hb
        have Hsw4 := hid (show w4.heap.size = w2.heap.size + 7 from hsw4)
        clear hc hb hsw4
        have HP := hid (IA.at [0, 1, 2] hw4_6.out (by simp))
        have HL := hid (LA.three hw4_5.out (IA.at [a, 4] hw4_3.out (by simp)) (IA.at [b, 2] hw4_1.out (by simp)) (IA.at [c, 2] hw4_4.out (by simp)))
        have HB4 := hid (up_trans HB2.out HBw4.out)
        have X4 := hid hw4_0.out
        have t0 : (((((((w2.alloc (.cells #[.int .i64 r.y, .int .i64 r.m, .int .i64 r.d, .int .i64 r.h, .int .i64 r.i, .int .i64 r.s] 31)).alloc (.cells #[.int .i64 (b), .int .i64 (2)] 3)).alloc (.cells #[.int .i64 1, .slice (some ⟨w2.heap.size + 1, 0, none⟩) 2 2] 24)).alloc (.cells #[.int .i64 (a), .int .i64 (4)] 3)).alloc (.cells #[.int .i64 (c), .int .i64 (2)] 3)).alloc (.cells #[.int .i64 1, .slice (some ⟨w2.heap.size + 1 + 1 + 1, 0, none⟩) 2 2, .int .i64 1, .slice (some ⟨w2.heap.size + 1, 0, none⟩) 2 2, .int .i64 1, .slice (some ⟨w2.heap.size + 1 + 1 + 1 + 1, 0, none⟩) 2 2] 24)).alloc (.cells #[.int .i64 (0), .int .i64 (1), .int .i64 (2)] 3)).cell? ⟨w2.heap.size, 0, none⟩ = some (.int .i64 r.y) := by rw [← hw4, cell_of_row X4.out]; rfl
        have t1 : (((((((w2.alloc (.cells #[.int .i64 r.y, .int .i64 r.m, .int .i64 r.d, .int .i64 r.h, .int .i64 r.i, .int .i64 r.s] 31)).alloc (.cells #[.int .i64 (b), .int .i64 (2)] 3)).alloc (.cells #[.int .i64 1, .slice (some ⟨w2.heap.size + 1, 0, none⟩) 2 2] 24)).alloc (.cells #[.int .i64 (a), .int .i64 (4)] 3)).alloc (.cells #[.int .i64 (c), .int .i64 (2)] 3)).alloc (.cells #[.int .i64 1, .slice (some ⟨w2.heap.size + 1 + 1 + 1, 0, none⟩) 2 2, .int .i64 1, .slice (some ⟨w2.heap.size + 1, 0, none⟩) 2 2, .int .i64 1, .slice (some ⟨w2.heap.size + 1 + 1 + 1 + 1, 0, none⟩) 2 2] 24)).alloc (.cells #[.int .i64 (0), .int .i64 (1), .int .i64 (2)] 3)).cell? ⟨w2.heap.size, 1, none⟩ = some (.int .i64 r.m) := by rw [← hw4, cell_of_row X4.out]; rfl
        have t2 : (((((((w2.alloc (.cells #[.int .i64 r.y, .int .i64 r.m, .int .i64 r.d, .int .i64 r.h, .int .i64 r.i, .int .i64 r.s] 31)).alloc (.cells #[.int .i64 (b), .int .i64 (2)] 3)).alloc (.cells #[.int .i64 1, .slice (some ⟨w2.heap.size + 1, 0, none⟩) 2 2] 24)).alloc (.cells #[.int .i64 (a), .int .i64 (4)] 3)).alloc (.cells #[.int .i64 (c), .int .i64 (2)] 3)).alloc (.cells #[.int .i64 1, .slice (some ⟨w2.heap.size + 1 + 1 + 1, 0, none⟩) 2 2, .int .i64 1, .slice (some ⟨w2.heap.size + 1, 0, none⟩) 2 2, .int .i64 1, .slice (some ⟨w2.heap.size + 1 + 1 + 1 + 1, 0, none⟩) 2 2] 24)).alloc (.cells #[.int .i64 (0), .int .i64 (1), .int .i64 (2)] 3)).cell? ⟨w2.heap.size, 2, none⟩ = some (.int .i64 r.d) := by rw [← hw4, cell_of_row X4.out]; rfl
        have t3 : (((((((w2.alloc (.cells #[.int .i64 r.y, .int .i64 r.m, .int .i64 r.d, .int .i64 r.h, .int .i64 r.i, .int .i64 r.s] 31)).alloc (.cells #[.int .i64 (b), .int .i64 (2)] 3)).alloc (.cells #[.int .i64 1, .slice (some ⟨w2.heap.size + 1, 0, none⟩) 2 2] 24)).alloc (.cells #[.int .i64 (a), .int .i64 (4)] 3)).alloc (.cells #[.int .i64 (c), .int .i64 (2)] 3)).alloc (.cells #[.int .i64 1, .slice (some ⟨w2.heap.size + 1 + 1 + 1, 0, none⟩) 2 2, .int .i64 1, .slice (some ⟨w2.heap.size + 1, 0, none⟩) 2 2, .int .i64 1, .slice (some ⟨w2.heap.size + 1 + 1 + 1 + 1, 0, none⟩) 2 2] 24)).alloc (.cells #[.int .i64 (0), .int .i64 (1), .int .i64 (2)] 3)).cell? ⟨w2.heap.size, 3, none⟩ = some (.int .i64 r.h) := by rw [← hw4, cell_of_row X4.out]; rfl
        have t4 : (((((((w2.alloc (.cells #[.int .i64 r.y, .int .i64 r.m, .int .i64 r.d, .int .i64 r.h, .int .i64 r.i, .int .i64 r.s] 31)).alloc (.cells #[.int .i64 (b), .int .i64 (2)] 3)).alloc (.cells #[.int .i64 1, .slice (some ⟨w2.heap.size + 1, 0, none⟩) 2 2] 24)).alloc (.cells #[.int .i64 (a), .int .i64 (4)] 3)).alloc (.cells #[.int .i64 (c), .int .i64 (2)] 3)).alloc (.cells #[.int .i64 1, .slice (some ⟨w2.heap.size + 1 + 1 + 1, 0, none⟩) 2 2, .int .i64 1, .slice (some ⟨w2.heap.size + 1, 0, none⟩) 2 2, .int .i64 1, .slice (some ⟨w2.heap.size + 1 + 1 + 1 + 1, 0, none⟩) 2 2] 24)).alloc (.cells #[.int .i64 (0), .int .i64 (1), .int .i64 (2)] 3)).cell? ⟨w2.heap.size, 4, none⟩ = some (.int .i64 r.i) := by rw [← hw4, cell_of_row X4.out]; rfl
        have t5 : (((((((w2.alloc (.cells #[.int .i64 r.y, .int .i64 r.m, .int .i64 r.d, .int .i64 r.h, .int .i64 r.i, .int .i64 r.s] 31)).alloc (.cells #[.int .i64 (b), .int .i64 (2)] 3)).alloc (.cells #[.int .i64 1, .slice (some ⟨w2.heap.size + 1, 0, none⟩) 2 2] 24)).alloc (.cells #[.int .i64 (a), .int .i64 (4)] 3)).alloc (.cells #[.int .i64 (c), .int .i64 (2)] 3)).alloc (.cells #[.int .i64 1, .slice (some ⟨w2.heap.size + 1 + 1 + 1, 0, none⟩) 2 2, .int .i64 1, .slice (some ⟨w2.heap.size + 1, 0, none⟩) 2 2, .int .i64 1, .slice (some ⟨w2.heap.size + 1 + 1 + 1 + 1, 0, none⟩) 2 2] 24)).alloc (.cells #[.int .i64 (0), .int .i64 (1), .int .i64 (2)] 3)).cell? ⟨w2.heap.size, 5, none⟩ = some (.int .i64 r.s) := by rw [← hw4, cell_of_row X4.out]; rfl
        have HD := hid (made_any (p := p) 1 r [(⟨1, [a, 4]⟩ : Val), (⟨1, [b, 2]⟩ : Val), ⟨1, [c, 2]⟩] [0, 1, 2] _ _ w4 (by decide) HP.out HL.out (HT.out.on HB4.out) (by intro q hq; simp at hq; rcases hq with rfl | rfl | rfl <;> simp) trivial HRR.out)
        rw [show doO 1 (madeO 1 r (List.map (fun (q : Int) => [(⟨1, [a, 4]⟩ : Val), (⟨1, [b, 2]⟩ : Val), ⟨1, [c, 2]⟩].getD q.toNat nilVal) [0, 1, 2])) = _ from hm1] at HD
        unfold momV at HD
        clear hw4_0 hw4_1 hw4_2 hw4_3 hw4_4 hw4_5 hw4_6 HP hm1
        go_wp2_with fail
        rw [← hw4]
        refine HD.out.mono ?_
        rintro e w5 ⟨hb5, hr⟩
        have HB5 := hid (up_trans HB4.out hb5)
        have X5 := hid ((hb5.block w2.heap.size (by have := Hsw4.out; omega)).trans X4.out)
        have HL5 := hid (HL.out.on hb5)
        clear hb5 HD hw4 t0 t1 t2 t3 t4 t5 X4 HL
        rw [if_neg h1] at hr
        obtain rfl : e = .returned noneV := hr
        unfold noneV
        obtain ⟨w6, hw6⟩ : ∃ w6, w6 = (w5.alloc (.cells #[.int .i64 0, .slice none 0 0] 24)).alloc (.cells #[.int .i64 (1), .int .i64 (2)] 3) := ⟨_, rfl⟩
        obtain ⟨hc, hb, hsw6⟩ := chain_heap w5 [.cells #[.int .i64 0, .slice none 0 0] 24, .cells #[.int .i64 (1), .int .i64 (2)] 3]
        simp only [List.foldl_cons, List.foldl_nil] at hc hb hsw6
        rw [← hw6] at hc hb hsw6
        have hw6_0 := hid (show w6.heap[w5.heap.size]? = some _ from hc 0 _ rfl)
        have hw6_1 := hid (hc 1 _ rfl)
        have HBw6 := hid hb
        have Hsw6 := hid (show w6.heap.size = w5.heap.size + 2 from hsw6)
        clear hc hb hsw6
        have HB6 := hid (up_trans HB5.out HBw6.out)
        have X6 := hid ((HBw6.out.block w2.heap.size (Array.getElem?_eq_some_iff.1 X5.out).1).trans X5.out)
        have HL6 := hid (HL5.out.on HBw6.out)
        have HP := hid (IA.at [1, 2] hw6_1.out (by simp))
        have Y6 := hid hw6_0.out
        have t0 : ((w5.alloc (.cells #[.int .i64 0, .slice none 0 0] 24)).alloc (.cells #[.int .i64 (1), .int .i64 (2)] 3)).cell? ⟨w2.heap.size, 0, none⟩ = some (.int .i64 r.y) := by rw [← hw6, cell_of_row X6.out]; rfl
        have t1 : ((w5.alloc (.cells #[.int .i64 0, .slice none 0 0] 24)).alloc (.cells #[.int .i64 (1), .int .i64 (2)] 3)).cell? ⟨w2.heap.size, 1, none⟩ = some (.int .i64 r.m) := by rw [← hw6, cell_of_row X6.out]; rfl
        have t2 : ((w5.alloc (.cells #[.int .i64 0, .slice none 0 0] 24)).alloc (.cells #[.int .i64 (1), .int .i64 (2)] 3)).cell? ⟨w2.heap.size, 2, none⟩ = some (.int .i64 r.d) := by rw [← hw6, cell_of_row X6.out]; rfl
        have t3 : ((w5.alloc (.cells #[.int .i64 0, .slice none 0 0] 24)).alloc (.cells #[.int .i64 (1), .int .i64 (2)] 3)).cell? ⟨w2.heap.size, 3, none⟩ = some (.int .i64 r.h) := by rw [← hw6, cell_of_row X6.out]; rfl
        have t4 : ((w5.alloc (.cells #[.int .i64 0, .slice none 0 0] 24)).alloc (.cells #[.int .i64 (1), .int .i64 (2)] 3)).cell? ⟨w2.heap.size, 4, none⟩ = some (.int .i64 r.i) := by rw [← hw6, cell_of_row X6.out]; rfl
        have t5 : ((w5.alloc (.cells #[.int .i64 0, .slice none 0 0] 24)).alloc (.cells #[.int .i64 (1), .int .i64 (2)] 3)).cell? ⟨w2.heap.size, 5, none⟩ = some (.int .i64 r.s) := by rw [← hw6, cell_of_row X6.out]; rfl
        have HD := hid (made_any (p := p) 2 r [(⟨1, [a, 4]⟩ : Val), (⟨1, [b, 2]⟩ : Val), ⟨1, [c, 2]⟩] [1, 2] _ _ w6 (by decide) HP.out HL6.out (HT.out.on HB6.out) (by intro q hq; simp at hq; rcases hq with rfl | rfl <;> simp) trivial HRR.out)
        rw [show doO 2 (madeO 2 r (List.map (fun (q : Int) => [(⟨1, [a, 4]⟩ : Val), (⟨1, [b, 2]⟩ : Val), ⟨1, [c, 2]⟩].getD q.toNat nilVal) [1, 2])) = _ from hm2] at HD
        unfold momV at HD
        clear hw6_0 hw6_1 HP hm2 X5 HL5
        go_wp2_with fail
        rw [← hw6]
        refine HD.out.mono ?_
        rintro e w7 ⟨hb7, hr⟩
        have HB7 := hid (up_trans HB6.out hb7)
        have X7 := hid ((hb7.block w2.heap.size (Array.getElem?_eq_some_iff.1 X6.out).1).trans X6.out)
        have Y7 := hid ((hb7.block w5.heap.size (Array.getElem?_eq_some_iff.1 Y6.out).1).trans Y6.out)
        clear hb7 HD hw6 t0 t1 t2 t3 t4 t5 X6 HL6 Y6
        rw [if_pos h2] at hr
        obtain ⟨vQ, rfl, hvQ⟩ := hr
        obtain ⟨fQ, rfl, hfQ⟩ := hvQ
        have HFQ := hid hfQ.ia
        obtain ⟨gQ, oQ, capQ, rfl, hcQ, hmQ, hlQ⟩ := hfQ.ia.has3
        clear hfQ
        dsimp only at *
        obtain ⟨w8, hw8⟩ : ∃ w8, w8 = w7.alloc (.cells #[.int .i64 4, .slice (some ⟨gQ, oQ, none⟩) 3 capQ] 24) := ⟨_, rfl⟩
        obtain ⟨hc, hb, hsw8⟩ := chain_heap w7 [.cells #[.int .i64 4, .slice (some ⟨gQ, oQ, none⟩) 3 capQ] 24]
        simp only [List.foldl_cons, List.foldl_nil] at hc hb hsw8
        rw [← hw8] at hc hb hsw8
        have hw8_0 := hid (show w8.heap[w7.heap.size]? = some _ from hc 0 _ rfl)
        have HBw8 := hid hb
        have Hsw8 := hid (show w8.heap.size = w7.heap.size + 1 from hsw8)
        clear hc hb hsw8
        have HB8 := hid (up_trans HB7.out HBw8.out)
        have X8 := hid ((HBw8.out.block w2.heap.size (Array.getElem?_eq_some_iff.1 X7.out).1).trans X7.out)
        have Y8 := hid ((HBw8.out.block w5.heap.size (Array.getElem?_eq_some_iff.1 Y7.out).1).trans Y7.out)
        have Z8 := hid hw8_0.out
        have u0 : (w7.alloc (.cells #[.int .i64 4, .slice (some ⟨gQ, oQ, none⟩) 3 capQ] 24)).cell? ⟨w2.heap.size, 0, none⟩ = some (.int .i64 r.y) := by rw [← hw8, cell_of_row X8.out]; rfl
        have HFQ8 := hid (HFQ.out.on HBw8.out)
        have HD1 := hid fun w => HD1.out w
        have HD2 := hid fun w => HD2.out w
        rw [Bool.eq_false_iff.2 h1] at HD1
        rw [h2] at HD2
        clear hw8_0 X7 Y7
        go_wp2_with fail
        refine (HD1.out _).mono ?_
        rintro e wn ⟨rfl, hw⟩
        obtain rfl := hw.symm
        clear hw
        go_wp2_with fail
        refine (HD2.out _).mono ?_
        rintro e wn ⟨rfl, hw⟩
        obtain rfl := hw.symm
        clear hw
        clear HD1 HD2 u0
        have X10 := hid X8.out
        have Z10 := hid Z8.out
        have HB10 := hid HB8.out
        have HFQ10 := hid HFQ8.out
        have q0 : (w7.alloc (.cells #[.int .i64 4, .slice (some ⟨gQ, oQ, none⟩) 3 capQ] 24)).cell? ⟨w7.heap.size, 0, none⟩ = some (.int .i64 4) := by rw [← hw8]; rw [cell_of_row Z10.out]; rfl
        have q1 : (w7.alloc (.cells #[.int .i64 4, .slice (some ⟨gQ, oQ, none⟩) 3 capQ] 24)).cell? ⟨w7.heap.size, 1, none⟩ = some (.slice (some ⟨gQ, oQ, none⟩) 3 capQ) := by rw [← hw8]; rw [cell_of_row Z10.out]; rfl
        have q2 : (w7.alloc (.cells #[.int .i64 4, .slice (some ⟨gQ, oQ, none⟩) 3 capQ] 24)).cell? ⟨w2.heap.size, 0, none⟩ = some (.int .i64 r.y) := by rw [← hw8]; rw [cell_of_row X10.out]; rfl
        obtain ⟨w11, hw11⟩ : ∃ w11, w11 = w8.alloc (.cells #[.int .i64 (r.y), .int .i64 (b), .int .i64 (c)] 3) := ⟨_, rfl⟩
        have HU11 := hid (show Below w8.heap.size w8 w11 by rw [hw11]; exact up_alloc _ _)
        have R11 := hid (show w11.heap[w8.heap.size]? = some (.cells #[.int .i64 (r.y), .int .i64 (b), .int .i64 (c)] 3) by rw [hw11]; exact new_row _ _)
        have HC := hid (rcmp_any ⟨4, [r.y, b, c]⟩ ⟨4, [r.y, b, c]⟩ _ _ w11 ⟨_, rfl, HFQ10.out.on HU11.out⟩ ⟨_, rfl, IA.at [r.y, b, c] R11.out (by simp)⟩)
        rw [cmpV_self] at HC
        go_wp2_with fail
        rw [← hw8, ← Hsw8.out, ← hw11]
        refine HC.out.mono ?_
        rintro e w12 ⟨rfl, hb12⟩
        have HB12 := hid (up_trans (up_trans HB10.out HU11.out) hb12)
        clear hb12 hw11 HC q0 q1 q2 hw8
        go_wp2
        go_ret
        exact ⟨rfl, HB12.out⟩
      | true =>
        go_enter Tryd.func10, Tryd.ntmps10
        go_wp2_with fail
        refine HK.out.mono ?_
        rintro e w1 ⟨rfl, hb1⟩
        have HB1 := hid hb1
        clear hb1 HK
        go_wp2_with fail
        refine (H1.out _).mono ?_
        rintro e wn ⟨rfl, hw⟩
        obtain rfl := hw.symm
        clear hw
        go_wp2_with fail
        refine (H2.out _).mono ?_
        rintro e wn ⟨rfl, hw⟩
        obtain rfl := hw.symm
        clear hw
        go_wp2_with fail
        refine (H3.out _).mono ?_
        rintro e wn ⟨rfl, hw⟩
        obtain rfl := hw.symm
        clear hw
        clear H1 H2 H3
        go_wp2_with fail
        refine (HR.out _).mono ?_
        rintro e w2 ⟨rfl, hb2⟩
        have HB2 := hid (up_trans HB1.out hb2)
        clear hb2 HR
        obtain ⟨w4, hw4⟩ : ∃ w4, w4 = (((((((w2.alloc (.cells #[.int .i64 r.y, .int .i64 r.m, .int .i64 r.d, .int .i64 r.h, .int .i64 r.i, .int .i64 r.s] 31)).alloc (.cells #[.int .i64 (b), .int .i64 (2)] 3)).alloc (.cells #[.int .i64 2, .slice (some ⟨w2.heap.size + 1 + 1 + 1, 0, none⟩) 1 1] 24)).alloc (.cells #[.int .i64 (b)] 3)).alloc (.cells #[.int .i64 (a), .int .i64 (4)] 3)).alloc (.cells #[.int .i64 (c), .int .i64 (2)] 3)).alloc (.cells #[.int .i64 1, .slice (some ⟨w2.heap.size + 1 + 1 + 1 + 1, 0, none⟩) 2 2, .int .i64 2, .slice (some ⟨w2.heap.size + 1 + 1 + 1, 0, none⟩) 1 1, .int .i64 1, .slice (some ⟨w2.heap.size + 1 + 1 + 1 + 1 + 1, 0, none⟩) 2 2] 24)).alloc (.cells #[.int .i64 (0), .int .i64 (1), .int .i64 (2)] 3) := ⟨_, rfl⟩
        obtain ⟨hc, hb, hsw4⟩ := chain_heap w2 [.cells #[.int .i64 r.y, .int .i64 r.m, .int .i64 r.d, .int .i64 r.h, .int .i64 r.i, .int .i64 r.s] 31, .cells #[.int .i64 (b), .int .i64 (2)] 3, .cells #[.int .i64 2, .slice (some ⟨w2.heap.size + 1 + 1 + 1, 0, none⟩) 1 1] 24, .cells #[.int .i64 (b)] 3, .cells #[.int .i64 (a), .int .i64 (4)] 3, .cells #[.int .i64 (c), .int .i64 (2)] 3, .cells #[.int .i64 1, .slice (some ⟨w2.heap.size + 1 + 1 + 1 + 1, 0, none⟩) 2 2, .int .i64 2, .slice (some ⟨w2.heap.size + 1 + 1 + 1, 0, none⟩) 1 1, .int .i64 1, .slice (some ⟨w2.heap.size + 1 + 1 + 1 + 1 + 1, 0, none⟩) 2 2] 24, .cells #[.int .i64 (0), .int .i64 (1), .int .i64 (2)] 3]
        simp only [List.foldl_cons, List.foldl_nil] at hc hb hsw4
        rw [← hw4] at hc hb hsw4
        have hw4_0 := hid (show w4.heap[w2.heap.size]? = some _ from hc 0 _ rfl)
        have hw4_1 := hid (hc 1 _ rfl)
        have hw4_2 := hid (hc 2 _ rfl)
        have hw4_3 := hid (hc 3 _ rfl)
        have hw4_4 := hid (hc 4 _ rfl)
        have hw4_5 := hid (hc 5 _ rfl)
        have hw4_6 := hid (hc 6 _ rfl)
        have hw4_7 := hid (hc 7 _ rfl)
        have HBw4 := hid hb
        have Hsw4 := hid (show w4.heap.size = w2.heap.size + 8 from hsw4)
        clear hc hb hsw4
        have HP := hid (IA.at [0, 1, 2] hw4_7.out (by simp))
        have HL := hid (LA.three hw4_6.out (IA.at [a, 4] hw4_4.out (by simp)) (IA.at [b] hw4_3.out (by simp)) (IA.at [c, 2] hw4_5.out (by simp)))
        have HB4 := hid (up_trans HB2.out HBw4.out)
        have X4 := hid hw4_0.out
        have t0 : ((((((((w2.alloc (.cells #[.int .i64 r.y, .int .i64 r.m, .int .i64 r.d, .int .i64 r.h, .int .i64 r.i, .int .i64 r.s] 31)).alloc (.cells #[.int .i64 (b), .int .i64 (2)] 3)).alloc (.cells #[.int .i64 2, .slice (some ⟨w2.heap.size + 1 + 1 + 1, 0, none⟩) 1 1] 24)).alloc (.cells #[.int .i64 (b)] 3)).alloc (.cells #[.int .i64 (a), .int .i64 (4)] 3)).alloc (.cells #[.int .i64 (c), .int .i64 (2)] 3)).alloc (.cells #[.int .i64 1, .slice (some ⟨w2.heap.size + 1 + 1 + 1 + 1, 0, none⟩) 2 2, .int .i64 2, .slice (some ⟨w2.heap.size + 1 + 1 + 1, 0, none⟩) 1 1, .int .i64 1, .slice (some ⟨w2.heap.size + 1 + 1 + 1 + 1 + 1, 0, none⟩) 2 2] 24)).alloc (.cells #[.int .i64 (0), .int .i64 (1), .int .i64 (2)] 3)).cell? ⟨w2.heap.size, 0, none⟩ = some (.int .i64 r.y) := by rw [← hw4, cell_of_row X4.out]; rfl
        have t1 : ((((((((w2.alloc (.cells #[.int .i64 r.y, .int .i64 r.m, .int .i64 r.d, .int .i64 r.h, .int .i64 r.i, .int .i64 r.s] 31)).alloc (.cells #[.int .i64 (b), .int .i64 (2)] 3)).alloc (.cells #[.int .i64 2, .slice (some ⟨w2.heap.size + 1 + 1 + 1, 0, none⟩) 1 1] 24)).alloc (.cells #[.int .i64 (b)] 3)).alloc (.cells #[.int .i64 (a), .int .i64 (4)] 3)).alloc (.cells #[.int .i64 (c), .int .i64 (2)] 3)).alloc (.cells #[.int .i64 1, .slice (some ⟨w2.heap.size + 1 + 1 + 1 + 1, 0, none⟩) 2 2, .int .i64 2, .slice (some ⟨w2.heap.size + 1 + 1 + 1, 0, none⟩) 1 1, .int .i64 1, .slice (some ⟨w2.heap.size + 1 + 1 + 1 + 1 + 1, 0, none⟩) 2 2] 24)).alloc (.cells #[.int .i64 (0), .int .i64 (1), .int .i64 (2)] 3)).cell? ⟨w2.heap.size, 1, none⟩ = some (.int .i64 r.m) := by rw [← hw4, cell_of_row X4.out]; rfl
        have t2 : ((((((((w2.alloc (.cells #[.int .i64 r.y, .int .i64 r.m, .int .i64 r.d, .int .i64 r.h, .int .i64 r.i, .int .i64 r.s] 31)).alloc (.cells #[.int .i64 (b), .int .i64 (2)] 3)).alloc (.cells #[.int .i64 2, .slice (some ⟨w2.heap.size + 1 + 1 + 1, 0, none⟩) 1 1] 24)).alloc (.cells #[.int .i64 (b)] 3)).alloc (.cells #[.int .i64 (a), .int .i64 (4)] 3)).alloc (.cells #[.int .i64 (c), .int .i64 (2)] 3)).alloc (.cells #[.int .i64 1, .slice (some ⟨w2.heap.size + 1 + 1 + 1 + 1, 0, none⟩) 2 2, .int .i64 2, .slice (some ⟨w2.heap.size + 1 + 1 + 1, 0, none⟩) 1 1, .int .i64 1, .slice (some ⟨w2.heap.size + 1 + 1 + 1 + 1 + 1, 0, none⟩) 2 2] 24)).alloc (.cells #[.int .i64 (0), .int .i64 (1), .int .i64 (2)] 3)).cell? ⟨w2.heap.size, 2, none⟩ = some (.int .i64 r.d) := by rw [← hw4, cell_of_row X4.out]; rfl
        have t3 : ((((((((w2.alloc (.cells #[.int .i64 r.y, .int .i64 r.m, .int .i64 r.d, .int .i64 r.h, .int .i64 r.i, .int .i64 r.s] 31)).alloc (.cells #[.int .i64 (b), .int .i64 (2)] 3)).alloc (.cells #[.int .i64 2, .slice (some ⟨w2.heap.size + 1 + 1 + 1, 0, none⟩) 1 1] 24)).alloc (.cells #[.int .i64 (b)] 3)).alloc (.cells #[.int .i64 (a), .int .i64 (4)] 3)).alloc (.cells #[.int .i64 (c), .int .i64 (2)] 3)).alloc (.cells #[.int .i64 1, .slice (some ⟨w2.heap.size + 1 + 1 + 1 + 1, 0, none⟩) 2 2, .int .i64 2, .slice (some ⟨w2.heap.size + 1 + 1 + 1, 0, none⟩) 1 1, .int .i64 1, .slice (some ⟨w2.heap.size + 1 + 1 + 1 + 1 + 1, 0, none⟩) 2 2] 24)).alloc (.cells #[.int .i64 (0), .int .i64 (1), .int .i64 (2)] 3)).cell? ⟨w2.heap.size, 3, none⟩ = some (.int .i64 r.h) := by rw [← hw4, cell_of_row X4.out]; rfl
        have t4 : ((((((((w2.alloc (.cells #[.int .i64 r.y, .int .i64 r.m, .int .i64 r.d, .int .i64 r.h, .int .i64 r.i, .int .i64 r.s] 31)).alloc (.cells #[.int .i64 (b), .int .i64 (2)] 3)).alloc (.cells #[.int .i64 2, .slice (some ⟨w2.heap.size + 1 + 1 + 1, 0, none⟩) 1 1] 24)).alloc (.cells #[.int .i64 (b)] 3)).alloc (.cells #[.int .i64 (a), .int .i64 (4)] 3)).alloc (.cells #[.int .i64 (c), .int .i64 (2)] 3)).alloc (.cells #[.int .i64 1, .slice (some ⟨w2.heap.size + 1 + 1 + 1 + 1, 0, none⟩) 2 2, .int .i64 2, .slice (some ⟨w2.heap.size + 1 + 1 + 1, 0, none⟩) 1 1, .int .i64 1, .slice (some ⟨w2.heap.size + 1 + 1 + 1 + 1 + 1, 0, none⟩) 2 2] 24)).alloc (.cells #[.int .i64 (0), .int .i64 (1), .int .i64 (2)] 3)).cell? ⟨w2.heap.size, 4, none⟩ = some (.int .i64 r.i) := by rw [← hw4, cell_of_row X4.out]; rfl
        have t5 : ((((((((w2.alloc (.cells #[.int .i64 r.y, .int .i64 r.m, .int .i64 r.d, .int .i64 r.h, .int .i64 r.i, .int .i64 r.s] 31)).alloc (.cells #[.int .i64 (b), .int .i64 (2)] 3)).alloc (.cells #[.int .i64 2, .slice (some ⟨w2.heap.size + 1 + 1 + 1, 0, none⟩) 1 1] 24)).alloc (.cells #[.int .i64 (b)] 3)).alloc (.cells #[.int .i64 (a), .int .i64 (4)] 3)).alloc (.cells #[.int .i64 (c), .int .i64 (2)] 3)).alloc (.cells #[.int .i64 1, .slice (some ⟨w2.heap.size + 1 + 1 + 1 + 1, 0, none⟩) 2 2, .int .i64 2, .slice (some ⟨w2.heap.size + 1 + 1 + 1, 0, none⟩) 1 1, .int .i64 1, .slice (some ⟨w2.heap.size + 1 + 1 + 1 + 1 + 1, 0, none⟩) 2 2] 24)).alloc (.cells #[.int .i64 (0), .int .i64 (1), .int .i64 (2)] 3)).cell? ⟨w2.heap.size, 5, none⟩ = some (.int .i64 r.s) := by rw [← hw4, cell_of_row X4.out]; rfl
        have HD := hid (made_any (p := p) 1 r [(⟨1, [a, 4]⟩ : Val), (⟨2, [b]⟩ : Val), ⟨1, [c, 2]⟩] [0, 1, 2] _ _ w4 (by decide) HP.out HL.out (HT.out.on HB4.out) (by intro q hq; simp at hq; rcases hq with rfl | rfl | rfl <;> simp) trivial HRR.out)
        rw [show doO 1 (madeO 1 r (List.map (fun (q : Int) => [(⟨1, [a, 4]⟩ : Val), (⟨2, [b]⟩ : Val), ⟨1, [c, 2]⟩].getD q.toNat nilVal) [0, 1, 2])) = _ from hm1] at HD
        unfold momV at HD
        clear hw4_0 hw4_1 hw4_2 hw4_3 hw4_4 hw4_5 hw4_6 hw4_7 HP hm1
        go_wp2_with fail
        rw [← hw4]
        refine HD.out.mono ?_
        rintro e w5 ⟨hb5, hr⟩
        have HB5 := hid (up_trans HB4.out hb5)
        have X5 := hid ((hb5.block w2.heap.size (by have := Hsw4.out; omega)).trans X4.out)
        have HL5 := hid (HL.out.on hb5)
        clear hb5 HD hw4 t0 t1 t2 t3 t4 t5 X4 HL
        rw [if_neg h1] at hr
        obtain rfl : e = .returned noneV := hr
        unfold noneV
        obtain ⟨w6, hw6⟩ : ∃ w6, w6 = (w5.alloc (.cells #[.int .i64 0, .slice none 0 0] 24)).alloc (.cells #[.int .i64 (1), .int .i64 (2)] 3) := ⟨_, rfl⟩
        obtain ⟨hc, hb, hsw6⟩ := chain_heap w5 [.cells #[.int .i64 0, .slice none 0 0] 24, .cells #[.int .i64 (1), .int .i64 (2)] 3]
        simp only [List.foldl_cons, List.foldl_nil] at hc hb hsw6
        rw [← hw6] at hc hb hsw6
        have hw6_0 := hid (show w6.heap[w5.heap.size]? = some _ from hc 0 _ rfl)
        have hw6_1 := hid (hc 1 _ rfl)
        have HBw6 := hid hb
        have Hsw6 := hid (show w6.heap.size = w5.heap.size + 2 from hsw6)
        clear hc hb hsw6
        have HB6 := hid (up_trans HB5.out HBw6.out)
        have X6 := hid ((HBw6.out.block w2.heap.size (Array.getElem?_eq_some_iff.1 X5.out).1).trans X5.out)
        have HL6 := hid (HL5.out.on HBw6.out)
        have HP := hid (IA.at [1, 2] hw6_1.out (by simp))
        have Y6 := hid hw6_0.out
        have t0 : ((w5.alloc (.cells #[.int .i64 0, .slice none 0 0] 24)).alloc (.cells #[.int .i64 (1), .int .i64 (2)] 3)).cell? ⟨w2.heap.size, 0, none⟩ = some (.int .i64 r.y) := by rw [← hw6, cell_of_row X6.out]; rfl
        have t1 : ((w5.alloc (.cells #[.int .i64 0, .slice none 0 0] 24)).alloc (.cells #[.int .i64 (1), .int .i64 (2)] 3)).cell? ⟨w2.heap.size, 1, none⟩ = some (.int .i64 r.m) := by rw [← hw6, cell_of_row X6.out]; rfl
        have t2 : ((w5.alloc (.cells #[.int .i64 0, .slice none 0 0] 24)).alloc (.cells #[.int .i64 (1), .int .i64 (2)] 3)).cell? ⟨w2.heap.size, 2, none⟩ = some (.int .i64 r.d) := by rw [← hw6, cell_of_row X6.out]; rfl
        have t3 : ((w5.alloc (.cells #[.int .i64 0, .slice none 0 0] 24)).alloc (.cells #[.int .i64 (1), .int .i64 (2)] 3)).cell? ⟨w2.heap.size, 3, none⟩ = some (.int .i64 r.h) := by rw [← hw6, cell_of_row X6.out]; rfl
        have t4 : ((w5.alloc (.cells #[.int .i64 0, .slice none 0 0] 24)).alloc (.cells #[.int .i64 (1), .int .i64 (2)] 3)).cell? ⟨w2.heap.size, 4, none⟩ = some (.int .i64 r.i) := by rw [← hw6, cell_of_row X6.out]; rfl
        have t5 : ((w5.alloc (.cells #[.int .i64 0, .slice none 0 0] 24)).alloc (.cells #[.int .i64 (1), .int .i64 (2)] 3)).cell? ⟨w2.heap.size, 5, none⟩ = some (.int .i64 r.s) := by rw [← hw6, cell_of_row X6.out]; rfl
        have HD := hid (made_any (p := p) 2 r [(⟨1, [a, 4]⟩ : Val), (⟨2, [b]⟩ : Val), ⟨1, [c, 2]⟩] [1, 2] _ _ w6 (by decide) HP.out HL6.out (HT.out.on HB6.out) (by intro q hq; simp at hq; rcases hq with rfl | rfl <;> simp) trivial HRR.out)
        rw [show doO 2 (madeO 2 r (List.map (fun (q : Int) => [(⟨1, [a, 4]⟩ : Val), (⟨2, [b]⟩ : Val), ⟨1, [c, 2]⟩].getD q.toNat nilVal) [1, 2])) = _ from hm2] at HD
        unfold momV at HD
        clear hw6_0 hw6_1 HP hm2 X5 HL5
        go_wp2_with fail
        rw [← hw6]
        refine HD.out.mono ?_
        rintro e w7 ⟨hb7, hr⟩
        have HB7 := hid (up_trans HB6.out hb7)
        have X7 := hid ((hb7.block w2.heap.size (Array.getElem?_eq_some_iff.1 X6.out).1).trans X6.out)
        have Y7 := hid ((hb7.block w5.heap.size (Array.getElem?_eq_some_iff.1 Y6.out).1).trans Y6.out)
        clear hb7 HD hw6 t0 t1 t2 t3 t4 t5 X6 HL6 Y6
        rw [if_pos h2] at hr
        obtain ⟨vQ, rfl, hvQ⟩ := hr
        obtain ⟨fQ, rfl, hfQ⟩ := hvQ
        have HFQ := hid hfQ.ia
        obtain ⟨gQ, oQ, capQ, rfl, hcQ, hmQ, hlQ⟩ := hfQ.ia.has3
        clear hfQ
        dsimp only at *
        obtain ⟨w8, hw8⟩ : ∃ w8, w8 = w7.alloc (.cells #[.int .i64 4, .slice (some ⟨gQ, oQ, none⟩) 3 capQ] 24) := ⟨_, rfl⟩
        obtain ⟨hc, hb, hsw8⟩ := chain_heap w7 [.cells #[.int .i64 4, .slice (some ⟨gQ, oQ, none⟩) 3 capQ] 24]
        simp only [List.foldl_cons, List.foldl_nil] at hc hb hsw8
        rw [← hw8] at hc hb hsw8
        have hw8_0 := hid (show w8.heap[w7.heap.size]? = some _ from hc 0 _ rfl)
        have HBw8 := hid hb
        have Hsw8 := hid (show w8.heap.size = w7.heap.size + 1 from hsw8)
        clear hc hb hsw8
        have HB8 := hid (up_trans HB7.out HBw8.out)
        have X8 := hid ((HBw8.out.block w2.heap.size (Array.getElem?_eq_some_iff.1 X7.out).1).trans X7.out)
        have Y8 := hid ((HBw8.out.block w5.heap.size (Array.getElem?_eq_some_iff.1 Y7.out).1).trans Y7.out)
        have Z8 := hid hw8_0.out
        have u0 : (w7.alloc (.cells #[.int .i64 4, .slice (some ⟨gQ, oQ, none⟩) 3 capQ] 24)).cell? ⟨w2.heap.size, 0, none⟩ = some (.int .i64 r.y) := by rw [← hw8, cell_of_row X8.out]; rfl
        have HFQ8 := hid (HFQ.out.on HBw8.out)
        have HD1 := hid fun w => HD1.out w
        have HD2 := hid fun w => HD2.out w
        rw [Bool.eq_false_iff.2 h1] at HD1
        rw [h2] at HD2
        clear hw8_0 X7 Y7
        go_wp2_with fail
        refine (HD1.out _).mono ?_
        rintro e wn ⟨rfl, hw⟩
        obtain rfl := hw.symm
        clear hw
        go_wp2_with fail
        refine (HD2.out _).mono ?_
        rintro e wn ⟨rfl, hw⟩
        obtain rfl := hw.symm
        clear hw
        clear HD1 HD2 u0
        have X10 := hid X8.out
        have Z10 := hid Z8.out
        have HB10 := hid HB8.out
        have HFQ10 := hid HFQ8.out
        have q0 : (w7.alloc (.cells #[.int .i64 4, .slice (some ⟨gQ, oQ, none⟩) 3 capQ] 24)).cell? ⟨w7.heap.size, 0, none⟩ = some (.int .i64 4) := by rw [← hw8]; rw [cell_of_row Z10.out]; rfl
        have q1 : (w7.alloc (.cells #[.int .i64 4, .slice (some ⟨gQ, oQ, none⟩) 3 capQ] 24)).cell? ⟨w7.heap.size, 1, none⟩ = some (.slice (some ⟨gQ, oQ, none⟩) 3 capQ) := by rw [← hw8]; rw [cell_of_row Z10.out]; rfl
        have q2 : (w7.alloc (.cells #[.int .i64 4, .slice (some ⟨gQ, oQ, none⟩) 3 capQ] 24)).cell? ⟨w2.heap.size, 0, none⟩ = some (.int .i64 r.y) := by rw [← hw8]; rw [cell_of_row X10.out]; rfl
        obtain ⟨w11, hw11⟩ : ∃ w11, w11 = w8.alloc (.cells #[.int .i64 (r.y), .int .i64 (b), .int .i64 (c)] 3) := ⟨_, rfl⟩
        have HU11 := hid (show Below w8.heap.size w8 w11 by rw [hw11]; exact up_alloc _ _)
        have R11 := hid (show w11.heap[w8.heap.size]? = some (.cells #[.int .i64 (r.y), .int .i64 (b), .int .i64 (c)] 3) by rw [hw11]; exact new_row _ _)
        have HC := hid (rcmp_any ⟨4, [r.y, b, c]⟩ ⟨4, [r.y, b, c]⟩ _ _ w11 ⟨_, rfl, HFQ10.out.on HU11.out⟩ ⟨_, rfl, IA.at [r.y, b, c] R11.out (by simp)⟩)
        rw [cmpV_self] at HC
        go_wp2_with fail
        rw [← hw8, ← Hsw8.out, ← hw11]
        refine HC.out.mono ?_
        rintro e w12 ⟨rfl, hb12⟩
        have HB12 := hid (up_trans (up_trans HB10.out HU11.out) hb12)
        clear hb12 hw11 HC q0 q1 q2 hw8
        go_wp2
        go_ret
        exact ⟨rfl, HB12.out⟩
    case neg =>
      cases word with
      | false =>
        go_enter Tryd.func10, Tryd.ntmps10
        go_wp2_with fail
        refine HK.out.mono ?_
        rintro e w1 ⟨rfl, hb1⟩
        have HB1 := hid hb1
        clear hb1 HK
        go_wp2_with fail
        refine (H1.out _).mono ?_
        rintro e wn ⟨rfl, hw⟩
        obtain rfl := hw.symm
        clear hw
        go_wp2_with fail
        refine (H2.out _).mono ?_
        rintro e wn ⟨rfl, hw⟩
        obtain rfl := hw.symm
        clear hw
        go_wp2_with fail
        refine (H3.out _).mono ?_
        rintro e wn ⟨rfl, hw⟩
        obtain rfl := hw.symm
        clear hw
        clear H1 H2 H3
        go_wp2_with fail
        refine (HR.out _).mono ?_
        rintro e w2 ⟨rfl, hb2⟩
        have HB2 := hid (up_trans HB1.out hb2)
        clear hb2 HR
        obtain ⟨w4, hw4⟩ : ∃ w4, w4 = ((((((w2.alloc (.cells #[.int .i64 r.y, .int .i64 r.m, .int .i64 r.d, .int .i64 r.h, .int .i64 r.i, .int .i64 r.s] 31)).alloc (.cells #[.int .i64 (b), .int .i64 (2)] 3)).alloc (.cells #[.int .i64 1, .slice (some ⟨w2.heap.size + 1, 0, none⟩) 2 2] 24)).alloc (.cells #[.int .i64 (a), .int .i64 (4)] 3)).alloc (.cells #[.int .i64 (c), .int .i64 (2)] 3)).alloc (.cells #[.int .i64 1, .slice (some ⟨w2.heap.size + 1 + 1 + 1, 0, none⟩) 2 2, .int .i64 1, .slice (some ⟨w2.heap.size + 1, 0, none⟩) 2 2, .int .i64 1, .slice (some ⟨w2.heap.size + 1 + 1 + 1 + 1, 0, none⟩) 2 2] 24)).alloc (.cells #[.int .i64 (0), .int .i64 (1), .int .i64 (2)] 3) := ⟨_, rfl⟩
        obtain ⟨hc, hb, hsw4⟩ := chain_heap w2 [.cells #[.int .i64 r.y, .int .i64 r.m, .int .i64 r.d, .int .i64 r.h, .int .i64 r.i, .int .i64 r.s] 31, .cells #[.int .i64 (b), .int .i64 (2)] 3, .cells #[.int .i64 1, .slice (some ⟨w2.heap.size + 1, 0, none⟩) 2 2] 24, .cells #[.int .i64 (a), .int .i64 (4)] 3, .cells #[.int .i64 (c), .int .i64 (2)] 3, .cells #[.int .i64 1, .slice (some ⟨w2.heap.size + 1 + 1 + 1, 0, none⟩) 2 2, .int .i64 1, .slice (some ⟨w2.heap.size + 1, 0, none⟩) 2 2, .int .i64 1, .slice (some ⟨w2.heap.size + 1 + 1 + 1 + 1, 0, none⟩) 2 2] 24, .cells #[.int .i64 (0), .int .i64 (1), .int .i64 (2)] 3]
        simp only [List.foldl_cons, List.foldl_nil] at hc hb hsw4
        rw [← hw4] at hc hb hsw4
        have hw4_0 := hid (show w4.heap[w2.heap.size]? = some _ from hc 0 _ rfl)
        have hw4_1 := hid (hc 1 _ rfl)
        have hw4_2 := hid (hc 2 _ rfl)
        have hw4_3 := hid (hc 3 _ rfl)
        have hw4_4 := hid (hc 4 _ rfl)
        have hw4_5 := hid (hc 5 _ rfl)
        have hw4_6 := hid (hc 6 _ rfl)
        have HBw4 := hid hb
        have Hsw4 := hid (show w4.heap.size = w2.heap.size + 7 from hsw4)
        clear hc hb hsw4
        have HP := hid (IA.at [0, 1, 2] hw4_6.out (by simp))
        have HL := hid (LA.three hw4_5.out (IA.at [a, 4] hw4_3.out (by simp)) (IA.at [b, 2] hw4_1.out (by simp)) (IA.at [c, 2] hw4_4.out (by simp)))
        have HB4 := hid (up_trans HB2.out HBw4.out)
        have X4 := hid hw4_0.out
        have t0 : (((((((w2.alloc (.cells #[.int .i64 r.y, .int .i64 r.m, .int .i64 r.d, .int .i64 r.h, .int .i64 r.i, .int .i64 r.s] 31)).alloc (.cells #[.int .i64 (b), .int .i64 (2)] 3)).alloc (.cells #[.int .i64 1, .slice (some ⟨w2.heap.size + 1, 0, none⟩) 2 2] 24)).alloc (.cells #[.int .i64 (a), .int .i64 (4)] 3)).alloc (.cells #[.int .i64 (c), .int .i64 (2)] 3)).alloc (.cells #[.int .i64 1, .slice (some ⟨w2.heap.size + 1 + 1 + 1, 0, none⟩) 2 2, .int .i64 1, .slice (some ⟨w2.heap.size + 1, 0, none⟩) 2 2, .int .i64 1, .slice (some ⟨w2.heap.size + 1 + 1 + 1 + 1, 0, none⟩) 2 2] 24)).alloc (.cells #[.int .i64 (0), .int .i64 (1), .int .i64 (2)] 3)).cell? ⟨w2.heap.size, 0, none⟩ = some (.int .i64 r.y) := by rw [← hw4, cell_of_row X4.out]; rfl
        have t1 : (((((((w2.alloc (.cells #[.int .i64 r.y, .int .i64 r.m, .int .i64 r.d, .int .i64 r.h, .int .i64 r.i, .int .i64 r.s] 31)).alloc (.cells #[.int .i64 (b), .int .i64 (2)] 3)).alloc (.cells #[.int .i64 1, .slice (some ⟨w2.heap.size + 1, 0, none⟩) 2 2] 24)).alloc (.cells #[.int .i64 (a), .int .i64 (4)] 3)).alloc (.cells #[.int .i64 (c), .int .i64 (2)] 3)).alloc (.cells #[.int .i64 1, .slice (some ⟨w2.heap.size + 1 + 1 + 1, 0, none⟩) 2 2, .int .i64 1, .slice (some ⟨w2.heap.size + 1, 0, none⟩) 2 2, .int .i64 1, .slice (some ⟨w2.heap.size + 1 + 1 + 1 + 1, 0, none⟩) 2 2] 24)).alloc (.cells #[.int .i64 (0), .int .i64 (1), .int .i64 (2)] 3)).cell? ⟨w2.heap.size, 1, none⟩ = some (.int .i64 r.m) := by rw [← hw4, cell_of_row X4.out]; rfl
        have t2 : (((((((w2.alloc (.cells #[.int .i64 r.y, .int .i64 r.m, .int .i64 r.d, .int .i64 r.h, .int .i64 r.i, .int .i64 r.s] 31)).alloc (.cells #[.int .i64 (b), .int .i64 (2)] 3)).alloc (.cells #[.int .i64 1, .slice (some ⟨w2.heap.size + 1, 0, none⟩) 2 2] 24)).alloc (.cells #[.int .i64 (a), .int .i64 (4)] 3)).alloc (.cells #[.int .i64 (c), .int .i64 (2)] 3)).alloc (.cells #[.int .i64 1, .slice (some ⟨w2.heap.size + 1 + 1 + 1, 0, none⟩) 2 2, .int .i64 1, .slice (some ⟨w2.heap.size + 1, 0, none⟩) 2 2, .int .i64 1, .slice (some ⟨w2.heap.size + 1 + 1 + 1 + 1, 0, none⟩) 2 2] 24)).alloc (.cells #[.int .i64 (0), .int .i64 (1), .int .i64 (2)] 3)).cell? ⟨w2.heap.size, 2, none⟩ = some (.int .i64 r.d) := by rw [← hw4, cell_of_row X4.out]; rfl
        have t3 : (((((((w2.alloc (.cells #[.int .i64 r.y, .int .i64 r.m, .int .i64 r.d, .int .i64 r.h, .int .i64 r.i, .int .i64 r.s] 31)).alloc (.cells #[.int .i64 (b), .int .i64 (2)] 3)).alloc (.cells #[.int .i64 1, .slice (some ⟨w2.heap.size + 1, 0, none⟩) 2 2] 24)).alloc (.cells #[.int .i64 (a), .int .i64 (4)] 3)).alloc (.cells #[.int .i64 (c), .int .i64 (2)] 3)).alloc (.cells #[.int .i64 1, .slice (some ⟨w2.heap.size + 1 + 1 + 1, 0, none⟩) 2 2, .int .i64 1, .slice (some ⟨w2.heap.size + 1, 0, none⟩) 2 2, .int .i64 1, .slice (some ⟨w2.heap.size + 1 + 1 + 1 + 1, 0, none⟩) 2 2] 24)).alloc (.cells #[.int .i64 (0), .int .i64 (1), .int .i64 (2)] 3)).cell? ⟨w2.heap.size, 3, none⟩ = some (.int .i64 r.h) := by rw [← hw4, cell_of_row X4.out]; rfl
        have t4 : (((((((w2.alloc (.cells #[.int .i64 r.y, .int .i64 r.m, .int .i64 r.d, .int .i64 r.h, .int .i64 r.i, .int .i64 r.s] 31)).alloc (.cells #[.int .i64 (b), .int .i64 (2)] 3)).alloc (.cells #[.int .i64 1, .slice (some ⟨w2.heap.size + 1, 0, none⟩) 2 2] 24)).alloc (.cells #[.int .i64 (a), .int .i64 (4)] 3)).alloc (.cells #[.int .i64 (c), .int .i64 (2)] 3)).alloc (.cells #[.int .i64 1, .slice (some ⟨w2.heap.size + 1 + 1 + 1, 0, none⟩) 2 2, .int .i64 1, .slice (some ⟨w2.heap.size + 1, 0, none⟩) 2 2, .int .i64 1, .slice (some ⟨w2.heap.size + 1 + 1 + 1 + 1, 0, none⟩) 2 2] 24)).alloc (.cells #[.int .i64 (0), .int .i64 (1), .int .i64 (2)] 3)).cell? ⟨w2.heap.size, 4, none⟩ = some (.int .i64 r.i) := by rw [← hw4, cell_of_row X4.out]; rfl
        have t5 : (((((((w2.alloc (.cells #[.int .i64 r.y, .int .i64 r.m, .int .i64 r.d, .int .i64 r.h, .int .i64 r.i, .int .i64 r.s] 31)).alloc (.cells #[.int .i64 (b), .int .i64 (2)] 3)).alloc (.cells #[.int .i64 1, .slice (some ⟨w2.heap.size + 1, 0, none⟩) 2 2] 24)).alloc (.cells #[.int .i64 (a), .int .i64 (4)] 3)).alloc (.cells #[.int .i64 (c), .int .i64 (2)] 3)).alloc (.cells #[.int .i64 1, .slice (some ⟨w2.heap.size + 1 + 1 + 1, 0, none⟩) 2 2, .int .i64 1, .slice (some ⟨w2.heap.size + 1, 0, none⟩) 2 2, .int .i64 1, .slice (some ⟨w2.heap.size + 1 + 1 + 1 + 1, 0, none⟩) 2 2] 24)).alloc (.cells #[.int .i64 (0), .int .i64 (1), .int .i64 (2)] 3)).cell? ⟨w2.heap.size, 5, none⟩ = some (.int .i64 r.s) := by rw [← hw4, cell_of_row X4.out]; rfl
        have HD := hid (made_any (p := p) 1 r [(⟨1, [a, 4]⟩ : Val), (⟨1, [b, 2]⟩ : Val), ⟨1, [c, 2]⟩] [0, 1, 2] _ _ w4 (by decide) HP.out HL.out (HT.out.on HB4.out) (by intro q hq; simp at hq; rcases hq with rfl | rfl | rfl <;> simp) trivial HRR.out)
        rw [show doO 1 (madeO 1 r (List.map (fun (q : Int) => [(⟨1, [a, 4]⟩ : Val), (⟨1, [b, 2]⟩ : Val), ⟨1, [c, 2]⟩].getD q.toNat nilVal) [0, 1, 2])) = _ from hm1] at HD
        unfold momV at HD
        clear hw4_0 hw4_1 hw4_2 hw4_3 hw4_4 hw4_5 hw4_6 HP hm1
        go_wp2_with fail
        rw [← hw4]
        refine HD.out.mono ?_
        rintro e w5 ⟨hb5, hr⟩
        have HB5 := hid (up_trans HB4.out hb5)
        have X5 := hid ((hb5.block w2.heap.size (by have := Hsw4.out; omega)).trans X4.out)
        have HL5 := hid (HL.out.on hb5)
        clear hb5 HD hw4 t0 t1 t2 t3 t4 t5 X4 HL
        rw [if_neg h1] at hr
        obtain rfl : e = .returned noneV := hr
        unfold noneV
        obtain ⟨w6, hw6⟩ : ∃ w6, w6 = (w5.alloc (.cells #[.int .i64 0, .slice none 0 0] 24)).alloc (.cells #[.int .i64 (1), .int .i64 (2)] 3) := ⟨_, rfl⟩
        obtain ⟨hc, hb, hsw6⟩ := chain_heap w5 [.cells #[.int .i64 0, .slice none 0 0] 24, .cells #[.int .i64 (1), .int .i64 (2)] 3]
        simp only [List.foldl_cons, List.foldl_nil] at hc hb hsw6
        rw [← hw6] at hc hb hsw6
        have hw6_0 := hid (show w6.heap[w5.heap.size]? = some _ from hc 0 _ rfl)
        have hw6_1 := hid (hc 1 _ rfl)
        have HBw6 := hid hb
        have Hsw6 := hid (show w6.heap.size = w5.heap.size + 2 from hsw6)
        clear hc hb hsw6
        have HB6 := hid (up_trans HB5.out HBw6.out)
        have X6 := hid ((HBw6.out.block w2.heap.size (Array.getElem?_eq_some_iff.1 X5.out).1).trans X5.out)
        have HL6 := hid (HL5.out.on HBw6.out)
        have HP := hid (IA.at [1, 2] hw6_1.out (by simp))
        have Y6 := hid hw6_0.out
        have t0 : ((w5.alloc (.cells #[.int .i64 0, .slice none 0 0] 24)).alloc (.cells #[.int .i64 (1), .int .i64 (2)] 3)).cell? ⟨w2.heap.size, 0, none⟩ = some (.int .i64 r.y) := by rw [← hw6, cell_of_row X6.out]; rfl
        have t1 : ((w5.alloc (.cells #[.int .i64 0, .slice none 0 0] 24)).alloc (.cells #[.int .i64 (1), .int .i64 (2)] 3)).cell? ⟨w2.heap.size, 1, none⟩ = some (.int .i64 r.m) := by rw [← hw6, cell_of_row X6.out]; rfl
        have t2 : ((w5.alloc (.cells #[.int .i64 0, .slice none 0 0] 24)).alloc (.cells #[.int .i64 (1), .int .i64 (2)] 3)).cell? ⟨w2.heap.size, 2, none⟩ = some (.int .i64 r.d) := by rw [← hw6, cell_of_row X6.out]; rfl
        have t3 : ((w5.alloc (.cells #[.int .i64 0, .slice none 0 0] 24)).alloc (.cells #[.int .i64 (1), .int .i64 (2)] 3)).cell? ⟨w2.heap.size, 3, none⟩ = some (.int .i64 r.h) := by rw [← hw6, cell_of_row X6.out]; rfl
        have t4 : ((w5.alloc (.cells #[.int .i64 0, .slice none 0 0] 24)).alloc (.cells #[.int .i64 (1), .int .i64 (2)] 3)).cell? ⟨w2.heap.size, 4, none⟩ = some (.int .i64 r.i) := by rw [← hw6, cell_of_row X6.out]; rfl
        have t5 : ((w5.alloc (.cells #[.int .i64 0, .slice none 0 0] 24)).alloc (.cells #[.int .i64 (1), .int .i64 (2)] 3)).cell? ⟨w2.heap.size, 5, none⟩ = some (.int .i64 r.s) := by rw [← hw6, cell_of_row X6.out]; rfl
        have HD := hid (made_any (p := p) 2 r [(⟨1, [a, 4]⟩ : Val), (⟨1, [b, 2]⟩ : Val), ⟨1, [c, 2]⟩] [1, 2] _ _ w6 (by decide) HP.out HL6.out (HT.out.on HB6.out) (by intro q hq; simp at hq; rcases hq with rfl | rfl <;> simp) trivial HRR.out)
        rw [show doO 2 (madeO 2 r (List.map (fun (q : Int) => [(⟨1, [a, 4]⟩ : Val), (⟨1, [b, 2]⟩ : Val), ⟨1, [c, 2]⟩].getD q.toNat nilVal) [1, 2])) = _ from hm2] at HD
        unfold momV at HD
        clear hw6_0 hw6_1 HP hm2 X5 HL5
        go_wp2_with fail
        rw [← hw6]
        refine HD.out.mono ?_
        rintro e w7 ⟨hb7, hr⟩
        have HB7 := hid (up_trans HB6.out hb7)
        have X7 := hid ((hb7.block w2.heap.size (Array.getElem?_eq_some_iff.1 X6.out).1).trans X6.out)
        have Y7 := hid ((hb7.block w5.heap.size (Array.getElem?_eq_some_iff.1 Y6.out).1).trans Y6.out)
        clear hb7 HD hw6 t0 t1 t2 t3 t4 t5 X6 HL6 Y6
        rw [if_neg h2] at hr
        obtain rfl : e = .returned noneV := hr
        unfold noneV
        obtain ⟨w8, hw8⟩ : ∃ w8, w8 = w7.alloc (.cells #[.int .i64 0, .slice none 0 0] 24) := ⟨_, rfl⟩
        obtain ⟨hc, hb, hsw8⟩ := chain_heap w7 [.cells #[.int .i64 0, .slice none 0 0] 24]
        simp only [List.foldl_cons, List.foldl_nil] at hc hb hsw8
        rw [← hw8] at hc hb hsw8
        have hw8_0 := hid (show w8.heap[w7.heap.size]? = some _ from hc 0 _ rfl)
        have HBw8 := hid hb
        have Hsw8 := hid (show w8.heap.size = w7.heap.size + 1 from hsw8)
        clear hc hb hsw8
        have HB8 := hid (up_trans HB7.out HBw8.out)
        have X8 := hid ((HBw8.out.block w2.heap.size (Array.getElem?_eq_some_iff.1 X7.out).1).trans X7.out)
        have Y8 := hid ((HBw8.out.block w5.heap.size (Array.getElem?_eq_some_iff.1 Y7.out).1).trans Y7.out)
        have Z8 := hid hw8_0.out
        have u0 : (w7.alloc (.cells #[.int .i64 0, .slice none 0 0] 24)).cell? ⟨w2.heap.size, 0, none⟩ = some (.int .i64 r.y) := by rw [← hw8, cell_of_row X8.out]; rfl
        have HD1 := hid fun w => HD1.out w
        have HD2 := hid fun w => HD2.out w
        rw [Bool.eq_false_iff.2 h1] at HD1
        rw [Bool.eq_false_iff.2 h2] at HD2
        clear hw8_0 X7 Y7
        go_wp2_with fail
        refine (HD1.out _).mono ?_
        rintro e wn ⟨rfl, hw⟩
        obtain rfl := hw.symm
        clear hw
        go_wp2_with fail
        refine (HD2.out _).mono ?_
        rintro e wn ⟨rfl, hw⟩
        obtain rfl := hw.symm
        clear hw
        clear HD1 HD2 u0
        have X10 := hid X8.out
        have Z10 := hid Z8.out
        have HB10 := hid HB8.out
        go_wp2
        go_ret
        exact ⟨rfl, by rw [← hw8]; exact HB8.out⟩
      | true =>
        go_enter Tryd.func10, Tryd.ntmps10
        go_wp2_with fail
        refine HK.out.mono ?_
        rintro e w1 ⟨rfl, hb1⟩
        have HB1 := hid hb1
        clear hb1 HK
        go_wp2_with fail
        refine (H1.out _).mono ?_
        rintro e wn ⟨rfl, hw⟩
        obtain rfl := hw.symm
        clear hw
        go_wp2_with fail
        refine (H2.out _).mono ?_
        rintro e wn ⟨rfl, hw⟩
        obtain rfl := hw.symm
        clear hw
        go_wp2_with fail
        refine (H3.out _).mono ?_
        rintro e wn ⟨rfl, hw⟩
        obtain rfl := hw.symm
        clear hw
        clear H1 H2 H3
        go_wp2_with fail
        refine (HR.out _).mono ?_
        rintro e w2 ⟨rfl, hb2⟩
        have HB2 := hid (up_trans HB1.out hb2)
        clear hb2 HR
        obtain ⟨w4, hw4⟩ : ∃ w4, w4 = (((((((w2.alloc (.cells #[.int .i64 r.y, .int .i64 r.m, .int .i64 r.d, .int .i64 r.h, .int .i64 r.i, .int .i64 r.s] 31)).alloc (.cells #[.int .i64 (b), .int .i64 (2)] 3)).alloc (.cells #[.int .i64 2, .slice (some ⟨w2.heap.size + 1 + 1 + 1, 0, none⟩) 1 1] 24)).alloc (.cells #[.int .i64 (b)] 3)).alloc (.cells #[.int .i64 (a), .int .i64 (4)] 3)).alloc (.cells #[.int .i64 (c), .int .i64 (2)] 3)).alloc (.cells #[.int .i64 1, .slice (some ⟨w2.heap.size + 1 + 1 + 1 + 1, 0, none⟩) 2 2, .int .i64 2, .slice (some ⟨w2.heap.size + 1 + 1 + 1, 0, none⟩) 1 1, .int .i64 1, .slice (some ⟨w2.heap.size + 1 + 1 + 1 + 1 + 1, 0, none⟩) 2 2] 24)).alloc (.cells #[.int .i64 (0), .int .i64 (1), .int .i64 (2)] 3) := ⟨_, rfl⟩
        obtain ⟨hc, hb, hsw4⟩ := chain_heap w2 [.cells #[.int .i64 r.y, .int .i64 r.m, .int .i64 r.d, .int .i64 r.h, .int .i64 r.i, .int .i64 r.s] 31, .cells #[.int .i64 (b), .int .i64 (2)] 3, .cells #[.int .i64 2, .slice (some ⟨w2.heap.size + 1 + 1 + 1, 0, none⟩) 1 1] 24, .cells #[.int .i64 (b)] 3, .cells #[.int .i64 (a), .int .i64 (4)] 3, .cells #[.int .i64 (c), .int .i64 (2)] 3, .cells #[.int .i64 1, .slice (some ⟨w2.heap.size + 1 + 1 + 1 + 1, 0, none⟩) 2 2, .int .i64 2, .slice (some ⟨w2.heap.size + 1 + 1 + 1, 0, none⟩) 1 1, .int .i64 1, .slice (some ⟨w2.heap.size + 1 + 1 + 1 + 1 + 1, 0, none⟩) 2 2] 24, .cells #[.int .i64 (0), .int .i64 (1), .int .i64 (2)] 3]
        simp only [List.foldl_cons, List.foldl_nil] at hc hb hsw4
        rw [← hw4] at hc hb hsw4
        have hw4_0 := hid (show w4.heap[w2.heap.size]? = some _ from hc 0 _ rfl)
        have hw4_1 := hid (hc 1 _ rfl)
        have hw4_2 := hid (hc 2 _ rfl)
        have hw4_3 := hid (hc 3 _ rfl)
        have hw4_4 := hid (hc 4 _ rfl)
        have hw4_5 := hid (hc 5 _ rfl)
        have hw4_6 := hid (hc 6 _ rfl)
        have hw4_7 := hid (hc 7 _ rfl)
        have HBw4 := hid hb
        have Hsw4 := hid (show w4.heap.size = w2.heap.size + 8 from hsw4)
        clear hc hb hsw4
        have HP := hid (IA.at [0, 1, 2] hw4_7.out (by simp))
        have HL := hid (LA.three hw4_6.out (IA.at [a, 4] hw4_4.out (by simp)) (IA.at [b] hw4_3.out (by simp)) (IA.at [c, 2] hw4_5.out (by simp)))
        have HB4 := hid (up_trans HB2.out HBw4.out)
        have X4 := hid hw4_0.out
        have t0 : ((((((((w2.alloc (.cells #[.int .i64 r.y, .int .i64 r.m, .int .i64 r.d, .int .i64 r.h, .int .i64 r.i, .int .i64 r.s] 31)).alloc (.cells #[.int .i64 (b), .int .i64 (2)] 3)).alloc (.cells #[.int .i64 2, .slice (some ⟨w2.heap.size + 1 + 1 + 1, 0, none⟩) 1 1] 24)).alloc (.cells #[.int .i64 (b)] 3)).alloc (.cells #[.int .i64 (a), .int .i64 (4)] 3)).alloc (.cells #[.int .i64 (c), .int .i64 (2)] 3)).alloc (.cells #[.int .i64 1, .slice (some ⟨w2.heap.size + 1 + 1 + 1 + 1, 0, none⟩) 2 2, .int .i64 2, .slice (some ⟨w2.heap.size + 1 + 1 + 1, 0, none⟩) 1 1, .int .i64 1, .slice (some ⟨w2.heap.size + 1 + 1 + 1 + 1 + 1, 0, none⟩) 2 2] 24)).alloc (.cells #[.int .i64 (0), .int .i64 (1), .int .i64 (2)] 3)).cell? ⟨w2.heap.size, 0, none⟩ = some (.int .i64 r.y) := by rw [← hw4, cell_of_row X4.out]; rfl
        have t1 : ((((((((w2.alloc (.cells #[.int .i64 r.y, .int .i64 r.m, .int .i64 r.d, .int .i64 r.h, .int .i64 r.i, .int .i64 r.s] 31)).alloc (.cells #[.int .i64 (b), .int .i64 (2)] 3)).alloc (.cells #[.int .i64 2, .slice (some ⟨w2.heap.size + 1 + 1 + 1, 0, none⟩) 1 1] 24)).alloc (.cells #[.int .i64 (b)] 3)).alloc (.cells #[.int .i64 (a), .int .i64 (4)] 3)).alloc (.cells #[.int .i64 (c), .int .i64 (2)] 3)).alloc (.cells #[.int .i64 1, .slice (some ⟨w2.heap.size + 1 + 1 + 1 + 1, 0, none⟩) 2 2, .int .i64 2, .slice (some ⟨w2.heap.size + 1 + 1 + 1, 0, none⟩) 1 1, .int .i64 1, .slice (some ⟨w2.heap.size + 1 + 1 + 1 + 1 + 1, 0, none⟩) 2 2] 24)).alloc (.cells #[.int .i64 (0), .int .i64 (1), .int .i64 (2)] 3)).cell? ⟨w2.heap.size, 1, none⟩ = some (.int .i64 r.m) := by rw [← hw4, cell_of_row X4.out]; rfl
        have t2 : ((((((((w2.alloc (.cells #[.int .i64 r.y, .int .i64 r.m, .int .i64 r.d, .int .i64 r.h, .int .i64 r.i, .int .i64 r.s] 31)).alloc (.cells #[.int .i64 (b), .int .i64 (2)] 3)).alloc (.cells #[.int .i64 2, .slice (some ⟨w2.heap.size + 1 + 1 + 1, 0, none⟩) 1 1] 24)).alloc (.cells #[.int .i64 (b)] 3)).alloc (.cells #[.int .i64 (a), .int .i64 (4)] 3)).alloc (.cells #[.int .i64 (c), .int .i64 (2)] 3)).alloc (.cells #[.int .i64 1, .slice (some ⟨w2.heap.size + 1 + 1 + 1 + 1, 0, none⟩) 2 2, .int .i64 2, .slice (some ⟨w2.heap.size + 1 + 1 + 1, 0, none⟩) 1 1, .int .i64 1, .slice (some ⟨w2.heap.size + 1 + 1 + 1 + 1 + 1, 0, none⟩) 2 2] 24)).alloc (.cells #[.int .i64 (0), .int .i64 (1), .int .i64 (2)] 3)).cell? ⟨w2.heap.size, 2, none⟩ = some (.int .i64 r.d) := by rw [← hw4, cell_of_row X4.out]; rfl
        have t3 : ((((((((w2.alloc (.cells #[.int .i64 r.y, .int .i64 r.m, .int .i64 r.d, .int .i64 r.h, .int .i64 r.i, .int .i64 r.s] 31)).alloc (.cells #[.int .i64 (b), .int .i64 (2)] 3)).alloc (.cells #[.int .i64 2, .slice (some ⟨w2.heap.size + 1 + 1 + 1, 0, none⟩) 1 1] 24)).alloc (.cells #[.int .i64 (b)] 3)).alloc (.cells #[.int .i64 (a), .int .i64 (4)] 3)).alloc (.cells #[.int .i64 (c), .int .i64 (2)] 3)).alloc (.cells #[.int .i64 1, .slice (some ⟨w2.heap.size + 1 + 1 + 1 + 1, 0, none⟩) 2 2, .int .i64 2, .slice (some ⟨w2.heap.size + 1 + 1 + 1, 0, none⟩) 1 1, .int .i64 1, .slice (some ⟨w2.heap.size + 1 + 1 + 1 + 1 + 1, 0, none⟩) 2 2] 24)).alloc (.cells #[.int .i64 (0), .int .i64 (1), .int .i64 (2)] 3)).cell? ⟨w2.heap.size, 3, none⟩ = some (.int .i64 r.h) := by rw [← hw4, cell_of_row X4.out]; rfl
        have t4 : ((((((((w2.alloc (.cells #[.int .i64 r.y, .int .i64 r.m, .int .i64 r.d, .int .i64 r.h, .int .i64 r.i, .int .i64 r.s] 31)).alloc (.cells #[.int .i64 (b), .int .i64 (2)] 3)).alloc (.cells #[.int .i64 2, .slice (some ⟨w2.heap.size + 1 + 1 + 1, 0, none⟩) 1 1] 24)).alloc (.cells #[.int .i64 (b)] 3)).alloc (.cells #[.int .i64 (a), .int .i64 (4)] 3)).alloc (.cells #[.int .i64 (c), .int .i64 (2)] 3)).alloc (.cells #[.int .i64 1, .slice (some ⟨w2.heap.size + 1 + 1 + 1 + 1, 0, none⟩) 2 2, .int .i64 2, .slice (some ⟨w2.heap.size + 1 + 1 + 1, 0, none⟩) 1 1, .int .i64 1, .slice (some ⟨w2.heap.size + 1 + 1 + 1 + 1 + 1, 0, none⟩) 2 2] 24)).alloc (.cells #[.int .i64 (0), .int .i64 (1), .int .i64 (2)] 3)).cell? ⟨w2.heap.size, 4, none⟩ = some (.int .i64 r.i) := by rw [← hw4, cell_of_row X4.out]; rfl
        have t5 : ((((((((w2.alloc (.cells #[.int .i64 r.y, .int .i64 r.m, .int .i64 r.d, .int .i64 r.h, .int .i64 r.i, .int .i64 r.s] 31)).alloc (.cells #[.int .i64 (b), .int .i64 (2)] 3)).alloc (.cells #[.int .i64 2, .slice (some ⟨w2.heap.size + 1 + 1 + 1, 0, none⟩) 1 1] 24)).alloc (.cells #[.int .i64 (b)] 3)).alloc (.cells #[.int .i64 (a), .int .i64 (4)] 3)).alloc (.cells #[.int .i64 (c), .int .i64 (2)] 3)).alloc (.cells #[.int .i64 1, .slice (some ⟨w2.heap.size + 1 + 1 + 1 + 1, 0, none⟩) 2 2, .int .i64 2, .slice (some ⟨w2.heap.size + 1 + 1 + 1, 0, none⟩) 1 1, .int .i64 1, .slice (some ⟨w2.heap.size + 1 + 1 + 1 + 1 + 1, 0, none⟩) 2 2] 24)).alloc (.cells #[.int .i64 (0), .int .i64 (1), .int .i64 (2)] 3)).cell? ⟨w2.heap.size, 5, none⟩ = some (.int .i64 r.s) := by rw [← hw4, cell_of_row X4.out]; rfl
        have HD := hid (made_any (p := p) 1 r [(⟨1, [a, 4]⟩ : Val), (⟨2, [b]⟩ : Val), ⟨1, [c, 2]⟩] [0, 1, 2] _ _ w4 (by decide) HP.out HL.out (HT.out.on HB4.out) (by intro q hq; simp at hq; rcases hq with rfl | rfl | rfl <;> simp) trivial HRR.out)
        rw [show doO 1 (madeO 1 r (List.map (fun (q : Int) => [(⟨1, [a, 4]⟩ : Val), (⟨2, [b]⟩ : Val), ⟨1, [c, 2]⟩].getD q.toNat nilVal) [0, 1, 2])) = _ from hm1] at HD
        unfold momV at HD
        clear hw4_0 hw4_1 hw4_2 hw4_3 hw4_4 hw4_5 hw4_6 hw4_7 HP hm1
        go_wp2_with fail
        rw [← hw4]
        refine HD.out.mono ?_
        rintro e w5 ⟨hb5, hr⟩
        have HB5 := hid (up_trans HB4.out hb5)
        have X5 := hid ((hb5.block w2.heap.size (by have := Hsw4.out; omega)).trans X4.out)
        have HL5 := hid (HL.out.on hb5)
        clear hb5 HD hw4 t0 t1 t2 t3 t4 t5 X4 HL
        rw [if_neg h1] at hr
        obtain rfl : e = .returned noneV := hr
        unfold noneV
        obtain ⟨w6, hw6⟩ : ∃ w6, w6 = (w5.alloc (.cells #[.int .i64 0, .slice none 0 0] 24)).alloc (.cells #[.int .i64 (1), .int .i64 (2)] 3) := ⟨_, rfl⟩
        obtain ⟨hc, hb, hsw6⟩ := chain_heap w5 [.cells #[.int .i64 0, .slice none 0 0] 24, .cells #[.int .i64 (1), .int .i64 (2)] 3]
        simp only [List.foldl_cons, List.foldl_nil] at hc hb hsw6
        rw [← hw6] at hc hb hsw6
        have hw6_0 := hid (show w6.heap[w5.heap.size]? = some _ from hc 0 _ rfl)
        have hw6_1 := hid (hc 1 _ rfl)
        have HBw6 := hid hb
        have Hsw6 := hid (show w6.heap.size = w5.heap.size + 2 from hsw6)
        clear hc hb hsw6
        have HB6 := hid (up_trans HB5.out HBw6.out)
        have X6 := hid ((HBw6.out.block w2.heap.size (Array.getElem?_eq_some_iff.1 X5.out).1).trans X5.out)
        have HL6 := hid (HL5.out.on HBw6.out)
        have HP := hid (IA.at [1, 2] hw6_1.out (by simp))
        have Y6 := hid hw6_0.out
        have t0 : ((w5.alloc (.cells #[.int .i64 0, .slice none 0 0] 24)).alloc (.cells #[.int .i64 (1), .int .i64 (2)] 3)).cell? ⟨w2.heap.size, 0, none⟩ = some (.int .i64 r.y) := by rw [← hw6, cell_of_row X6.out]; rfl
        have t1 : ((w5.alloc (.cells #[.int .i64 0, .slice none 0 0] 24)).alloc (.cells #[.int .i64 (1), .int .i64 (2)] 3)).cell? ⟨w2.heap.size, 1, none⟩ = some (.int .i64 r.m) := by rw [← hw6, cell_of_row X6.out]; rfl
        have t2 : ((w5.alloc (.cells #[.int .i64 0, .slice none 0 0] 24)).alloc (.cells #[.int .i64 (1), .int .i64 (2)] 3)).cell? ⟨w2.heap.size, 2, none⟩ = some (.int .i64 r.d) := by rw [← hw6, cell_of_row X6.out]; rfl
        have t3 : ((w5.alloc (.cells #[.int .i64 0, .slice none 0 0] 24)).alloc (.cells #[.int .i64 (1), .int .i64 (2)] 3)).cell? ⟨w2.heap.size, 3, none⟩ = some (.int .i64 r.h) := by rw [← hw6, cell_of_row X6.out]; rfl
        have t4 : ((w5.alloc (.cells #[.int .i64 0, .slice none 0 0] 24)).alloc (.cells #[.int .i64 (1), .int .i64 (2)] 3)).cell? ⟨w2.heap.size, 4, none⟩ = some (.int .i64 r.i) := by rw [← hw6, cell_of_row X6.out]; rfl
        have t5 : ((w5.alloc (.cells #[.int .i64 0, .slice none 0 0] 24)).alloc (.cells #[.int .i64 (1), .int .i64 (2)] 3)).cell? ⟨w2.heap.size, 5, none⟩ = some (.int .i64 r.s) := by rw [← hw6, cell_of_row X6.out]; rfl
        have HD := hid (made_any (p := p) 2 r [(⟨1, [a, 4]⟩ : Val), (⟨2, [b]⟩ : Val), ⟨1, [c, 2]⟩] [1, 2] _ _ w6 (by decide) HP.out HL6.out (HT.out.on HB6.out) (by intro q hq; simp at hq; rcases hq with rfl | rfl <;> simp) trivial HRR.out)
        rw [show doO 2 (madeO 2 r (List.map (fun (q : Int) => [(⟨1, [a, 4]⟩ : Val), (⟨2, [b]⟩ : Val), ⟨1, [c, 2]⟩].getD q.toNat nilVal) [1, 2])) = _ from hm2] at HD
        unfold momV at HD
        clear hw6_0 hw6_1 HP hm2 X5 HL5
        go_wp2_with fail
        rw [← hw6]
        refine HD.out.mono ?_
        rintro e w7 ⟨hb7, hr⟩
        have HB7 := hid (up_trans HB6.out hb7)
        have X7 := hid ((hb7.block w2.heap.size (Array.getElem?_eq_some_iff.1 X6.out).1).trans X6.out)
        have Y7 := hid ((hb7.block w5.heap.size (Array.getElem?_eq_some_iff.1 Y6.out).1).trans Y6.out)
        clear hb7 HD hw6 t0 t1 t2 t3 t4 t5 X6 HL6 Y6
        rw [if_neg h2] at hr
        obtain rfl : e = .returned noneV := hr
        unfold noneV
        obtain ⟨w8, hw8⟩ : ∃ w8, w8 = w7.alloc (.cells #[.int .i64 0, .slice none 0 0] 24) := ⟨_, rfl⟩
        obtain ⟨hc, hb, hsw8⟩ := chain_heap w7 [.cells #[.int .i64 0, .slice none 0 0] 24]
        simp only [List.foldl_cons, List.foldl_nil] at hc hb hsw8
        rw [← hw8] at hc hb hsw8
        have hw8_0 := hid (show w8.heap[w7.heap.size]? = some _ from hc 0 _ rfl)
        have HBw8 := hid hb
        have Hsw8 := hid (show w8.heap.size = w7.heap.size + 1 from hsw8)
        clear hc hb hsw8
        have HB8 := hid (up_trans HB7.out HBw8.out)
        have X8 := hid ((HBw8.out.block w2.heap.size (Array.getElem?_eq_some_iff.1 X7.out).1).trans X7.out)
        have Y8 := hid ((HBw8.out.block w5.heap.size (Array.getElem?_eq_some_iff.1 Y7.out).1).trans Y7.out)
        have Z8 := hid hw8_0.out
        have u0 : (w7.alloc (.cells #[.int .i64 0, .slice none 0 0] 24)).cell? ⟨w2.heap.size, 0, none⟩ = some (.int .i64 r.y) := by rw [← hw8, cell_of_row X8.out]; rfl
        have HD1 := hid fun w => HD1.out w
        have HD2 := hid fun w => HD2.out w
        rw [Bool.eq_false_iff.2 h1] at HD1
        rw [Bool.eq_false_iff.2 h2] at HD2
        clear hw8_0 X7 Y7
        go_wp2_with fail
        refine (HD1.out _).mono ?_
        rintro e wn ⟨rfl, hw⟩
        obtain rfl := hw.symm
        clear hw
        go_wp2_with fail
        refine (HD2.out _).mono ?_
        rintro e wn ⟨rfl, hw⟩
        obtain rfl := hw.symm
        clear hw
        clear HD1 HD2 u0
        have X10 := hid X8.out
        have Z10 := hid Z8.out
        have HB10 := hid HB8.out
        go_wp2
        go_ret
        exact ⟨rfl, by rw [← hw8]; exact HB8.out⟩

theorem own : ownKnob Tryd.prog.godebug = none := by kernel_rfl

theorem table {W : World} (h : laidMetH Tryd.prog Rows.actDatesRow.laid W) : TabsE W := by
  rw [MakeChecks.laidMetH_plain _ _ _ (by kernel_rfl)] at h
  exact tabs_of_laid h

set_option maxRecDepth 100000 in
theorem lifted (os : Os) (started : os.Started) (H : Type) (enc : TypeId × Value → H) :
    ReturnsInHanded {} Tryd.checked os 10 .any (fun w args => (Rows.actDatesSpec.pre enc Tryd.prog Tryd.f10 Rows.actDatesRow.domain false w args ∧ laidMetH Tryd.prog Rows.actDatesRow.laid w) ∧ sizedMet enc Tryd.prog Tryd.f10 (OpenSpec.ofChange Rows.actDatesSpec) false w args)
      (Rows.actDatesSpec.post enc Tryd.prog Tryd.f10 false true false false) := by
  refine returnsInHanded_of_change_and (C := Tryd.checked) (X := fun w _ => laidMetH Tryd.prog Rows.actDatesRow.laid w) (fun _ _ _ hh h => h.of_heap hh) own started (by kernel_rfl) Tryd.func10
    (ChangeSpec.witness_shaped (enc := enc) (C := Tryd.checked) (os := os) (X := fun w _ => laidMetH Tryd.prog Rows.actDatesRow.laid w) false (World.laidAll Tryd.prog os Rows.actDatesRow.laid) #[.int .i64 0, .int .i64 0, .int .i64 0, .int .i64 0, .bool false] 8 (World.laidAll_os _ _ _)
      (World.shaped_of_ZipB (by kernel_rfl) (by kernel_rfl)) (by kernel_rfl) (by kernel_rfl) (by kernel_rfl)
      (by rw [MakeChecks.laidMetH_plain _ _ _ (by kernel_rfl)]; exact laidMet_laidAll _ (by kernel_rfl) (by kernel_rfl))) ?_
  intro W base args ds gs before hval0 hW _ _ hL _
  have hval : ∀ (j : Nat) t v, Tryd.f10.params[j]? = some t → args[j]? = some v → Value.okWide Tryd.prog W .any base t v := hval0
  have hW' := hW
  obtain ⟨p, q, hA0, hV, rfl, hfz, hnd⟩ := hW
  have hA : DataW.TrodAll enc Tryd.prog W 0 (fun _ => true) true Tryd.f10.params.toList args.toList ds p := hA0
  rw [Tryd.params10] at hA hval
  obtain ⟨v0, vs0, d0, ds0, p0, q0, hargs, rfl, rfl, h0, r0⟩ := trodAll_cons hA
  obtain ⟨v1, vs1, d1, ds1, p1, q1, rfl, rfl, rfl, h1, r1⟩ := trodAll_cons r0
  obtain ⟨v2, vs2, d2, ds2, p2, q2, rfl, rfl, rfl, h2, r2⟩ := trodAll_cons r1
  obtain ⟨v3, vs3, d3, ds3, p3, q3, rfl, rfl, rfl, h3, r3⟩ := trodAll_cons r2
  obtain ⟨v4, vs4, d4, ds4, p4, q4, rfl, rfl, rfl, h4, r4⟩ := trodAll_cons r3
  obtain ⟨rfl, rfl, rfl⟩ := trodAll_nil r4
  obtain rfl : args = #[v0, v1, v2, v3, v4] := by cases args; simp_all
  obtain ⟨rfl, rfl⟩ := trodVars_none hV
  obtain ⟨a0, rfl, rfl, rfl, w0⟩ := open_int Tryd.underlying3 (hval 0 3 v0 rfl rfl) h0
  obtain ⟨a1, rfl, rfl, rfl, w1⟩ := open_int Tryd.underlying3 (hval 1 3 v1 rfl rfl) h1
  obtain ⟨a2, rfl, rfl, rfl, w2⟩ := open_int Tryd.underlying3 (hval 2 3 v2 rfl rfl) h2
  obtain ⟨a3, rfl, rfl, rfl, w3⟩ := open_int Tryd.underlying3 (hval 3 3 v3 rfl rfl) h3
  obtain ⟨a4, rfl, rfl, rfl⟩ := open_bool Tryd.underlying4 (hval 4 4 v4 rfl rfl) h4
  clear hA0 hval0
  refine (walk a0 a1 a2 a3 a4 W w0 w1 w2 w3 (table hL)).mono fun e W' ⟨he, bel⟩ => ?_
  subst he
  exact ⟨_, rfl, _, _, _, [], _, [], hW', trodAll_mk1 (shut_bool Tryd.underlying4 _), (trodAll_cons_mk (shut_int Tryd.underlying3 w0) (trodAll_cons_mk (shut_int Tryd.underlying3 w1) (trodAll_cons_mk (shut_int Tryd.underlying3 w2) (trodAll_cons_mk (shut_int Tryd.underlying3 w3) (trodAll_cons_mk (shut_bool Tryd.underlying4 _) trodAll_mk0))))), rfl, bel.frame _, fun h => by cases h⟩

theorem row_holds : Rows.ActDatesSaid :=
  OpenClaim.holds_of_wide 10 Tryd.f10 rfl rfl rfl rfl rfl rfl rfl ⟨rfl, rfl, rfl, rfl, rfl⟩ rfl rfl rfl rfl rfl (by kernel_rfl) Tryd.func10 (by kernel_rfl)
    (of_decide_eq_true (by kernel_rfl)) (by unfold Func.isWrapper; first | (rw [if_pos (by decide +kernel)]; kernel_rfl) | (rw [if_neg (by decide +kernel)]; exact ⟨rfl, rfl⟩))
    (fun os started H enc _ => lifted os started H enc)

theorem actDates_holds : Rows.ActDatesCardSaid :=
  Claim7.holds_tied_plain_at .later [] _ _ _ _ row_holds (fun _ h => by cases h) (by kernel_rfl) (fun _ h => by cases h) actDates_row_tie rfl ⟨rfl, rfl⟩ (by kernel_rfl) rfl
    (fun f fn hf hfn => by
      obtain rfl : f = 10 := Option.some.inj ((show Tryd.prog.funcNamed "interlocutor/interlocutorlaw8.ActDates" = some 10 by kernel_rfl).symm.trans hf) |>.symm
      obtain rfl : fn = Tryd.f10 := (Option.some.inj (Tryd.func10.symm.trans hfn)).symm
      exact ⟨by kernel_rfl, fun j t ht => by
        rw [Tryd.params10] at ht
        have hm : t ∈ [3, 3, 3, 3, 4] := by simpa using Array.mem_of_getElem? ht
        have hall : ([3, 3, 3, 3, 4].all fun u => !Tryd.prog.wantsStandIn u) = true := by kernel_rfl
        exact (show Tryd.prog.wantsStandIn t = false by simpa using List.all_eq_true.1 hall t hm)⟩)
    (by kernel_rfl)

end Go.Proofs.YtdecphhmiioihaaDoor
