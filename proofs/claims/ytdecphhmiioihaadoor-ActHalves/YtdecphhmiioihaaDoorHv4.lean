/- Times by halves of a day, a case each. -/
import Derived.Test.YtdecphhmiioihaaDoorHv0
namespace Go.Proofs.YtdecphhmiioihaaDoor
open Go.ChangeShapes Go.WideShapes Go.ChangeAt Go.RowKit

set_option maxRecDepth 8000 in
set_option maxHeartbeats 4000000 in
theorem part_0tt (h m : Int) (W : World) (w0 : (Lit.int .i64 h).wf = true) (w1 : (Lit.int .i64 m).wf = true) (hX : TabsE W) (hk : h % 15 = 0) : Calls Tryd.prog 8 #[.int .i64 h, .int .i64 m, .bool true, .bool true] W fun e W' => e = .returned (.bool true) ∧ Below W.heap.size W W' := by
  obtain ⟨p, hT⟩ := hX
  obtain ⟨ba, ba'⟩ := wf_bd w0
  obtain ⟨bb, bb'⟩ := wf_bd w1
  have HK := hid (known_any p W hT)
  have HT := hid hT
  have H1 := hid fun w => lwithin_any h 15 w (by decide) (by decide) ba ba'
  have H2 := hid fun w => lwithin_any m 70 w (by decide) (by decide) bb bb'
  have HR := hid fun w => ref_any h w ba ba'
  have HRR := hid (refM_right h)
  have hkk : 0 ≤ h % 15 ∧ h % 15 ≤ 14 := by omega
  have hn : 0 ≤ m % 70 ∧ m % 70 ≤ 69 := by omega
  generalize h % 15 = k at *
  generalize m % 70 = n at *
  clear hT w0 w1 ba ba' bb bb'
  obtain ⟨hk0, hk1⟩ := hkk
  obtain ⟨hn0, hn1⟩ := hn
  subst hk
  have hm := (half3_made (refM h) 0 n 1 (by decide) (by decide) hn0).trans (if_neg (by omega))
  go_enter Tryd.func8, Tryd.ntmps8
  go_wp2_with fail
  refine HK.out.mono ?_
  rintro e w1 ⟨rfl, hb1⟩
  have HB1 := hid hb1
  clear hb1 HK
  go_wp2_with fail
  refine (H1.out _).mono ?_
  rintro e wn ⟨rfl, hw⟩
  obtain rfl := hw.symm
  clear hw
  go_wp2_with fail
  refine (H2.out _).mono ?_
  rintro e wn ⟨rfl, hw⟩
  obtain rfl := hw.symm
  clear hw
  clear H1 H2
  obtain ⟨w2, hw2⟩ : ∃ w2, w2 = ((((((w1.alloc (.cells #[.int .i64 (0), .int .i64 (2)] 3)).alloc (.cells #[.int .i64 (n), .int .i64 (2)] 3)).alloc (.cells #[.int .i64 (1)] 3)).alloc (.cells #[.int .i64 1, .slice (some ⟨w1.heap.size, 0, none⟩) 2 2, .int .i64 1, .slice (some ⟨w1.heap.size + 1, 0, none⟩) 2 2, .int .i64 2, .slice (some ⟨w1.heap.size + 1 + 1, 0, none⟩) 1 1] 24)).alloc (.cells #[.int .i64 (0), .int .i64 (2)] 3)).alloc (.cells #[.int .i64 4, .slice (some ⟨w1.heap.size + 1 + 1 + 1 + 1 + 1 + 1, 0, none⟩) 3 3] 36)).alloc (.cells #[.int .i64 (0), .int .i64 (1), .int .i64 (2)] 3) := ⟨_, rfl⟩
  obtain ⟨hc, hb, hsw2⟩ := chain_heap w1 [.cells #[.int .i64 (0), .int .i64 (2)] 3, .cells #[.int .i64 (n), .int .i64 (2)] 3, .cells #[.int .i64 (1)] 3, .cells #[.int .i64 1, .slice (some ⟨w1.heap.size, 0, none⟩) 2 2, .int .i64 1, .slice (some ⟨w1.heap.size + 1, 0, none⟩) 2 2, .int .i64 2, .slice (some ⟨w1.heap.size + 1 + 1, 0, none⟩) 1 1] 24, .cells #[.int .i64 (0), .int .i64 (2)] 3, .cells #[.int .i64 4, .slice (some ⟨w1.heap.size + 1 + 1 + 1 + 1 + 1 + 1, 0, none⟩) 3 3] 36, .cells #[.int .i64 (0), .int .i64 (1), .int .i64 (2)] 3]
  simp only [List.foldl_cons, List.foldl_nil] at hc hb hsw2
  rw [← hw2] at hc hb hsw2
  have hw2_0 := hid (show w2.heap[w1.heap.size]? = some _ from hc 0 _ rfl)
  have hw2_1 := hid (hc 1 _ rfl)
  have hw2_2 := hid (hc 2 _ rfl)
  have hw2_3 := hid (hc 3 _ rfl)
  have hw2_4 := hid (hc 4 _ rfl)
  have hw2_5 := hid (hc 5 _ rfl)
  have hw2_6 := hid (hc 6 _ rfl)
  have HBw2 := hid hb
  have Hsw2 := hid (show w2.heap.size = w1.heap.size + 7 from hsw2)
  clear hc hb hsw2
  have HP := hid (IA.at [0, 1, 2] hw2_6.out (by simp))
  have HL := hid (LA.three hw2_3.out (IA.at [0, 2] hw2_0.out (by simp)) (IA.at [n, 2] hw2_1.out (by simp)) (IA.at [1] hw2_2.out (by simp)))
  have HB2 := hid (up_trans HB1.out HBw2.out)
  have X2 := hid hw2_5.out
  have d0 : w2.cell? ⟨w1.heap.size + 1 + 1 + 1 + 1 + 1, 0, none⟩ = some (.int .i64 4) := by rw [cell_of_row X2.out]; rfl
  have d1 : w2.cell? ⟨w1.heap.size + 1 + 1 + 1 + 1 + 1, 1, none⟩ = some (.slice (some ⟨w1.heap.size + 1 + 1 + 1 + 1 + 1 + 1, 0, none⟩) 3 3) := by rw [cell_of_row X2.out]; rfl
  have HD := hid fun (w3 : World) (hb3 : Below w2.heap.size w2 w3) => made_any (p := p) 4 (refM h) [(⟨1, [0, 2]⟩ : Val), ⟨1, [n, 2]⟩, ⟨2, [1]⟩] [0, 1, 2] _ _ w3 (by decide) (HP.out.on hb3) (HL.out.on hb3) (HT.out.on (up_trans HB2.out hb3)) (by intro q hq; simp at hq; rcases hq with rfl | rfl | rfl <;> simp) trivial HRR.out
  rw [show doO 4 (madeO 4 (refM h) (List.map (fun (q : Int) => [(⟨1, [0, 2]⟩ : Val), ⟨1, [n, 2]⟩, ⟨2, [1]⟩].getD q.toNat nilVal) [0, 1, 2])) = _ from hm] at HD
  clear hw2_0 hw2_1 hw2_2 hw2_3 hw2_4 hw2_5 hm HP HL hw2_6
  go_wp2
  rw [← hw2]
  clear hw2
  have d0 : w2.cell? ⟨w1.heap.size + 1 + 1 + 1 + 1 + 1, 0, none⟩ = some (.int .i64 4) := (by rw [cell_of_row X2.out]; rfl)
  have d1 : w2.cell? ⟨w1.heap.size + 1 + 1 + 1 + 1 + 1, 1, none⟩ = some (.slice (some ⟨w1.heap.size + 1 + 1 + 1 + 1 + 1 + 1, 0, none⟩) 3 3) := (by rw [cell_of_row X2.out]; rfl)
  have d0a : ∀ o, (w2.alloc o).cell? ⟨w1.heap.size + 1 + 1 + 1 + 1 + 1, 0, none⟩ = some (.int .i64 4) := (fun o => by rw [(up_alloc w2 o).cell (p := ⟨w1.heap.size + 1 + 1 + 1 + 1 + 1, 0, none⟩) (lt_of_cell d0)]; exact d0)
  have d1a : ∀ o, (w2.alloc o).cell? ⟨w1.heap.size + 1 + 1 + 1 + 1 + 1, 1, none⟩ = some (.slice (some ⟨w1.heap.size + 1 + 1 + 1 + 1 + 1 + 1, 0, none⟩) 3 3) := (fun o => by rw [(up_alloc w2 o).cell (p := ⟨w1.heap.size + 1 + 1 + 1 + 1 + 1, 1, none⟩) (lt_of_cell d1)]; exact d1)
  go_region_with (first
    | (go_at_call 19; refine (HR.out w2.drew).mono ?_; rintro e w3 ⟨rfl, hb3⟩; have HB3 := hid (up_trans (Below.refl w2.heap.size w2).drew hb3); have X3 := (HB3.out.block _ (Array.getElem?_eq_some_iff.1 X2.out).1).trans X2.out; have d0 : w3.cell? ⟨w1.heap.size + 1 + 1 + 1 + 1 + 1, 0, none⟩ = some (.int .i64 4) := (by rw [cell_of_row X3]; rfl); have d1 : w3.cell? ⟨w1.heap.size + 1 + 1 + 1 + 1 + 1, 1, none⟩ = some (.slice (some ⟨w1.heap.size + 1 + 1 + 1 + 1 + 1 + 1, 0, none⟩) 3 3) := (by rw [cell_of_row X3]; rfl); have d0a : ∀ o, (w3.alloc o).cell? ⟨w1.heap.size + 1 + 1 + 1 + 1 + 1, 0, none⟩ = some (.int .i64 4) := (fun o => by rw [(up_alloc w3 o).cell (p := ⟨w1.heap.size + 1 + 1 + 1 + 1 + 1, 0, none⟩) (lt_of_cell d0)]; exact d0); have d1a : ∀ o, (w3.alloc o).cell? ⟨w1.heap.size + 1 + 1 + 1 + 1 + 1, 1, none⟩ = some (.slice (some ⟨w1.heap.size + 1 + 1 + 1 + 1 + 1 + 1, 0, none⟩) 3 3) := (fun o => by rw [(up_alloc w3 o).cell (p := ⟨w1.heap.size + 1 + 1 + 1 + 1 + 1, 1, none⟩) (lt_of_cell d1)]; exact d1); clear hb3 X3)
    | (go_at_call 19; refine (HR.out (w2.drew.alloc (.cells #[.int .i64 0, .slice none 0 0] 24))).mono ?_; rintro e w3 ⟨rfl, hb3⟩; have HB3 := hid (up_trans (up_trans (Below.refl w2.heap.size w2).drew (up_alloc w2.drew (.cells #[.int .i64 0, .slice none 0 0] 24))) hb3); have ZB := hid ((hb3.block w2.heap.size (by simp)).trans (new_row w2.drew (.cells #[.int .i64 0, .slice none 0 0] 24))); have X3 := (HB3.out.block _ (Array.getElem?_eq_some_iff.1 X2.out).1).trans X2.out; have d0 : w3.cell? ⟨w1.heap.size + 1 + 1 + 1 + 1 + 1, 0, none⟩ = some (.int .i64 4) := (by rw [cell_of_row X3]; rfl); have d1 : w3.cell? ⟨w1.heap.size + 1 + 1 + 1 + 1 + 1, 1, none⟩ = some (.slice (some ⟨w1.heap.size + 1 + 1 + 1 + 1 + 1 + 1, 0, none⟩) 3 3) := (by rw [cell_of_row X3]; rfl); have d0a : ∀ o, (w3.alloc o).cell? ⟨w1.heap.size + 1 + 1 + 1 + 1 + 1, 0, none⟩ = some (.int .i64 4) := (fun o => by rw [(up_alloc w3 o).cell (p := ⟨w1.heap.size + 1 + 1 + 1 + 1 + 1, 0, none⟩) (lt_of_cell d0)]; exact d0); have d1a : ∀ o, (w3.alloc o).cell? ⟨w1.heap.size + 1 + 1 + 1 + 1 + 1, 1, none⟩ = some (.slice (some ⟨w1.heap.size + 1 + 1 + 1 + 1 + 1 + 1, 0, none⟩) 3 3) := (fun o => by rw [(up_alloc w3 o).cell (p := ⟨w1.heap.size + 1 + 1 + 1 + 1 + 1, 1, none⟩) (lt_of_cell d1)]; exact d1); clear hb3 X3)
    | (go_at_call 20; refine (HD.out w3 HB3.out).mono ?_; rintro e w4 ⟨hb4, hr⟩; have HB4 := hid (up_trans (up_trans HB2.out HB3.out) hb4); have ZC := hid ((hb4.block w2.heap.size (Array.getElem?_eq_some_iff.1 ZB.out).1).trans ZB.out); have z0 : w4.cell? ⟨w2.heap.size, 0, none⟩ = some (.int .i64 0) := (by rw [cell_of_row ZC.out]; rfl); have z1 : w4.cell? ⟨w2.heap.size, 1, none⟩ = some (.slice none 0 0) := (by rw [cell_of_row ZC.out]; rfl); have zf : ∀ o, w4.frozen? ⟨w2.heap.size, o, none⟩ = false := (fun o => frozen_of_row ZC.out); obtain rfl : e = .returned noneV := hr; unfold noneV; clear hb4)
    | (go_at_call 20; refine (HD.out w3 HB3.out).mono ?_; rintro e w4 ⟨hb4, hr⟩; have HB4 := hid (up_trans (up_trans HB2.out HB3.out) hb4); obtain rfl : e = .returned noneV := hr; unfold noneV; clear hb4)
    | (go_at_call 20; refine (HD.out (w3.alloc (.cells #[.int .i64 0, .slice none 0 0] 24)) (up_trans HB3.out (up_alloc _ _))).mono ?_; rintro e w4 ⟨hb4, hr⟩; have HB4 := hid (up_trans (up_trans HB2.out (up_trans HB3.out (up_alloc _ (.cells #[.int .i64 0, .slice none 0 0] 24)))) hb4); have ZC := hid ((hb4.block w3.heap.size (by simp)).trans (new_row w3 (.cells #[.int .i64 0, .slice none 0 0] 24))); have z0 : w4.cell? ⟨w3.heap.size, 0, none⟩ = some (.int .i64 0) := (by rw [cell_of_row ZC.out]; rfl); have z1 : w4.cell? ⟨w3.heap.size, 1, none⟩ = some (.slice none 0 0) := (by rw [cell_of_row ZC.out]; rfl); have zf : ∀ o, w4.frozen? ⟨w3.heap.size, o, none⟩ = false := (fun o => frozen_of_row ZC.out); obtain rfl : e = .returned noneV := hr; unfold noneV; clear hb4))
  all_goals
    have hB : 0 ≤ w4.heap.size := Nat.zero_le _
    go_wp2
    go_ret
    first
      | exact ⟨rfl, up_trans HB4.out (up_alloc _ _)⟩
      | exact ⟨rfl, (HB4.out.setCell (p := ⟨w2.heap.size, 0, none⟩) HB2.out.size _).setCell (p := ⟨w2.heap.size, 1, none⟩) HB2.out.size _⟩
      | exact ⟨rfl, (HB4.out.setCell (p := ⟨w3.heap.size, 0, none⟩) (up_trans HB2.out HB3.out).size _).setCell (p := ⟨w3.heap.size, 1, none⟩) (up_trans HB2.out HB3.out).size _⟩

set_option maxRecDepth 8000 in
set_option maxHeartbeats 4000000 in
theorem part_xff (h m : Int) (W : World) (w0 : (Lit.int .i64 h).wf = true) (w1 : (Lit.int .i64 m).wf = true) (hX : TabsE W) (hk : 2 ≤ h % 15 ∧ h % 15 ≤ 13) : Calls Tryd.prog 8 #[.int .i64 h, .int .i64 m, .bool false, .bool false] W fun e W' => e = .returned (.bool true) ∧ Below W.heap.size W W' := by
  obtain ⟨p, hT⟩ := hX
  obtain ⟨ba, ba'⟩ := wf_bd w0
  obtain ⟨bb, bb'⟩ := wf_bd w1
  have HK := hid (known_any p W hT)
  have HT := hid hT
  have H1 := hid fun w => lwithin_any h 15 w (by decide) (by decide) ba ba'
  have H2 := hid fun w => lwithin_any m 70 w (by decide) (by decide) bb bb'
  have HR := hid fun w => ref_any h w ba ba'
  have HRR := hid (refM_right h)
  have hkk : 0 ≤ h % 15 ∧ h % 15 ≤ 14 := by omega
  have hn : 0 ≤ m % 70 ∧ m % 70 ≤ 69 := by omega
  generalize h % 15 = k at *
  generalize m % 70 = n at *
  clear hT w0 w1 ba ba' bb bb'
  obtain ⟨hk0, hk1⟩ := hkk
  obtain ⟨hn0, hn1⟩ := hn
  obtain ⟨x, rfl, hx0, hx1⟩ : ∃ x, k = x + 1 ∧ 1 ≤ x ∧ x ≤ 12 := ⟨k - 1, by omega, by omega, by omega⟩
  have hm := (half2_made (refM h) x 0 (by decide) (by decide)).trans (if_pos (show 1 ≤ x ∧ x ≤ 12 from ⟨hx0, hx1⟩))
  go_enter Tryd.func8, Tryd.ntmps8
  go_wp2_with fail
  refine HK.out.mono ?_
  rintro e w1 ⟨rfl, hb1⟩
  have HB1 := hid hb1
  clear hb1 HK
  go_wp2_with fail
  refine (H1.out _).mono ?_
  rintro e wn ⟨rfl, hw⟩
  obtain rfl := hw.symm
  clear hw
  go_wp2_with fail
  refine (H2.out _).mono ?_
  rintro e wn ⟨rfl, hw⟩
  obtain rfl := hw.symm
  clear hw
  clear H1 H2
  obtain ⟨w2, hw2⟩ : ∃ w2, w2 = (((((w1.alloc (.cells #[.int .i64 (x), .int .i64 (2)] 3)).alloc (.cells #[.int .i64 (n), .int .i64 (2)] 3)).alloc (.cells #[.int .i64 (0)] 3)).alloc (.cells #[.int .i64 1, .slice (some ⟨w1.heap.size, 0, none⟩) 2 2, .int .i64 1, .slice (some ⟨w1.heap.size + 1, 0, none⟩) 2 2, .int .i64 2, .slice (some ⟨w1.heap.size + 1 + 1, 0, none⟩) 1 1] 24)).alloc (.cells #[.int .i64 (0), .int .i64 (2)] 3)).alloc (.cells #[.int .i64 4, .slice (some ⟨w1.heap.size + 1 + 1 + 1 + 1, 0, none⟩) 2 2] 36) := ⟨_, rfl⟩
  obtain ⟨hc, hb, hsw2⟩ := chain_heap w1 [.cells #[.int .i64 (x), .int .i64 (2)] 3, .cells #[.int .i64 (n), .int .i64 (2)] 3, .cells #[.int .i64 (0)] 3, .cells #[.int .i64 1, .slice (some ⟨w1.heap.size, 0, none⟩) 2 2, .int .i64 1, .slice (some ⟨w1.heap.size + 1, 0, none⟩) 2 2, .int .i64 2, .slice (some ⟨w1.heap.size + 1 + 1, 0, none⟩) 1 1] 24, .cells #[.int .i64 (0), .int .i64 (2)] 3, .cells #[.int .i64 4, .slice (some ⟨w1.heap.size + 1 + 1 + 1 + 1, 0, none⟩) 2 2] 36]
  simp only [List.foldl_cons, List.foldl_nil] at hc hb hsw2
  rw [← hw2] at hc hb hsw2
  have hw2_0 := hid (show w2.heap[w1.heap.size]? = some _ from hc 0 _ rfl)
  have hw2_1 := hid (hc 1 _ rfl)
  have hw2_2 := hid (hc 2 _ rfl)
  have hw2_3 := hid (hc 3 _ rfl)
  have hw2_4 := hid (hc 4 _ rfl)
  have hw2_5 := hid (hc 5 _ rfl)
  have HBw2 := hid hb
  have Hsw2 := hid (show w2.heap.size = w1.heap.size + 6 from hsw2)
  clear hc hb hsw2
  have HP := hid (IA.at [0, 2] hw2_4.out (by simp))
  have HL := hid (LA.three hw2_3.out (IA.at [x, 2] hw2_0.out (by simp)) (IA.at [n, 2] hw2_1.out (by simp)) (IA.at [0] hw2_2.out (by simp)))
  have HB2 := hid (up_trans HB1.out HBw2.out)
  have X2 := hid hw2_5.out
  have d0 : w2.cell? ⟨w1.heap.size + 1 + 1 + 1 + 1 + 1, 0, none⟩ = some (.int .i64 4) := by rw [cell_of_row X2.out]; rfl
  have d1 : w2.cell? ⟨w1.heap.size + 1 + 1 + 1 + 1 + 1, 1, none⟩ = some (.slice (some ⟨w1.heap.size + 1 + 1 + 1 + 1, 0, none⟩) 2 2) := by rw [cell_of_row X2.out]; rfl
  have HD := hid fun (w3 : World) (hb3 : Below w2.heap.size w2 w3) => made_any (p := p) 4 (refM h) [(⟨1, [x, 2]⟩ : Val), ⟨1, [n, 2]⟩, ⟨2, [0]⟩] [0, 2] _ _ w3 (by decide) (HP.out.on hb3) (HL.out.on hb3) (HT.out.on (up_trans HB2.out hb3)) (by intro q hq; simp at hq; rcases hq with rfl | rfl <;> simp) trivial HRR.out
  rw [show doO 4 (madeO 4 (refM h) (List.map (fun (q : Int) => [(⟨1, [x, 2]⟩ : Val), ⟨1, [n, 2]⟩, ⟨2, [0]⟩].getD q.toNat nilVal) [0, 2])) = _ from hm] at HD
  clear hw2_0 hw2_1 hw2_2 hw2_3 hw2_4 hw2_5 hm HP HL
  go_wp2
  rw [← hw2]
  clear hw2
  have d0 : w2.cell? ⟨w1.heap.size + 1 + 1 + 1 + 1 + 1, 0, none⟩ = some (.int .i64 4) := (by rw [cell_of_row X2.out]; rfl)
  have d1 : w2.cell? ⟨w1.heap.size + 1 + 1 + 1 + 1 + 1, 1, none⟩ = some (.slice (some ⟨w1.heap.size + 1 + 1 + 1 + 1, 0, none⟩) 2 2) := (by rw [cell_of_row X2.out]; rfl)
  have d0a : ∀ o, (w2.alloc o).cell? ⟨w1.heap.size + 1 + 1 + 1 + 1 + 1, 0, none⟩ = some (.int .i64 4) := (fun o => by rw [(up_alloc w2 o).cell (p := ⟨w1.heap.size + 1 + 1 + 1 + 1 + 1, 0, none⟩) (lt_of_cell d0)]; exact d0)
  have d1a : ∀ o, (w2.alloc o).cell? ⟨w1.heap.size + 1 + 1 + 1 + 1 + 1, 1, none⟩ = some (.slice (some ⟨w1.heap.size + 1 + 1 + 1 + 1, 0, none⟩) 2 2) := (fun o => by rw [(up_alloc w2 o).cell (p := ⟨w1.heap.size + 1 + 1 + 1 + 1 + 1, 1, none⟩) (lt_of_cell d1)]; exact d1)
  go_region_with (first
    | (go_at_call 19; refine (HR.out w2.drew).mono ?_; rintro e w3 ⟨rfl, hb3⟩; have HB3 := hid (up_trans (Below.refl w2.heap.size w2).drew hb3); have X3 := (HB3.out.block _ (Array.getElem?_eq_some_iff.1 X2.out).1).trans X2.out; have d0 : w3.cell? ⟨w1.heap.size + 1 + 1 + 1 + 1 + 1, 0, none⟩ = some (.int .i64 4) := (by rw [cell_of_row X3]; rfl); have d1 : w3.cell? ⟨w1.heap.size + 1 + 1 + 1 + 1 + 1, 1, none⟩ = some (.slice (some ⟨w1.heap.size + 1 + 1 + 1 + 1, 0, none⟩) 2 2) := (by rw [cell_of_row X3]; rfl); have d0a : ∀ o, (w3.alloc o).cell? ⟨w1.heap.size + 1 + 1 + 1 + 1 + 1, 0, none⟩ = some (.int .i64 4) := (fun o => by rw [(up_alloc w3 o).cell (p := ⟨w1.heap.size + 1 + 1 + 1 + 1 + 1, 0, none⟩) (lt_of_cell d0)]; exact d0); have d1a : ∀ o, (w3.alloc o).cell? ⟨w1.heap.size + 1 + 1 + 1 + 1 + 1, 1, none⟩ = some (.slice (some ⟨w1.heap.size + 1 + 1 + 1 + 1, 0, none⟩) 2 2) := (fun o => by rw [(up_alloc w3 o).cell (p := ⟨w1.heap.size + 1 + 1 + 1 + 1 + 1, 1, none⟩) (lt_of_cell d1)]; exact d1); clear hb3 X3)
    | (go_at_call 19; refine (HR.out (w2.drew.alloc (.cells #[.int .i64 0, .slice none 0 0] 24))).mono ?_; rintro e w3 ⟨rfl, hb3⟩; have HB3 := hid (up_trans (up_trans (Below.refl w2.heap.size w2).drew (up_alloc w2.drew (.cells #[.int .i64 0, .slice none 0 0] 24))) hb3); have ZB := hid ((hb3.block w2.heap.size (by simp)).trans (new_row w2.drew (.cells #[.int .i64 0, .slice none 0 0] 24))); have X3 := (HB3.out.block _ (Array.getElem?_eq_some_iff.1 X2.out).1).trans X2.out; have d0 : w3.cell? ⟨w1.heap.size + 1 + 1 + 1 + 1 + 1, 0, none⟩ = some (.int .i64 4) := (by rw [cell_of_row X3]; rfl); have d1 : w3.cell? ⟨w1.heap.size + 1 + 1 + 1 + 1 + 1, 1, none⟩ = some (.slice (some ⟨w1.heap.size + 1 + 1 + 1 + 1, 0, none⟩) 2 2) := (by rw [cell_of_row X3]; rfl); have d0a : ∀ o, (w3.alloc o).cell? ⟨w1.heap.size + 1 + 1 + 1 + 1 + 1, 0, none⟩ = some (.int .i64 4) := (fun o => by rw [(up_alloc w3 o).cell (p := ⟨w1.heap.size + 1 + 1 + 1 + 1 + 1, 0, none⟩) (lt_of_cell d0)]; exact d0); have d1a : ∀ o, (w3.alloc o).cell? ⟨w1.heap.size + 1 + 1 + 1 + 1 + 1, 1, none⟩ = some (.slice (some ⟨w1.heap.size + 1 + 1 + 1 + 1, 0, none⟩) 2 2) := (fun o => by rw [(up_alloc w3 o).cell (p := ⟨w1.heap.size + 1 + 1 + 1 + 1 + 1, 1, none⟩) (lt_of_cell d1)]; exact d1); clear hb3 X3)
    | (go_at_call 20; refine (HD.out w3 HB3.out).mono ?_; rintro e w4 ⟨hb4, hr⟩; have HB4 := hid (up_trans (up_trans HB2.out HB3.out) hb4); have ZC := hid ((hb4.block w2.heap.size (Array.getElem?_eq_some_iff.1 ZB.out).1).trans ZB.out); have z0 : w4.cell? ⟨w2.heap.size, 0, none⟩ = some (.int .i64 0) := (by rw [cell_of_row ZC.out]; rfl); have z1 : w4.cell? ⟨w2.heap.size, 1, none⟩ = some (.slice none 0 0) := (by rw [cell_of_row ZC.out]; rfl); have zf : ∀ o, w4.frozen? ⟨w2.heap.size, o, none⟩ = false := (fun o => frozen_of_row ZC.out); obtain ⟨vv, rfl, hv⟩ := hr; obtain ⟨fv, rfl, hf⟩ := hv; have HF := hid hf.ia; have HNA := hid hf; obtain ⟨gb, go, cap, rfl, hc1, hc2, hlt⟩ := hf.ia.has3; clear hb4 hf; dsimp only at HNA ⊢)
    | (go_at_call 20; refine (HD.out w3 HB3.out).mono ?_; rintro e w4 ⟨hb4, hr⟩; have HB4 := hid (up_trans (up_trans HB2.out HB3.out) hb4); obtain ⟨vv, rfl, hv⟩ := hr; obtain ⟨fv, rfl, hf⟩ := hv; have HF := hid hf.ia; have HNA := hid hf; obtain ⟨gb, go, cap, rfl, hc1, hc2, hlt⟩ := hf.ia.has3; clear hb4 hf; dsimp only at HNA ⊢)
    | (go_at_call 20; refine (HD.out (w3.alloc (.cells #[.int .i64 0, .slice none 0 0] 24)) (up_trans HB3.out (up_alloc _ _))).mono ?_; rintro e w4 ⟨hb4, hr⟩; have HB4 := hid (up_trans (up_trans HB2.out (up_trans HB3.out (up_alloc _ (.cells #[.int .i64 0, .slice none 0 0] 24)))) hb4); have ZC := hid ((hb4.block w3.heap.size (by simp)).trans (new_row w3 (.cells #[.int .i64 0, .slice none 0 0] 24))); have z0 : w4.cell? ⟨w3.heap.size, 0, none⟩ = some (.int .i64 0) := (by rw [cell_of_row ZC.out]; rfl); have z1 : w4.cell? ⟨w3.heap.size, 1, none⟩ = some (.slice none 0 0) := (by rw [cell_of_row ZC.out]; rfl); have zf : ∀ o, w4.frozen? ⟨w3.heap.size, o, none⟩ = false := (fun o => frozen_of_row ZC.out); obtain ⟨vv, rfl, hv⟩ := hr; obtain ⟨fv, rfl, hf⟩ := hv; have HF := hid hf.ia; have HNA := hid hf; obtain ⟨gb, go, cap, rfl, hc1, hc2, hlt⟩ := hf.ia.has3; clear hb4 hf; dsimp only at HNA ⊢))
  all_goals
    have hzz : x % 12 + 12 * 0 = x % 12 := by omega
    rw [hzz] at HF HNA
    clear d0 d1 d0a d1a HD
    first
      | (obtain ⟨w5, hw5⟩ : ∃ w5, w5 = w4.alloc (.cells #[.int .i64 5, .slice (some ⟨gb, go, none⟩) 3 cap] 24) := ⟨_, rfl⟩
         have HB5 := hid (show Below W.heap.size W w5 by rw [hw5]; exact up_trans HB4.out (up_alloc _ _))
         have HF5 := hid (show IA w5 _ _ by rw [hw5]; exact HF.out.on (up_alloc _ _))
         have K5 := hid (show w5.heap[w4.heap.size]? = some (.cells #[.int .i64 5, .slice (some ⟨gb, go, none⟩) 3 cap] 24 (0, 0)) by rw [hw5]; exact new_row _ _)
         obtain ⟨w6, hw6⟩ : ∃ w6, w6 = w5.alloc (.cells #[.int .i64 (x % 12), .int .i64 (0), .int .i64 (0)] 3) := ⟨_, rfl⟩
         have HC := hid (rcmp_any ⟨5, [x % 12, 0, 0]⟩ ⟨5, [x % 12, 0, 0]⟩ _ _ w6 ⟨_, rfl, HF5.out.on (show Below w5.heap.size w5 w6 by rw [hw6]; exact up_alloc _ _)⟩ ⟨_, rfl, IA.at [x % 12, 0, 0] (show w6.heap[w5.heap.size]? = some _ by rw [hw6]; exact new_row _ _) (by simp)⟩)
         rw [cmpV_self] at HC
         have HB6 := hid (show Below W.heap.size W w6 by rw [hw6]; exact up_trans HB5.out (up_alloc _ _))
         have k0 : w5.cell? ⟨w4.heap.size, 0, none⟩ = some (.int .i64 5) := by rw [cell_of_row K5.out]; rfl
         have k1 : w5.cell? ⟨w4.heap.size, 1, none⟩ = some (.slice (some ⟨gb, go, none⟩) 3 cap) := by rw [cell_of_row K5.out]; rfl
         rw [← hw5]
         clear hw5
         go_wp2_with fail
         rw [← hw6]
         refine HC.out.mono ?_
         rintro e w7 ⟨rfl, hb7⟩
         have HB7 := hid (up_trans HB6.out hb7)
         clear hb7 hw6
         go_wp2
         go_ret
         exact ⟨rfl, HB7.out⟩)
      | (obtain ⟨w5, hw5⟩ : ∃ w5, w5 = (w4.setCell ⟨w2.heap.size, 0, none⟩ (.int .i64 5)).setCell ⟨w2.heap.size, 1, none⟩ (.slice (some ⟨gb, go, none⟩) 3 cap) := ⟨_, rfl⟩
         have HB5 := hid (show Below W.heap.size W w5 by rw [hw5]; exact (HB4.out.setCell (p := ⟨w2.heap.size, 0, none⟩) (HB2.out.size) _).setCell (p := ⟨w2.heap.size, 1, none⟩) (HB2.out.size) _)
         have HF5 := hid (show IA w5 _ _ by rw [hw5]; exact (NA.set (NA.set HNA.out ((Array.getElem?_eq_some_iff.1 ZB.out).1)) ((Array.getElem?_eq_some_iff.1 ZB.out).1)).ia)
         have K5 := hid (show w5.heap[w2.heap.size]? = some (.cells #[.int .i64 5, .slice (some ⟨gb, go, none⟩) 3 cap] 24 (0, 0)) by rw [hw5]; exact heap_setCell_same _ _ 1 _ _ _ (heap_setCell_same _ _ 0 _ _ _ ZC.out))
         obtain ⟨w6, hw6⟩ : ∃ w6, w6 = w5.alloc (.cells #[.int .i64 (x % 12), .int .i64 (0), .int .i64 (0)] 3) := ⟨_, rfl⟩
         have HC := hid (rcmp_any ⟨5, [x % 12, 0, 0]⟩ ⟨5, [x % 12, 0, 0]⟩ _ _ w6 ⟨_, rfl, HF5.out.on (show Below w5.heap.size w5 w6 by rw [hw6]; exact up_alloc _ _)⟩ ⟨_, rfl, IA.at [x % 12, 0, 0] (show w6.heap[w5.heap.size]? = some _ by rw [hw6]; exact new_row _ _) (by simp)⟩)
         rw [cmpV_self] at HC
         have HB6 := hid (show Below W.heap.size W w6 by rw [hw6]; exact up_trans HB5.out (up_alloc _ _))
         have k0 : w5.cell? ⟨w2.heap.size, 0, none⟩ = some (.int .i64 5) := by rw [cell_of_row K5.out]; rfl
         have k1 : w5.cell? ⟨w2.heap.size, 1, none⟩ = some (.slice (some ⟨gb, go, none⟩) 3 cap) := by rw [cell_of_row K5.out]; rfl
         rw [← hw5]
         clear hw5
         go_wp2_with fail
         rw [← hw6]
         refine HC.out.mono ?_
         rintro e w7 ⟨rfl, hb7⟩
         have HB7 := hid (up_trans HB6.out hb7)
         clear hb7 hw6
         go_wp2
         go_ret
         exact ⟨rfl, HB7.out⟩)
      | (obtain ⟨w5, hw5⟩ : ∃ w5, w5 = (w4.setCell ⟨w3.heap.size, 0, none⟩ (.int .i64 5)).setCell ⟨w3.heap.size, 1, none⟩ (.slice (some ⟨gb, go, none⟩) 3 cap) := ⟨_, rfl⟩
         have HB5 := hid (show Below W.heap.size W w5 by rw [hw5]; exact (HB4.out.setCell (p := ⟨w3.heap.size, 0, none⟩) ((up_trans HB2.out HB3.out).size) _).setCell (p := ⟨w3.heap.size, 1, none⟩) ((up_trans HB2.out HB3.out).size) _)
         have HF5 := hid (show IA w5 _ _ by rw [hw5]; exact (NA.set (NA.set HNA.out (by simp)) (by simp)).ia)
         have K5 := hid (show w5.heap[w3.heap.size]? = some (.cells #[.int .i64 5, .slice (some ⟨gb, go, none⟩) 3 cap] 24 (0, 0)) by rw [hw5]; exact heap_setCell_same _ _ 1 _ _ _ (heap_setCell_same _ _ 0 _ _ _ ZC.out))
         obtain ⟨w6, hw6⟩ : ∃ w6, w6 = w5.alloc (.cells #[.int .i64 (x % 12), .int .i64 (0), .int .i64 (0)] 3) := ⟨_, rfl⟩
         have HC := hid (rcmp_any ⟨5, [x % 12, 0, 0]⟩ ⟨5, [x % 12, 0, 0]⟩ _ _ w6 ⟨_, rfl, HF5.out.on (show Below w5.heap.size w5 w6 by rw [hw6]; exact up_alloc _ _)⟩ ⟨_, rfl, IA.at [x % 12, 0, 0] (show w6.heap[w5.heap.size]? = some _ by rw [hw6]; exact new_row _ _) (by simp)⟩)
         rw [cmpV_self] at HC
         have HB6 := hid (show Below W.heap.size W w6 by rw [hw6]; exact up_trans HB5.out (up_alloc _ _))
         have k0 : w5.cell? ⟨w3.heap.size, 0, none⟩ = some (.int .i64 5) := by rw [cell_of_row K5.out]; rfl
         have k1 : w5.cell? ⟨w3.heap.size, 1, none⟩ = some (.slice (some ⟨gb, go, none⟩) 3 cap) := by rw [cell_of_row K5.out]; rfl
         rw [← hw5]
         clear hw5
         go_wp2_with fail
         rw [← hw6]
         refine HC.out.mono ?_
         rintro e w7 ⟨rfl, hb7⟩
         have HB7 := hid (up_trans HB6.out hb7)
         clear hb7 hw6
         go_wp2
         go_ret
         exact ⟨rfl, HB7.out⟩)

end Go.Proofs.YtdecphhmiioihaaDoor
