/- The chapter's example and its rules, as the statements ask for them first: it holds. -/
import Derived.Test.YtgpkgkmjppphgaaDoorBase
namespace Go.Proofs.YtgpkgkmjppphgaaDoor
open Go.RowKit

/-- A block's five cells. -/
def Box (w : World) (g : Nat) (v0 v1 v2 v3 v4 : Value) : Prop := w.cell? ⟨g, 0, none⟩ = some v0 ∧ w.cell? ⟨g, 1, none⟩ = some v1 ∧ w.cell? ⟨g, 2, none⟩ = some v2 ∧ w.cell? ⟨g, 3, none⟩ = some v3 ∧ w.cell? ⟨g, 4, none⟩ = some v4
theorem Box.on {w w' : World} {g : Nat} {v0 v1 v2 v3 v4 : Value} (h : Box w g v0 v1 v2 v3 v4) (hb : Below w.heap.size w w') : Box w' g v0 v1 v2 v3 v4 :=
  ⟨(hb.cell (lt_of_cell h.1)).trans h.1, (hb.cell (lt_of_cell h.2.1)).trans h.2.1, (hb.cell (lt_of_cell h.2.2.1)).trans h.2.2.1, (hb.cell (lt_of_cell h.2.2.2.1)).trans h.2.2.2.1, (hb.cell (lt_of_cell h.2.2.2.2)).trans h.2.2.2.2⟩
theorem box_new (w : World) (v0 v1 v2 v3 v4 : Value) (t : TypeId) (g : Nat) (hg : g = w.heap.size) : Box (w.alloc (.cells #[v0, v1, v2, v3, v4] t)) g v0 v1 v2 v3 v4 := by
  subst hg
  exact ⟨by rw [new_cell]; rfl, by rw [new_cell]; rfl, by rw [new_cell]; rfl, by rw [new_cell]; rfl, by rw [new_cell]; rfl⟩

/-- The two rules of the example, as they lie from block n on. -/
def Ex (n : Nat) (W : World) : Prop := Row W (.slice (some ⟨n, 0, none⟩) 1 1) aR.rhs ∧ Row W (.slice (some ⟨n + 1, 0, none⟩) 1 1) aR.p ∧ Row W (.slice (some ⟨n + 3, 0, none⟩) 1 1) bR.rhs ∧ Row W (.slice (some ⟨n + 4, 0, none⟩) 1 1) bR.p
  ∧ Box W (n + 2) (.int .i64 0) (.slice (some ⟨n, 0, none⟩) 1 1) (.int .i64 0) (.slice (some ⟨n + 1, 0, none⟩) 1 1) (.int .i64 0) ∧ Box W (n + 5) (.int .i64 1) (.slice (some ⟨n + 3, 0, none⟩) 1 1) (.int .i64 0) (.slice (some ⟨n + 4, 0, none⟩) 1 1) (.int .i64 0)
theorem Ex.on {n : Nat} {W W' : World} (h : Ex n W) (hb : Below W.heap.size W W') : Ex n W' := ⟨h.1.on hb, h.2.1.on hb, h.2.2.1.on hb, h.2.2.2.1.on hb, h.2.2.2.2.1.on hb, h.2.2.2.2.2.on hb⟩
theorem UnitsAt.on {w w' : World} {B : Nat} {v : Value} {f : Nat → List Int} (h : UnitsAt w B v f) (hb : Below w.heap.size w w') : UnitsAt w' B v f := by
  obtain ⟨g, us, rfl, ho, hu⟩ := h
  refine ⟨g, us, rfl, owns_below ho hb, fun i hi => ?_⟩
  obtain ⟨u, h1, h2⟩ := hu i hi
  exact ⟨u, h1, h2.on hb⟩
theorem UnitsAt.cell {w : World} {B g : Nat} {us : List Value} (ho : w.ownsRow B 22 1 (.slice (some ⟨g, 0, none⟩) 20 20) 20 us) {i : Nat} {u : Value} (h1 : us[i]? = some u) : w.cell? ⟨g, i, none⟩ = some u := by
  have hl : i < us.length := (List.getElem?_eq_some_iff.1 h1).1
  have := ho.1
  rw [ho.cellAt i (by omega)]; exact h1

theorem RowNew.at {w : World} {B : Nat} {v : Value} {xs : List Int} (h : RowNew w B v xs) (hx : 0 < xs.length) : ∃ g cap, v = .slice (some ⟨g, 0, none⟩) xs.length cap ∧ B ≤ g ∧ ∀ j, j < xs.length → w.cell? ⟨g, j, none⟩ = some (.int .i64 (xs.getD j 0)) ∧ w.frozen? ⟨g, j, none⟩ = false := by
  have h0 := h
  obtain ⟨_, ⟨rfl, h0⟩ | ⟨g, cap, cur, rfl, hb, _⟩⟩ := h
  · omega
  · refine ⟨g, cap, rfl, hb, fun j hj => ⟨?_, World.ownsRow.frozenAt h0 j⟩⟩
    rw [World.ownsRow.cellAt h0 j (by omega), List.getElem?_map, getD_at hj]
    rfl

set_option maxRecDepth 4000 in
theorem known_any (w : World) (hT : Tab w) : Calls Tryd.prog 13 #[] w fun e w' => e = .returned (.bool true) ∧ Below w.heap.size w w' := by
  have HT := hid hT
  obtain ⟨n, hn⟩ : ∃ n, w.heap.size = n := ⟨_, rfl⟩
  obtain ⟨W, hW⟩ : ∃ W, W = ((((((w.alloc (.cells #[.int .i64 1] 3)).alloc (.cells #[.int .i64 0] 3)).alloc (.cells #[.int .i64 0, .slice (some ⟨w.heap.size, 0, none⟩) 1 1, .int .i64 0, .slice (some ⟨w.heap.size + 1, 0, none⟩) 1 1, .int .i64 0] 26)).alloc (.cells #[.int .i64 0] 3)).alloc (.cells #[.int .i64 0] 3)).alloc (.cells #[.int .i64 1, .slice (some ⟨w.heap.size + 3, 0, none⟩) 1 1, .int .i64 0, .slice (some ⟨w.heap.size + 4, 0, none⟩) 1 1, .int .i64 0] 26)) := ⟨_, rfl⟩
  have RA1 : Row W (.slice (some ⟨w.heap.size, 0, none⟩) 1 1) aR.rhs := by
    rw [hW]; exact ((((((row_one w 1 _ rfl).on (up_alloc _ _)).on (up_alloc _ _)).on (up_alloc _ _)).on (up_alloc _ _)).on (up_alloc _ _))
  have RA2 : Row W (.slice (some ⟨w.heap.size + 1, 0, none⟩) 1 1) aR.p := by
    rw [hW]; exact (((((row_one _ 0 _ (by simp)).on (up_alloc _ _)).on (up_alloc _ _)).on (up_alloc _ _)).on (up_alloc _ _))
  have RB1 : Row W (.slice (some ⟨w.heap.size + 3, 0, none⟩) 1 1) bR.rhs := by
    rw [hW]; exact (((row_one _ 0 _ (by simp)).on (up_alloc _ _)).on (up_alloc _ _))
  have RB2 : Row W (.slice (some ⟨w.heap.size + 4, 0, none⟩) 1 1) bR.p := by
    rw [hW]; exact ((row_one _ 0 _ (by simp)).on (up_alloc _ _))
  have BA : Box W (w.heap.size + 2) (.int .i64 0) (.slice (some ⟨w.heap.size, 0, none⟩) 1 1) (.int .i64 0) (.slice (some ⟨w.heap.size + 1, 0, none⟩) 1 1) (.int .i64 0) := by
    rw [hW]; exact ((((box_new _ _ _ _ _ _ _ _ (by simp)).on (up_alloc _ _)).on (up_alloc _ _)).on (up_alloc _ _))
  have BB : Box W (w.heap.size + 5) (.int .i64 1) (.slice (some ⟨w.heap.size + 3, 0, none⟩) 1 1) (.int .i64 0) (.slice (some ⟨w.heap.size + 4, 0, none⟩) 1 1) (.int .i64 0) := by
    rw [hW]; exact box_new _ _ _ _ _ _ _ _ (by simp)
  have hL : Below w.heap.size w W := by
    rw [hW]; exact (up_trans (up_trans (up_trans (up_trans (up_trans (up_alloc _ _) (up_alloc _ _)) (up_alloc _ _)) (up_alloc _ _)) (up_alloc _ _)) (up_alloc _ _))
  have HW := hid hW
  have HK : Hid (Ex w.heap.size W) := hid ⟨RA1, RA2, RB1, RB2, BA, BB⟩
  have HL := hid hL
  have HSZ : Hid (W.heap.size = w.heap.size + 6) := hid (by rw [hW]; simp)
  clear RA1 RA2 RB1 RB2 BA BB hL hT hW hn
  have hra : [aR].all right = true := by simp [right_a]
  have HRA := hid hra
  clear hra
  go_enter Tryd.func13, Tryd.ntmps13
  go_wp2_with fail
  rw [← HW.out]
  refine (units_any [aR] _ _ (rules_one W aR _ _ HK.out.1 HK.out.2.1 _ HSZ.out.symm) (HT.out.on (up_trans HL.out (up_alloc _ _))) HRA.out).mono ?_
  rintro e w1 ⟨u, rfl, hu, bel⟩
  have HU := hid hu
  have HL1 := hid (up_trans HL.out (up_trans (up_alloc _ _) bel))
  have HK1 := hid (HK.out.on (up_trans (up_alloc _ _) bel))
  clear bel hu
  obtain ⟨c0, c1, c2, c3, c4⟩ := HK1.out.2.2.2.2.1
  obtain ⟨gu, us, hu1, hu2, hu3⟩ := HU.out
  have HU1 := hid hu1
  subst hu1
  clear hu2 hu3 HU1
  go_wp2_with fail
  refine (reached_any [aR] _ _ (rules_one w1 aR _ _ HK1.out.1 HK1.out.2.1 _ rfl) (HT.out.on (up_trans HL1.out (up_alloc _ _))) HRA.out).mono ?_
  rintro e w2 ⟨v, rfl, hv, bel⟩
  rw [reached_a] at hv
  have HV := hid hv
  have HU2 := hid (HU.out.on (up_trans (up_alloc _ _) bel))
  have HL2 := hid (up_trans HL1.out (up_trans (up_alloc _ _) bel))
  have HK2 := hid (HK1.out.on (up_trans (up_alloc _ _) bel))
  obtain ⟨adv, capv, hv1⟩ := hv.shape
  subst hv1
  clear bel hv c0 c1 c2 c3 c4 HU HK1 HL1
  go_wp2_with fail
  refine (check_any [] _ w2 (rules_nil w2) (HT.out.on HL2.out)).mono ?_
  rintro e w3 ⟨rfl, bel⟩
  rw [check_nil]
  have HV3 := hid (HV.out.on bel)
  have HU3 := hid (HU2.out.on bel)
  have HL3 := hid (up_trans HL2.out bel)
  have HK3 := hid (HK2.out.on bel)
  clear bel HV HU2 HL2 HK2
  obtain ⟨c0, c1, c2, c3, c4⟩ := HK3.out.2.2.2.2.1
  go_wp2_with fail
  refine (right_any aR _ w3 ⟨_, _, rfl, HK3.out.1, HK3.out.2.1⟩ (HT.out.on HL3.out)).mono ?_
  rintro e w4 ⟨rfl, bel⟩
  rw [right_a]
  have HV4 := hid (HV3.out.on bel)
  have HU4 := hid (HU3.out.on bel)
  have HL4 := hid (up_trans HL3.out bel)
  have HK4 := hid (HK3.out.on bel)
  clear bel HV3 HU3 HL3 HK3 c0 c1 c2 c3 c4
  obtain ⟨c0, c1, c2, c3, c4⟩ := HK4.out.2.2.2.2.1
  go_wp2_with fail
  refine (check_any [aR] _ _ (rules_one w4 aR _ _ HK4.out.1 HK4.out.2.1 _ rfl) (HT.out.on (up_trans HL4.out (up_alloc _ _)))).mono ?_
  rintro e w5 ⟨rfl, bel⟩
  rw [check_a]
  have HV5 := hid (HV4.out.on (up_trans (up_alloc _ _) bel))
  have HU5 := hid (HU4.out.on (up_trans (up_alloc _ _) bel))
  have HL5 := hid (up_trans HL4.out (up_trans (up_alloc _ _) bel))
  have HK5 := hid (HK4.out.on (up_trans (up_alloc _ _) bel))
  clear bel HV4 HU4 HL4 HK4 c0 c1 c2 c3 c4
  obtain ⟨c0, c1, c2, c3, c4⟩ := HK5.out.2.2.2.2.1
  obtain ⟨d0, d1, d2, d3, d4⟩ := HK5.out.2.2.2.2.2
  go_wp2_with fail
  refine (check_any [aR, bR] _ _ (rules_two w5 aR bR _ _ _ _ HK5.out.1 HK5.out.2.1 HK5.out.2.2.1 HK5.out.2.2.2.1 _ rfl) (HT.out.on (up_trans HL5.out (up_alloc _ _)))).mono ?_
  rintro e w6 ⟨rfl, bel⟩
  rw [check_ab]
  have hv6 := HV5.out.on (up_trans (up_alloc _ _) bel)
  have hu6 := HU5.out.on (up_trans (up_alloc _ _) bel)
  have HL6 := hid (up_trans HL5.out (up_trans (up_alloc _ _) bel))
  clear bel HV5 HU5 HL5 HK5 c0 c1 c2 c3 c4 d0 d1 d2 d3 d4
  obtain ⟨g6, us6, e6, ho6, hall6⟩ := hu6
  simp only [Value.slice.injEq, Option.some.injEq, Addr.mk.injEq, and_true] at e6
  subst e6
  obtain ⟨u0, hu0, hr0⟩ := hall6 0 (by decide)
  have x0 := UnitsAt.cell ho6 hu0
  obtain ⟨ad0, cap0, hs0⟩ := hr0.shape
  rw [units_a] at hs0
  subst hs0
  obtain ⟨a2, cap2, e2, _, hc2⟩ := hv6.at (by simp)
  simp only [Value.slice.injEq] at e2
  obtain ⟨e4, -, -⟩ := e2
  subst e4
  have hc4 : w6.cell? ⟨a2, 1, none⟩ = some (.int .i64 1) := (hc2 1 (by simp)).1
  clear hc2 ho6 hu0 hr0 hall6 hv6
  go_wp2
  go_ret
  exact ⟨rfl, HL6.out⟩

end Go.Proofs.YtgpkgkmjppphgaaDoor
