/- GramRight answers true of every rule, every row of raw rules and every two ints: whether a rule may be is the document's; so is one of which one thing was turned. The table of places reads as the program's text lays it. -/
import Derived.Test.YtgpkgkmjppphgaaDoorCards
import Derived.Test.YtgpkgkmjppphgaaDoorTie
import Derived.Test.YtgpkgkmjppphgaaDoorTable
import Derived.Test.YtgpkgkmjppphgaaDoorRuleArg
import Derived.Test.YtgpkgkmjppphgaaDoorLawBase
import Derived.Test.YtgpkgkmjppphgaaDoorHeldR
import Derived.Test.YtgpkgkmjppphgaaDoorRefR
import Derived.Deep.RegionHeld
import Derived.ProofKit
import Derived.OpenShut
import Derived.Lay
import Derived.SevenTiedAt
import Derived.Stop.Joined
import Derived.Lib.LaidTab
namespace Go.Proofs.YtgpkgkmjppphgaaDoor
open Go.ChangeShapes Go.WideShapes Go.ChangeAt Go.RowKit

/-- The ten cells of the two variables. -/
def Ten (w : World) (g4 g9 : Nat) (a0 a1 a2 a3 a4 b0 b1 b2 b3 b4 : Value) : Prop := Box w g4 a0 a1 a2 a3 a4 ∧ Box w g9 b0 b1 b2 b3 b4
theorem ten_on {wE W W' : World} {g4 g9 : Nat} {a0 a1 a2 a3 a4 b0 b1 b2 b3 b4 : Value} (b : Below W.heap.size W W')
    (h : (W.cell? ⟨g4, 0, none⟩ = some a0 ∧ W.cell? ⟨g4, 1, none⟩ = some a1 ∧ W.cell? ⟨g4, 2, none⟩ = some a2 ∧ W.cell? ⟨g4, 3, none⟩ = some a3 ∧ W.cell? ⟨g4, 4, none⟩ = some a4 ∧ W.cell? ⟨g9, 0, none⟩ = some b0 ∧ W.cell? ⟨g9, 1, none⟩ = some b1 ∧ W.cell? ⟨g9, 2, none⟩ = some b2 ∧ W.cell? ⟨g9, 3, none⟩ = some b3 ∧ W.cell? ⟨g9, 4, none⟩ = some b4) ∧ Hid (Below wE.heap.size wE W)) :
    (W'.cell? ⟨g4, 0, none⟩ = some a0 ∧ W'.cell? ⟨g4, 1, none⟩ = some a1 ∧ W'.cell? ⟨g4, 2, none⟩ = some a2 ∧ W'.cell? ⟨g4, 3, none⟩ = some a3 ∧ W'.cell? ⟨g4, 4, none⟩ = some a4 ∧ W'.cell? ⟨g9, 0, none⟩ = some b0 ∧ W'.cell? ⟨g9, 1, none⟩ = some b1 ∧ W'.cell? ⟨g9, 2, none⟩ = some b2 ∧ W'.cell? ⟨g9, 3, none⟩ = some b3 ∧ W'.cell? ⟨g9, 4, none⟩ = some b4) ∧ Hid (Below wE.heap.size wE W') := by
  obtain ⟨⟨h0, h1, h2, h3, h4, k0, k1, k2, k3, k4⟩, hb⟩ := h
  exact ⟨⟨(b.cell (lt_of_cell h0)).trans h0, (b.cell (lt_of_cell h1)).trans h1, (b.cell (lt_of_cell h2)).trans h2, (b.cell (lt_of_cell h3)).trans h3, (b.cell (lt_of_cell h4)).trans h4, (b.cell (lt_of_cell k0)).trans k0, (b.cell (lt_of_cell k1)).trans k1, (b.cell (lt_of_cell k2)).trans k2, (b.cell (lt_of_cell k3)).trans k3, (b.cell (lt_of_cell k4)).trans k4⟩, hid (up_trans hb.out b)⟩
theorem ten_below {P : Prop} {wE W : World} (h : P ∧ Hid (Below wE.heap.size wE W)) : Below wE.heap.size wE W := h.2.out
/-- What both validators answer of the two rules. -/
theorem both_right {w : World} {va vb : Value} {ra rb : Rule} (ha : RuleAt w va ra) (hb : RuleAt w vb rb) (hT : Tab w) :
    (∀ v b w', (v = va ∧ b = right ra) ∨ (v = vb ∧ b = right rb) → Below w.heap.size w w' → Calls Tryd.prog 16 #[v] w' fun e w2 => e = .returned (.bool b) ∧ Below w'.heap.size w' w2) ∧
    (∀ v b w', (v = va ∧ b = right ra) ∨ (v = vb ∧ b = right rb) → Below w.heap.size w w' → Calls Tryd.prog 18 #[v] w' fun e w2 => e = .returned (.bool b) ∧ Below w'.heap.size w' w2) := by
  refine ⟨fun v b w' h bel => ?_, fun v b w' h bel => ?_⟩
  · rcases h with ⟨rfl, rfl⟩ | ⟨rfl, rfl⟩
    · exact right_any _ _ _ (ha.on bel) (hT.on bel)
    · exact right_any _ _ _ (hb.on bel) (hT.on bel)
  · rcases h with ⟨rfl, rfl⟩ | ⟨rfl, rfl⟩
    · exact rright_any _ _ _ (ha.on bel)
    · exact rright_any _ _ _ (hb.on bel)

set_option maxRecDepth 4000 in
set_option maxHeartbeats 20000000 in
theorem walk (v0 : Value) (x0 : Rule) (v1 : Value) (l : List Raw) (a2 a3 : Int) (W : World) (h0 : RuleAt W v0 x0) (hl0 : RawsAt W v1 l) (_ : (Lit.int .i64 a2).wf = true) (_ : (Lit.int .i64 a3).wf = true) (hT : Tab W) : Calls Tryd.prog 3 #[v0, v1, .int .i64 a2, .int .i64 a3] W fun e W' => e = .returned (.bool true) ∧ Below W.heap.size W W' := by
  obtain ⟨s0, p0, hv, hs0, hp0⟩ := h0
  have hs1 := hs0
  have hp1 := hp0
  obtain ⟨ad0, cs, es, ms, _⟩ := hs1
  obtain ⟨ap, cp, ep, mp, _⟩ := hp1
  subst hv es ep
  have HR0 := hid (And.intro hs0 hp0)
  have HL0 := hid hl0
  have HT := hid hT
  obtain ⟨ad, cap, hv1, hmx, hc⟩ := hl0
  subst hv1
  have HC := hid hc
  have HF := hid (fun w1 (bel : Below W.heap.size W w1) => few_any l _ w1 (HL0.out.on bel))
  have HFR : Hid (few l = true → l.length ≤ 80) := hid (fun h => (few_raw h).1)
  unfold maxLen at hmx ms mp
  clear hc hT hs0 hp0
  generalize hb : few l = b at *
  clear hb
  generalize hn : l.length = n at *
  have HN := hid hn
  generalize hns : x0.rhs.length = ns at *
  generalize hnp : x0.p.length = np at *
  have HNS := hid hns
  have HNP := hid hnp
  clear hn hns hnp
  unfold ruleV
  have HB4 := hid (box_new W (.int .i64 x0.lhs) (.slice ad0 ns cs) (.int .i64 x0.op) (.slice ap np cp) (.int .i64 x0.cost) 26 _ rfl)
  have HU := hid (up_alloc W (.cells #[.int .i64 x0.lhs, .slice ad0 ns cs, .int .i64 x0.op, .slice ap np cp, .int .i64 x0.cost] 26))
  obtain ⟨W1, hW1⟩ : ∃ W1, W1 = W.alloc (.cells #[.int .i64 x0.lhs, .slice ad0 ns cs, .int .i64 x0.op, .slice ap np cp, .int .i64 x0.cost] 26) := ⟨_, rfl⟩
  rw [← hW1] at HB4 HU
  have hz : W.heap.size < W1.heap.size := by rw [hW1]; simp
  have HK := hid (known_any W1 (HT.out.on HU.out))
  go_enter Tryd.func3, Tryd.ntmps3
  go_wp2_with fail
  rw [← hW1]
  refine HK.out.mono ?_
  rintro e w1 ⟨rfl, bel⟩
  clear hW1
  have HB1 := hid (HB4.out.on bel)
  obtain ⟨d0, d1, d2, d3, d4⟩ := HB1.out
  have HL1 := hid bel
  have HLW := hid (up_trans HU.out bel)
  have hz1 : W1.heap.size ≤ w1.heap.size := bel.size
  clear bel HK
  go_wp2_with fail
  refine (HF.out w1 HLW.out).mono ?_
  rintro e w2 ⟨rfl, hw2⟩
  obtain rfl := hw2.symm
  clear hw2
  by_cases q1 : b = false
  · subst q1
    go_wp2
    go_ret
    exact ⟨rfl, HLW.out⟩
  have q2 : b = true := by cases b <;> simp_all
  subst q2
  clear q1
  have h80 := HFR.out rfl
  by_cases q1 : 20 < ns
  · go_wp2
    go_ret
    exact ⟨rfl, HLW.out⟩
  by_cases q2 : 20 < np
  · go_wp2
    go_ret
    exact ⟨rfl, HLW.out⟩
  by_cases q3 : n = 0
  · subst q3
    go_wp2
    go_ret
    exact ⟨rfl, HLW.out⟩
  have q4 : 0 < n := by omega
  obtain ⟨a, rfl, hraw⟩ := HC.out 0 q4
  generalize l.getD 0 nilRaw = r at *
  obtain ⟨sv, pv, c0, c1, c2, c3, c4, h5, h6, h7⟩ := hraw.on HLW.out
  have HMK := hid (make_any r sv pv 20 (by decide) h7 w1 h5 h6)
  obtain ⟨ad1, cap1, e1, _, _⟩ := h5
  obtain ⟨ad2, cap2, e2, _, _⟩ := h6
  subst e1 e2
  simp only [Nat.zero_mul, add_zero] at c0 c1 c2 c3 c4
  clear hraw h7
  have g1 : decide (20 < (ns : Int)) = false := by simp; omega
  have g2 : decide (20 < (np : Int)) = false := by simp; omega
  have g3 : ((n : Int) == 0) = false := by simp; omega
  have g4 : ¬ (20 : Int) < (ns : Int) := by omega
  have g5 : ¬ (20 : Int) < (np : Int) := by omega
  go_wp2_with fail
  refine HMK.out.mono ?_
  rintro e wm ⟨sv', pv', rfl, hs', hp', hbm⟩
  unfold ruleV
  have hsm : 1 ≤ (mkRule r 20).rhs.length ∧ (mkRule r 20).rhs.length ≤ 1000 ∧ 1 ≤ (mkRule r 20).p.length ∧ (mkRule r 20).p.length ≤ 1000 := by
    have h1 := mkC_range r
    have h2 := mkN_range r
    simp only [mkRule, mkRhs_length, mkPs_length]
    omega
  have hmr := make_right r 20 (by decide)
  generalize mkRule r 20 = q at *
  have hH := held_new hs' hp'
  obtain ⟨gs, cap5, hv5, hgs, _⟩ := hs'.at (by omega)
  obtain ⟨gp, cap6, hv6, hgp, _⟩ := hp'.at (by omega)
  subst hv5 hv6
  have HSM := hid hsm
  have hzm := hbm.size
  generalize hn5 : q.rhs.length = n5 at *
  generalize hn6 : q.p.length = n6 at *
  have HH := hid hH
  have HBM := hid hbm
  clear hs' hp' hH hbm c0 c1 c2 c3 c4
  have HT1 := hid (HT.out.on HU.out)
  have HLM := hid (up_trans HL1.out (up_trans HBM.out (up_alloc wm (.cells #[.int .i64 q.lhs, .slice (some ⟨gs, 0, none⟩) n5 cap5, .int .i64 q.op, .slice (some ⟨gp, 0, none⟩) n6 cap6, .int .i64 q.cost] 26))))
  have hlt0 : q.rhs.length ≤ maxLen ∧ q.p.length ≤ maxLen := by unfold maxLen; omega
  have HRQ := hid (right_any q _ _ (HH.out.rule hlt0.1 hlt0.2) (HT1.out.on HLM.out))
  rw [hmr] at HRQ
  clear hmr hlt0
  go_wp2_with fail
  refine HRQ.out.mono ?_
  rintro e w6 ⟨rfl, bel⟩
  have HH6 := hid (HH.out.on bel)
  have HL6 := hid (up_trans HLM.out bel)
  have hz6 : wm.heap.size < w6.heap.size := HH6.out.lt
  obtain ⟨c0, c1, c2, c3, c4⟩ := HH6.out.box
  have f0 := HH6.out.frozen 0
  have f1 := HH6.out.frozen 1
  have f2 := HH6.out.frozen 2
  have f3 := HH6.out.frozen 3
  have f4 := HH6.out.frozen 4
  have hB6 : w1.heap.size ≤ w6.heap.size := by omega
  have hg9 : W1.heap.size ≤ wm.heap.size := by omega
  generalize wm.heap.size = g9 at *
  clear HRQ bel HH HLM HBM
  obtain ⟨k, hk⟩ : ∃ k : Nat, a2 % 7 = (k : Int) := ⟨(a2 % 7).toNat, by omega⟩
  have hk7 : k < 7 := by omega
  have HW7 := hid (fun w => lwithin_any a2 7 w (by decide) (by decide))
  rw [hk] at HW7
  clear hk
  go_wp2_with fail
  refine (HW7.out w6).mono ?_
  rintro e w7 ⟨rfl, hw⟩
  obtain rfl := hw.symm
  clear hw HW7
  by_cases k0 : k = 0
  · subst k0
    obtain ⟨m, hm⟩ : ∃ m : Nat, a3 % 5 = (m : Int) := ⟨(a3 % 5).toNat, by omega⟩
    have hm5 : m < 5 := by omega
    have HW5 := hid (fun w => lwithin_any a3 5 w (by decide) (by decide))
    rw [hm] at HW5
    clear hm
    obtain ⟨z, hz⟩ := lit_cell w6 [-1, 0, 19, 20, a3] m hm5 #[.int .i64 (-1), .int .i64 0, .int .i64 19, .int .i64 20, .int .i64 a3] rfl
    go_wp2_with (first | (go_at_call 17; refine (HW5.out _).mono ?_; rintro e w8 ⟨rfl, hw⟩; obtain rfl := hw.symm; clear hw))
    obtain ⟨wE, hwE⟩ : ∃ wE, wE = (w6.setCell ⟨g9, 0, none⟩ (.int .i64 z)).alloc (.cells #[.int .i64 (-1), .int .i64 0, .int .i64 19, .int .i64 20, .int .i64 a3] 3) := ⟨_, rfl⟩
    have HE : Hid (∃ qE svE pvE, HeldR wE w1.heap.size g9 qE svE pvE ∧ qE.rhs.length ≤ maxLen ∧ qE.p.length ≤ maxLen) := hid (by rw [hwE]; exact ⟨_, _, _, (HH6.out.lhs z).on (up_alloc _ _), by show q.rhs.length ≤ maxLen; unfold maxLen; omega, by show q.p.length ≤ maxLen; unfold maxLen; omega⟩)
    have HBE : Hid (Below W1.heap.size W1 wE) := hid (by rw [hwE]; exact (HL6.out.setCell (p := ⟨g9, 0, none⟩) hg9 _).alloc (by simp [World.setCell]; omega) _)
    rw [← hwE]
    clear hwE
    obtain ⟨qE, svE, pvE, hE, hE1, hE2⟩ := HE.out
    have HAE := hid ((show RuleAt W (.agg #[.int .i64 x0.lhs, .slice ad0 ns cs, .int .i64 x0.op, .slice ap np cp, .int .i64 x0.cost]) x0 from ⟨_, _, rfl, HR0.out.1, HR0.out.2⟩).on (up_trans HU.out HBE.out))
    have HBR := hid (both_right (hE.rule hE1 hE2) HAE.out (HT1.out.on HBE.out))
    obtain ⟨e0, e1, e2, e3, e4⟩ := hE.box
    obtain ⟨k0, k1, k2, k3, k4⟩ := HB4.out.on HBE.out
    have HLE := hid (up_trans HU.out HBE.out)
    have y0 : (fun w' : World => (w'.cell? ⟨W.heap.size, 0, none⟩ = some (.int .i64 x0.lhs) ∧ w'.cell? ⟨W.heap.size, 1, none⟩ = some (.slice ad0 ns cs) ∧ w'.cell? ⟨W.heap.size, 2, none⟩ = some (.int .i64 x0.op) ∧ w'.cell? ⟨W.heap.size, 3, none⟩ = some (.slice ap np cp) ∧ w'.cell? ⟨W.heap.size, 4, none⟩ = some (.int .i64 x0.cost) ∧ w'.cell? ⟨g9, 0, none⟩ = some (.int .i64 qE.lhs) ∧ w'.cell? ⟨g9, 1, none⟩ = some svE ∧ w'.cell? ⟨g9, 2, none⟩ = some (.int .i64 qE.op) ∧ w'.cell? ⟨g9, 3, none⟩ = some pvE ∧ w'.cell? ⟨g9, 4, none⟩ = some (.int .i64 qE.cost)) ∧ Hid (Below wE.heap.size wE w')) wE.drew := ⟨⟨k0, k1, k2, k3, k4, e0, e1, e2, e3, e4⟩, hid (Below.refl _ _).drew⟩
    generalize right qE = b1 at *
    generalize right x0 = b2 at *
    clear e0 e1 e2 e3 e4 k0 k1 k2 k3 k4 hE hE1 hE2 HE HBE HAE
    go_region_held (fun w' => (w'.cell? ⟨W.heap.size, 0, none⟩ = some (.int .i64 x0.lhs) ∧ w'.cell? ⟨W.heap.size, 1, none⟩ = some (.slice ad0 ns cs) ∧ w'.cell? ⟨W.heap.size, 2, none⟩ = some (.int .i64 x0.op) ∧ w'.cell? ⟨W.heap.size, 3, none⟩ = some (.slice ap np cp) ∧ w'.cell? ⟨W.heap.size, 4, none⟩ = some (.int .i64 x0.cost) ∧ w'.cell? ⟨g9, 0, none⟩ = some (.int .i64 qE.lhs) ∧ w'.cell? ⟨g9, 1, none⟩ = some svE ∧ w'.cell? ⟨g9, 2, none⟩ = some (.int .i64 qE.op) ∧ w'.cell? ⟨g9, 3, none⟩ = some pvE ∧ w'.cell? ⟨g9, 4, none⟩ = some (.int .i64 qE.cost)) ∧ Hid (Below wE.heap.size wE w')) (first | assumption | exact ten_on (by assumption) (by assumption)) (first | (go_at_call 16; refine (HBR.out.1 _ _ _ (by first | exact .inl ⟨rfl, rfl⟩ | exact .inr ⟨rfl, rfl⟩) (ten_below (by assumption))).mono ?_; rintro e wz ⟨rfl, bz⟩) | (go_at_call 18; refine (HBR.out.2 _ _ _ (by first | exact .inl ⟨rfl, rfl⟩ | exact .inr ⟨rfl, rfl⟩) (ten_below (by assumption))).mono ?_; rintro e wz ⟨rfl, bz⟩))
    all_goals
      go_wp2
      go_ret
      exact ⟨by simp, up_trans HLE.out (ten_below (by assumption))⟩
  by_cases k1 : k = 1
  · subst k1
    obtain ⟨m, hm⟩ : ∃ m : Nat, a3 % 6 = (m : Int) := ⟨(a3 % 6).toNat, by omega⟩
    have hm5 : m < 6 := by omega
    have HW5 := hid (fun w => lwithin_any a3 6 w (by decide) (by decide))
    rw [hm] at HW5
    clear hm
    obtain ⟨z, hz, hz2⟩ : ∃ z, (∀ h : m < ([Value.int .i64 19, Value.int .i64 20, Value.int .i64 (-1), Value.int .i64 (-61), Value.int .i64 (-62), Value.int .i64 a3] : List Value).length, ([Value.int .i64 19, Value.int .i64 20, Value.int .i64 (-1), Value.int .i64 (-61), Value.int .i64 (-62), Value.int .i64 a3] : List Value)[m]'h = .int .i64 z) ∧ ([Value.int .i64 19, Value.int .i64 20, Value.int .i64 (-1), Value.int .i64 (-61), Value.int .i64 (-62), Value.int .i64 a3] : List Value)[m]? = some (.int .i64 z) := lit_get [19, 20, -1, -61, -62, a3] m hm5
    have hm6 : (m : Int) < 6 := by omega
    obtain ⟨zs, y1, y2, y3⟩ := row_at0 HH6.out.2.1 (by omega)
    have y4 : (0 : Int) < (n5 : Int) := by omega
    have y5 : 0 < n5 := by omega
    have y6 : gs < w6.heap.size := lt_of_cell y1
    go_wp2_with fail
    apply key_cut
    case rest =>
      intro key
      go_region_with (first | (go_at_call 17; refine (HW5.out _).mono ?_; rintro e w8 ⟨rfl, hw⟩; obtain rfl := hw.symm; clear hw))
      all_goals exact key
    go_wp2_with fail
    obtain ⟨wE, hwE⟩ : ∃ wE, wE = ((w6.setCell ⟨gs, 0, none⟩ (.int .i64 z)).alloc (.cells #[.int .i64 19, .int .i64 20, .int .i64 (-1), .int .i64 (-61), .int .i64 (-62), .int .i64 a3] 3)).drew := ⟨_, rfl⟩
    have HE : Hid (∃ qE svE pvE, HeldR wE w1.heap.size g9 qE svE pvE ∧ qE.rhs.length ≤ maxLen ∧ qE.p.length ≤ maxLen) := hid (by rw [hwE]; obtain ⟨qE, u1, u2, u3, u4, u5, u6⟩ := HH6.out.cell0 (by omega) (by omega) (k := gs) (fun e => HH6.out.2.2.2.1 (by rw [← e]; rfl)) z; exact ⟨qE, _, _, (u6.on (up_alloc _ _)).drew, by rw [u1]; unfold maxLen; omega, by rw [u2]; unfold maxLen; omega⟩)
    have HBE : Hid (Below W1.heap.size W1 wE) := hid (by rw [hwE]; exact ((HL6.out.setCell (p := ⟨gs, 0, none⟩) (by show W1.heap.size ≤ gs; omega) _).alloc (by simp [World.setCell]; omega) _).drew)
    rw [← hwE]
    clear hwE
    obtain ⟨qE, svE, pvE, hE, hE1, hE2⟩ := HE.out
    have HAE := hid ((show RuleAt W (.agg #[.int .i64 x0.lhs, .slice ad0 ns cs, .int .i64 x0.op, .slice ap np cp, .int .i64 x0.cost]) x0 from ⟨_, _, rfl, HR0.out.1, HR0.out.2⟩).on (up_trans HU.out HBE.out))
    have HBR := hid (both_right (hE.rule hE1 hE2) HAE.out (HT1.out.on HBE.out))
    obtain ⟨e0, e1, e2, e3, e4⟩ := hE.box
    obtain ⟨k0, k1, k2, k3, k4⟩ := HB4.out.on HBE.out
    have HLE := hid (up_trans HU.out HBE.out)
    have y0 : (fun w' : World => (w'.cell? ⟨W.heap.size, 0, none⟩ = some (.int .i64 x0.lhs) ∧ w'.cell? ⟨W.heap.size, 1, none⟩ = some (.slice ad0 ns cs) ∧ w'.cell? ⟨W.heap.size, 2, none⟩ = some (.int .i64 x0.op) ∧ w'.cell? ⟨W.heap.size, 3, none⟩ = some (.slice ap np cp) ∧ w'.cell? ⟨W.heap.size, 4, none⟩ = some (.int .i64 x0.cost) ∧ w'.cell? ⟨g9, 0, none⟩ = some (.int .i64 qE.lhs) ∧ w'.cell? ⟨g9, 1, none⟩ = some svE ∧ w'.cell? ⟨g9, 2, none⟩ = some (.int .i64 qE.op) ∧ w'.cell? ⟨g9, 3, none⟩ = some pvE ∧ w'.cell? ⟨g9, 4, none⟩ = some (.int .i64 qE.cost)) ∧ Hid (Below wE.heap.size wE w')) wE.drew := ⟨⟨k0, k1, k2, k3, k4, e0, e1, e2, e3, e4⟩, hid (Below.refl _ _).drew⟩
    generalize right qE = b1 at *
    generalize right x0 = b2 at *
    clear e0 e1 e2 e3 e4 k0 k1 k2 k3 k4 hE hE1 hE2 HE HBE HAE
    go_region_held (fun w' => (w'.cell? ⟨W.heap.size, 0, none⟩ = some (.int .i64 x0.lhs) ∧ w'.cell? ⟨W.heap.size, 1, none⟩ = some (.slice ad0 ns cs) ∧ w'.cell? ⟨W.heap.size, 2, none⟩ = some (.int .i64 x0.op) ∧ w'.cell? ⟨W.heap.size, 3, none⟩ = some (.slice ap np cp) ∧ w'.cell? ⟨W.heap.size, 4, none⟩ = some (.int .i64 x0.cost) ∧ w'.cell? ⟨g9, 0, none⟩ = some (.int .i64 qE.lhs) ∧ w'.cell? ⟨g9, 1, none⟩ = some svE ∧ w'.cell? ⟨g9, 2, none⟩ = some (.int .i64 qE.op) ∧ w'.cell? ⟨g9, 3, none⟩ = some pvE ∧ w'.cell? ⟨g9, 4, none⟩ = some (.int .i64 qE.cost)) ∧ Hid (Below wE.heap.size wE w')) (first | assumption | exact ten_on (by assumption) (by assumption)) (first | (go_at_call 16; refine (HBR.out.1 _ _ _ (by first | exact .inl ⟨rfl, rfl⟩ | exact .inr ⟨rfl, rfl⟩) (ten_below (by assumption))).mono ?_; rintro e wz ⟨rfl, bz⟩) | (go_at_call 18; refine (HBR.out.2 _ _ _ (by first | exact .inl ⟨rfl, rfl⟩ | exact .inr ⟨rfl, rfl⟩) (ten_below (by assumption))).mono ?_; rintro e wz ⟨rfl, bz⟩))
    all_goals
      go_wp2
      go_ret
      exact ⟨by simp, up_trans HLE.out (ten_below (by assumption))⟩
  by_cases k2 : k = 2
  · subst k2
    have HA0 := hid (ap_start HH6.out HL6.out hB6 hg9)
    have HSQ := hid ((HH6.out.2.1.row (by unfold maxLen; omega)).on (up_alloc w6 (.cells #[] 3)))
    go_wp2_with (first | (at_builtin; refine wpList_append_row _ rfl (.tmp 64) (.tmp 66) rfl w1.heap.size _ [] rfl HA0.out.row _ q.rhs rfl HSQ.out (HH6.out.2.1.none_cap) (by simp; omega) (by simp; omega) ?_; intro vA wA hA1 hA2 hA3; have HA1 := hid ((HA0.out.append hA1 hA2 hA3).alloc (.cells #[.int .i64 0, .int .i64 0, .int .i64 0, .int .i64 0] 3)); have HA2 := hid (row_lit wA [0, 0, 0, 0] _ 4 rfl rfl (by unfold maxLen; omega) #[.int .i64 0, .int .i64 0, .int .i64 0, .int .i64 0] rfl); have hAB := HA1.out.le; clear hA1 hA2 hA3) | (at_builtin; refine wpList_append_row _ rfl (.tmp 67) (.tmp 68) rfl w1.heap.size _ ([] ++ q.rhs) rfl HA1.out.row _ [0, 0, 0, 0] rfl HA2.out (fun n c e => by cases e) (by simp; omega) (by omega) ?_; intro vB wB hB1 hB2 hB3; have HAB := hid (HA1.out.append hB1 hB2 hB3); obtain ⟨i0, i1, i2, i3, i4⟩ := HAB.out.held.box; have j1 := HAB.out.held.frozen 1; obtain ⟨adB, nB, capB, eB⟩ : ∃ adB nB capB, vB = .slice adB nB capB := (by obtain ⟨a, c, e⟩ := hB1.shape; exact ⟨a, _, c, e⟩); subst eB; clear hB1 hB2 hB3))
    obtain ⟨wE, hwE⟩ : ∃ wE, wE = wB.setCell ⟨g9, 1, none⟩ (.slice adB nB capB) := ⟨_, rfl⟩
    have HE : Hid (∃ qE svE pvE, HeldR wE w1.heap.size g9 qE svE pvE ∧ qE.rhs.length ≤ maxLen ∧ qE.p.length ≤ maxLen) := hid (by rw [hwE]; exact ⟨_, _, _, HAB.out.endRhs, by simp [maxLen]; omega, by simp [maxLen]; omega⟩)
    have HBE : Hid (Below W1.heap.size W1 wE) := hid (by rw [hwE]; exact HAB.out.bel.setCell (p := ⟨g9, 1, none⟩) hg9 _)
    rw [← hwE]
    clear hwE
    obtain ⟨qE, svE, pvE, hE, hE1, hE2⟩ := HE.out
    have HAE := hid ((show RuleAt W (.agg #[.int .i64 x0.lhs, .slice ad0 ns cs, .int .i64 x0.op, .slice ap np cp, .int .i64 x0.cost]) x0 from ⟨_, _, rfl, HR0.out.1, HR0.out.2⟩).on (up_trans HU.out HBE.out))
    have HBR := hid (both_right (hE.rule hE1 hE2) HAE.out (HT1.out.on HBE.out))
    obtain ⟨e0, e1, e2, e3, e4⟩ := hE.box
    obtain ⟨k0, k1, k2, k3, k4⟩ := HB4.out.on HBE.out
    have HLE := hid (up_trans HU.out HBE.out)
    have y0 : (fun w' : World => (w'.cell? ⟨W.heap.size, 0, none⟩ = some (.int .i64 x0.lhs) ∧ w'.cell? ⟨W.heap.size, 1, none⟩ = some (.slice ad0 ns cs) ∧ w'.cell? ⟨W.heap.size, 2, none⟩ = some (.int .i64 x0.op) ∧ w'.cell? ⟨W.heap.size, 3, none⟩ = some (.slice ap np cp) ∧ w'.cell? ⟨W.heap.size, 4, none⟩ = some (.int .i64 x0.cost) ∧ w'.cell? ⟨g9, 0, none⟩ = some (.int .i64 qE.lhs) ∧ w'.cell? ⟨g9, 1, none⟩ = some svE ∧ w'.cell? ⟨g9, 2, none⟩ = some (.int .i64 qE.op) ∧ w'.cell? ⟨g9, 3, none⟩ = some pvE ∧ w'.cell? ⟨g9, 4, none⟩ = some (.int .i64 qE.cost)) ∧ Hid (Below wE.heap.size wE w')) wE.drew := ⟨⟨k0, k1, k2, k3, k4, e0, e1, e2, e3, e4⟩, hid (Below.refl _ _).drew⟩
    generalize right qE = b1 at *
    generalize right x0 = b2 at *
    clear e0 e1 e2 e3 e4 k0 k1 k2 k3 k4 hE hE1 hE2 HE HBE HAE
    go_region_held (fun w' => (w'.cell? ⟨W.heap.size, 0, none⟩ = some (.int .i64 x0.lhs) ∧ w'.cell? ⟨W.heap.size, 1, none⟩ = some (.slice ad0 ns cs) ∧ w'.cell? ⟨W.heap.size, 2, none⟩ = some (.int .i64 x0.op) ∧ w'.cell? ⟨W.heap.size, 3, none⟩ = some (.slice ap np cp) ∧ w'.cell? ⟨W.heap.size, 4, none⟩ = some (.int .i64 x0.cost) ∧ w'.cell? ⟨g9, 0, none⟩ = some (.int .i64 qE.lhs) ∧ w'.cell? ⟨g9, 1, none⟩ = some svE ∧ w'.cell? ⟨g9, 2, none⟩ = some (.int .i64 qE.op) ∧ w'.cell? ⟨g9, 3, none⟩ = some pvE ∧ w'.cell? ⟨g9, 4, none⟩ = some (.int .i64 qE.cost)) ∧ Hid (Below wE.heap.size wE w')) (first | assumption | exact ten_on (by assumption) (by assumption)) (first | (go_at_call 16; refine (HBR.out.1 _ _ _ (by first | exact .inl ⟨rfl, rfl⟩ | exact .inr ⟨rfl, rfl⟩) (ten_below (by assumption))).mono ?_; rintro e wz ⟨rfl, bz⟩) | (go_at_call 18; refine (HBR.out.2 _ _ _ (by first | exact .inl ⟨rfl, rfl⟩ | exact .inr ⟨rfl, rfl⟩) (ten_below (by assumption))).mono ?_; rintro e wz ⟨rfl, bz⟩))
    all_goals
      go_wp2
      go_ret
      exact ⟨by simp, up_trans HLE.out (ten_below (by assumption))⟩
  by_cases k3 : k = 3
  · subst k3
    obtain ⟨m, hm⟩ : ∃ m : Nat, a3 % 5 = (m : Int) := ⟨(a3 % 5).toNat, by omega⟩
    have hm5 : m < 5 := by omega
    have HW5 := hid (fun w => lwithin_any a3 5 w (by decide) (by decide))
    rw [hm] at HW5
    clear hm
    obtain ⟨z, hz⟩ := lit_cell w6 [-1, 0, 100, 101, a3] m hm5 #[.int .i64 (-1), .int .i64 0, .int .i64 100, .int .i64 101, .int .i64 a3] rfl
    go_wp2_with (first | (go_at_call 17; refine (HW5.out _).mono ?_; rintro e w8 ⟨rfl, hw⟩; obtain rfl := hw.symm; clear hw))
    obtain ⟨wE, hwE⟩ : ∃ wE, wE = (w6.setCell ⟨g9, 4, none⟩ (.int .i64 z)).alloc (.cells #[.int .i64 (-1), .int .i64 0, .int .i64 100, .int .i64 101, .int .i64 a3] 3) := ⟨_, rfl⟩
    have HE : Hid (∃ qE svE pvE, HeldR wE w1.heap.size g9 qE svE pvE ∧ qE.rhs.length ≤ maxLen ∧ qE.p.length ≤ maxLen) := hid (by rw [hwE]; exact ⟨_, _, _, (HH6.out.cost z).on (up_alloc _ _), by show q.rhs.length ≤ maxLen; unfold maxLen; omega, by show q.p.length ≤ maxLen; unfold maxLen; omega⟩)
    have HBE : Hid (Below W1.heap.size W1 wE) := hid (by rw [hwE]; exact (HL6.out.setCell (p := ⟨g9, 4, none⟩) hg9 _).alloc (by simp [World.setCell]; omega) _)
    rw [← hwE]
    clear hwE
    obtain ⟨qE, svE, pvE, hE, hE1, hE2⟩ := HE.out
    have HAE := hid ((show RuleAt W (.agg #[.int .i64 x0.lhs, .slice ad0 ns cs, .int .i64 x0.op, .slice ap np cp, .int .i64 x0.cost]) x0 from ⟨_, _, rfl, HR0.out.1, HR0.out.2⟩).on (up_trans HU.out HBE.out))
    have HBR := hid (both_right (hE.rule hE1 hE2) HAE.out (HT1.out.on HBE.out))
    obtain ⟨e0, e1, e2, e3, e4⟩ := hE.box
    obtain ⟨k0, k1, k2, k3, k4⟩ := HB4.out.on HBE.out
    have HLE := hid (up_trans HU.out HBE.out)
    have y0 : (fun w' : World => (w'.cell? ⟨W.heap.size, 0, none⟩ = some (.int .i64 x0.lhs) ∧ w'.cell? ⟨W.heap.size, 1, none⟩ = some (.slice ad0 ns cs) ∧ w'.cell? ⟨W.heap.size, 2, none⟩ = some (.int .i64 x0.op) ∧ w'.cell? ⟨W.heap.size, 3, none⟩ = some (.slice ap np cp) ∧ w'.cell? ⟨W.heap.size, 4, none⟩ = some (.int .i64 x0.cost) ∧ w'.cell? ⟨g9, 0, none⟩ = some (.int .i64 qE.lhs) ∧ w'.cell? ⟨g9, 1, none⟩ = some svE ∧ w'.cell? ⟨g9, 2, none⟩ = some (.int .i64 qE.op) ∧ w'.cell? ⟨g9, 3, none⟩ = some pvE ∧ w'.cell? ⟨g9, 4, none⟩ = some (.int .i64 qE.cost)) ∧ Hid (Below wE.heap.size wE w')) wE.drew := ⟨⟨k0, k1, k2, k3, k4, e0, e1, e2, e3, e4⟩, hid (Below.refl _ _).drew⟩
    generalize right qE = b1 at *
    generalize right x0 = b2 at *
    clear e0 e1 e2 e3 e4 k0 k1 k2 k3 k4 hE hE1 hE2 HE HBE HAE
    go_region_held (fun w' => (w'.cell? ⟨W.heap.size, 0, none⟩ = some (.int .i64 x0.lhs) ∧ w'.cell? ⟨W.heap.size, 1, none⟩ = some (.slice ad0 ns cs) ∧ w'.cell? ⟨W.heap.size, 2, none⟩ = some (.int .i64 x0.op) ∧ w'.cell? ⟨W.heap.size, 3, none⟩ = some (.slice ap np cp) ∧ w'.cell? ⟨W.heap.size, 4, none⟩ = some (.int .i64 x0.cost) ∧ w'.cell? ⟨g9, 0, none⟩ = some (.int .i64 qE.lhs) ∧ w'.cell? ⟨g9, 1, none⟩ = some svE ∧ w'.cell? ⟨g9, 2, none⟩ = some (.int .i64 qE.op) ∧ w'.cell? ⟨g9, 3, none⟩ = some pvE ∧ w'.cell? ⟨g9, 4, none⟩ = some (.int .i64 qE.cost)) ∧ Hid (Below wE.heap.size wE w')) (first | assumption | exact ten_on (by assumption) (by assumption)) (first | (go_at_call 16; refine (HBR.out.1 _ _ _ (by first | exact .inl ⟨rfl, rfl⟩ | exact .inr ⟨rfl, rfl⟩) (ten_below (by assumption))).mono ?_; rintro e wz ⟨rfl, bz⟩) | (go_at_call 18; refine (HBR.out.2 _ _ _ (by first | exact .inl ⟨rfl, rfl⟩ | exact .inr ⟨rfl, rfl⟩) (ten_below (by assumption))).mono ?_; rintro e wz ⟨rfl, bz⟩))
    all_goals
      go_wp2
      go_ret
      exact ⟨by simp, up_trans HLE.out (ten_below (by assumption))⟩
  by_cases k4 : k = 4
  · subst k4
    obtain ⟨m, hm⟩ : ∃ m : Nat, a3 % 8 = (m : Int) := ⟨(a3 % 8).toNat, by omega⟩
    have hm5 : m < 8 := by omega
    have HW5 := hid (fun w => lwithin_any a3 8 w (by decide) (by decide))
    rw [hm] at HW5
    clear hm
    obtain ⟨z, hz⟩ := lit_cell w6 [-1, 0, 3, 4, 10, 15, 16, a3] m hm5 #[.int .i64 (-1), .int .i64 0, .int .i64 3, .int .i64 4, .int .i64 10, .int .i64 15, .int .i64 16, .int .i64 a3] rfl
    go_wp2_with (first | (go_at_call 17; refine (HW5.out _).mono ?_; rintro e w8 ⟨rfl, hw⟩; obtain rfl := hw.symm; clear hw))
    obtain ⟨wE, hwE⟩ : ∃ wE, wE = (w6.setCell ⟨g9, 2, none⟩ (.int .i64 z)).alloc (.cells #[.int .i64 (-1), .int .i64 0, .int .i64 3, .int .i64 4, .int .i64 10, .int .i64 15, .int .i64 16, .int .i64 a3] 3) := ⟨_, rfl⟩
    have HE : Hid (∃ qE svE pvE, HeldR wE w1.heap.size g9 qE svE pvE ∧ qE.rhs.length ≤ maxLen ∧ qE.p.length ≤ maxLen) := hid (by rw [hwE]; exact ⟨_, _, _, (HH6.out.op z).on (up_alloc _ _), by show q.rhs.length ≤ maxLen; unfold maxLen; omega, by show q.p.length ≤ maxLen; unfold maxLen; omega⟩)
    have HBE : Hid (Below W1.heap.size W1 wE) := hid (by rw [hwE]; exact (HL6.out.setCell (p := ⟨g9, 2, none⟩) hg9 _).alloc (by simp [World.setCell]; omega) _)
    rw [← hwE]
    clear hwE
    obtain ⟨qE, svE, pvE, hE, hE1, hE2⟩ := HE.out
    have HAE := hid ((show RuleAt W (.agg #[.int .i64 x0.lhs, .slice ad0 ns cs, .int .i64 x0.op, .slice ap np cp, .int .i64 x0.cost]) x0 from ⟨_, _, rfl, HR0.out.1, HR0.out.2⟩).on (up_trans HU.out HBE.out))
    have HBR := hid (both_right (hE.rule hE1 hE2) HAE.out (HT1.out.on HBE.out))
    obtain ⟨e0, e1, e2, e3, e4⟩ := hE.box
    obtain ⟨k0, k1, k2, k3, k4⟩ := HB4.out.on HBE.out
    have HLE := hid (up_trans HU.out HBE.out)
    have y0 : (fun w' : World => (w'.cell? ⟨W.heap.size, 0, none⟩ = some (.int .i64 x0.lhs) ∧ w'.cell? ⟨W.heap.size, 1, none⟩ = some (.slice ad0 ns cs) ∧ w'.cell? ⟨W.heap.size, 2, none⟩ = some (.int .i64 x0.op) ∧ w'.cell? ⟨W.heap.size, 3, none⟩ = some (.slice ap np cp) ∧ w'.cell? ⟨W.heap.size, 4, none⟩ = some (.int .i64 x0.cost) ∧ w'.cell? ⟨g9, 0, none⟩ = some (.int .i64 qE.lhs) ∧ w'.cell? ⟨g9, 1, none⟩ = some svE ∧ w'.cell? ⟨g9, 2, none⟩ = some (.int .i64 qE.op) ∧ w'.cell? ⟨g9, 3, none⟩ = some pvE ∧ w'.cell? ⟨g9, 4, none⟩ = some (.int .i64 qE.cost)) ∧ Hid (Below wE.heap.size wE w')) wE.drew := ⟨⟨k0, k1, k2, k3, k4, e0, e1, e2, e3, e4⟩, hid (Below.refl _ _).drew⟩
    generalize right qE = b1 at *
    generalize right x0 = b2 at *
    clear e0 e1 e2 e3 e4 k0 k1 k2 k3 k4 hE hE1 hE2 HE HBE HAE
    go_region_held (fun w' => (w'.cell? ⟨W.heap.size, 0, none⟩ = some (.int .i64 x0.lhs) ∧ w'.cell? ⟨W.heap.size, 1, none⟩ = some (.slice ad0 ns cs) ∧ w'.cell? ⟨W.heap.size, 2, none⟩ = some (.int .i64 x0.op) ∧ w'.cell? ⟨W.heap.size, 3, none⟩ = some (.slice ap np cp) ∧ w'.cell? ⟨W.heap.size, 4, none⟩ = some (.int .i64 x0.cost) ∧ w'.cell? ⟨g9, 0, none⟩ = some (.int .i64 qE.lhs) ∧ w'.cell? ⟨g9, 1, none⟩ = some svE ∧ w'.cell? ⟨g9, 2, none⟩ = some (.int .i64 qE.op) ∧ w'.cell? ⟨g9, 3, none⟩ = some pvE ∧ w'.cell? ⟨g9, 4, none⟩ = some (.int .i64 qE.cost)) ∧ Hid (Below wE.heap.size wE w')) (first | assumption | exact ten_on (by assumption) (by assumption)) (first | (go_at_call 16; refine (HBR.out.1 _ _ _ (by first | exact .inl ⟨rfl, rfl⟩ | exact .inr ⟨rfl, rfl⟩) (ten_below (by assumption))).mono ?_; rintro e wz ⟨rfl, bz⟩) | (go_at_call 18; refine (HBR.out.2 _ _ _ (by first | exact .inl ⟨rfl, rfl⟩ | exact .inr ⟨rfl, rfl⟩) (ten_below (by assumption))).mono ?_; rintro e wz ⟨rfl, bz⟩))
    all_goals
      go_wp2
      go_ret
      exact ⟨by simp, up_trans HLE.out (ten_below (by assumption))⟩
  by_cases k5 : k = 5
  · subst k5
    have HA0 := hid (ap_start HH6.out HL6.out hB6 hg9)
    have HSQ := hid ((HH6.out.2.2.1.row (by unfold maxLen; omega)).on (up_alloc w6 (.cells #[] 3)))
    go_wp2_with (first | (at_builtin; refine wpList_append_row _ rfl (.tmp 92) (.tmp 95) rfl w1.heap.size _ [] rfl HA0.out.row _ q.p rfl HSQ.out (HH6.out.2.2.1.none_cap) (by simp; omega) (by simp; omega) ?_; intro vA wA hA1 hA2 hA3; have HA1 := hid ((HA0.out.append hA1 hA2 hA3).alloc (.cells #[.int .i64 0] 3)); have HA2 := hid (row_lit wA [0] _ 1 rfl rfl (by unfold maxLen; omega) #[.int .i64 0] rfl); have hAB := HA1.out.le; clear hA1 hA2 hA3) | (at_builtin; refine wpList_append_row _ rfl (.tmp 96) (.tmp 97) rfl w1.heap.size _ ([] ++ q.p) rfl HA1.out.row _ [0] rfl HA2.out (fun n c e => by cases e) (by simp; omega) (by omega) ?_; intro vB wB hB1 hB2 hB3; have HAB := hid (HA1.out.append hB1 hB2 hB3); obtain ⟨i0, i1, i2, i3, i4⟩ := HAB.out.held.box; have j1 := HAB.out.held.frozen 3; obtain ⟨adB, nB, capB, eB⟩ : ∃ adB nB capB, vB = .slice adB nB capB := (by obtain ⟨a, c, e⟩ := hB1.shape; exact ⟨a, _, c, e⟩); subst eB; clear hB1 hB2 hB3))
    obtain ⟨wE, hwE⟩ : ∃ wE, wE = wB.setCell ⟨g9, 3, none⟩ (.slice adB nB capB) := ⟨_, rfl⟩
    have HE : Hid (∃ qE svE pvE, HeldR wE w1.heap.size g9 qE svE pvE ∧ qE.rhs.length ≤ maxLen ∧ qE.p.length ≤ maxLen) := hid (by rw [hwE]; exact ⟨_, _, _, HAB.out.endP, by simp [maxLen]; omega, by simp [maxLen]; omega⟩)
    have HBE : Hid (Below W1.heap.size W1 wE) := hid (by rw [hwE]; exact HAB.out.bel.setCell (p := ⟨g9, 3, none⟩) hg9 _)
    rw [← hwE]
    clear hwE
    obtain ⟨qE, svE, pvE, hE, hE1, hE2⟩ := HE.out
    have HAE := hid ((show RuleAt W (.agg #[.int .i64 x0.lhs, .slice ad0 ns cs, .int .i64 x0.op, .slice ap np cp, .int .i64 x0.cost]) x0 from ⟨_, _, rfl, HR0.out.1, HR0.out.2⟩).on (up_trans HU.out HBE.out))
    have HBR := hid (both_right (hE.rule hE1 hE2) HAE.out (HT1.out.on HBE.out))
    obtain ⟨e0, e1, e2, e3, e4⟩ := hE.box
    obtain ⟨k0, k1, k2, k3, k4⟩ := HB4.out.on HBE.out
    have HLE := hid (up_trans HU.out HBE.out)
    have y0 : (fun w' : World => (w'.cell? ⟨W.heap.size, 0, none⟩ = some (.int .i64 x0.lhs) ∧ w'.cell? ⟨W.heap.size, 1, none⟩ = some (.slice ad0 ns cs) ∧ w'.cell? ⟨W.heap.size, 2, none⟩ = some (.int .i64 x0.op) ∧ w'.cell? ⟨W.heap.size, 3, none⟩ = some (.slice ap np cp) ∧ w'.cell? ⟨W.heap.size, 4, none⟩ = some (.int .i64 x0.cost) ∧ w'.cell? ⟨g9, 0, none⟩ = some (.int .i64 qE.lhs) ∧ w'.cell? ⟨g9, 1, none⟩ = some svE ∧ w'.cell? ⟨g9, 2, none⟩ = some (.int .i64 qE.op) ∧ w'.cell? ⟨g9, 3, none⟩ = some pvE ∧ w'.cell? ⟨g9, 4, none⟩ = some (.int .i64 qE.cost)) ∧ Hid (Below wE.heap.size wE w')) wE.drew := ⟨⟨k0, k1, k2, k3, k4, e0, e1, e2, e3, e4⟩, hid (Below.refl _ _).drew⟩
    generalize right qE = b1 at *
    generalize right x0 = b2 at *
    clear e0 e1 e2 e3 e4 k0 k1 k2 k3 k4 hE hE1 hE2 HE HBE HAE
    go_region_held (fun w' => (w'.cell? ⟨W.heap.size, 0, none⟩ = some (.int .i64 x0.lhs) ∧ w'.cell? ⟨W.heap.size, 1, none⟩ = some (.slice ad0 ns cs) ∧ w'.cell? ⟨W.heap.size, 2, none⟩ = some (.int .i64 x0.op) ∧ w'.cell? ⟨W.heap.size, 3, none⟩ = some (.slice ap np cp) ∧ w'.cell? ⟨W.heap.size, 4, none⟩ = some (.int .i64 x0.cost) ∧ w'.cell? ⟨g9, 0, none⟩ = some (.int .i64 qE.lhs) ∧ w'.cell? ⟨g9, 1, none⟩ = some svE ∧ w'.cell? ⟨g9, 2, none⟩ = some (.int .i64 qE.op) ∧ w'.cell? ⟨g9, 3, none⟩ = some pvE ∧ w'.cell? ⟨g9, 4, none⟩ = some (.int .i64 qE.cost)) ∧ Hid (Below wE.heap.size wE w')) (first | assumption | exact ten_on (by assumption) (by assumption)) (first | (go_at_call 16; refine (HBR.out.1 _ _ _ (by first | exact .inl ⟨rfl, rfl⟩ | exact .inr ⟨rfl, rfl⟩) (ten_below (by assumption))).mono ?_; rintro e wz ⟨rfl, bz⟩) | (go_at_call 18; refine (HBR.out.2 _ _ _ (by first | exact .inl ⟨rfl, rfl⟩ | exact .inr ⟨rfl, rfl⟩) (ten_below (by assumption))).mono ?_; rintro e wz ⟨rfl, bz⟩))
    all_goals
      go_wp2
      go_ret
      exact ⟨by simp, up_trans HLE.out (ten_below (by assumption))⟩
  obtain rfl : k = 6 := by omega
  obtain ⟨m, hm⟩ : ∃ m : Nat, a3 % 6 = (m : Int) := ⟨(a3 % 6).toNat, by omega⟩
  have hm5 : m < 6 := by omega
  have HW5 := hid (fun w => lwithin_any a3 6 w (by decide) (by decide))
  rw [hm] at HW5
  clear hm
  obtain ⟨z, hz, hz2⟩ : ∃ z, (∀ h : m < ([Value.int .i64 (-1), Value.int .i64 0, Value.int .i64 5, Value.int .i64 6, Value.int .i64 (n5 : Int), Value.int .i64 a3] : List Value).length, ([Value.int .i64 (-1), Value.int .i64 0, Value.int .i64 5, Value.int .i64 6, Value.int .i64 (n5 : Int), Value.int .i64 a3] : List Value)[m]'h = .int .i64 z) ∧ ([Value.int .i64 (-1), Value.int .i64 0, Value.int .i64 5, Value.int .i64 6, Value.int .i64 (n5 : Int), Value.int .i64 a3] : List Value)[m]? = some (.int .i64 z) := lit_get [-1, 0, 5, 6, (n5 : Int), a3] m hm5
  have hm6 : (m : Int) < 6 := by omega
  obtain ⟨zs, y1, y2, y3⟩ := row_at0 HH6.out.2.2.1 (by omega)
  have y4 : (0 : Int) < (n6 : Int) := by omega
  have y5 : 0 < n6 := by omega
  have y6 : gp < w6.heap.size := lt_of_cell y1
  go_wp2_with fail
  apply key_cut
  case rest =>
    intro key
    go_region_with (first | (go_at_call 17; refine (HW5.out _).mono ?_; rintro e w8 ⟨rfl, hw⟩; obtain rfl := hw.symm; clear hw))
    all_goals exact key
  go_wp2_with fail
  obtain ⟨wE, hwE⟩ : ∃ wE, wE = ((w6.setCell ⟨gp, 0, none⟩ (.int .i64 z)).alloc (.cells #[.int .i64 (-1), .int .i64 0, .int .i64 5, .int .i64 6, .int .i64 (n5 : Int), .int .i64 a3] 3)).drew := ⟨_, rfl⟩
  have HE : Hid (∃ qE svE pvE, HeldR wE w1.heap.size g9 qE svE pvE ∧ qE.rhs.length ≤ maxLen ∧ qE.p.length ≤ maxLen) := hid (by rw [hwE]; obtain ⟨qE, u1, u2, u3, u4, u5, u6⟩ := HH6.out.cell0 (by omega) (by omega) (k := gp) (fun e => HH6.out.2.2.2.2 (by rw [← e]; rfl)) z; exact ⟨qE, _, _, (u6.on (up_alloc _ _)).drew, by rw [u1]; unfold maxLen; omega, by rw [u2]; unfold maxLen; omega⟩)
  have HBE : Hid (Below W1.heap.size W1 wE) := hid (by rw [hwE]; exact ((HL6.out.setCell (p := ⟨gp, 0, none⟩) (by show W1.heap.size ≤ gp; omega) _).alloc (by simp [World.setCell]; omega) _).drew)
  rw [← hwE]
  clear hwE
  obtain ⟨qE, svE, pvE, hE, hE1, hE2⟩ := HE.out
  have HAE := hid ((show RuleAt W (.agg #[.int .i64 x0.lhs, .slice ad0 ns cs, .int .i64 x0.op, .slice ap np cp, .int .i64 x0.cost]) x0 from ⟨_, _, rfl, HR0.out.1, HR0.out.2⟩).on (up_trans HU.out HBE.out))
  have HBR := hid (both_right (hE.rule hE1 hE2) HAE.out (HT1.out.on HBE.out))
  obtain ⟨e0, e1, e2, e3, e4⟩ := hE.box
  obtain ⟨k0, k1, k2, k3, k4⟩ := HB4.out.on HBE.out
  have HLE := hid (up_trans HU.out HBE.out)
  have y0 : (fun w' : World => (w'.cell? ⟨W.heap.size, 0, none⟩ = some (.int .i64 x0.lhs) ∧ w'.cell? ⟨W.heap.size, 1, none⟩ = some (.slice ad0 ns cs) ∧ w'.cell? ⟨W.heap.size, 2, none⟩ = some (.int .i64 x0.op) ∧ w'.cell? ⟨W.heap.size, 3, none⟩ = some (.slice ap np cp) ∧ w'.cell? ⟨W.heap.size, 4, none⟩ = some (.int .i64 x0.cost) ∧ w'.cell? ⟨g9, 0, none⟩ = some (.int .i64 qE.lhs) ∧ w'.cell? ⟨g9, 1, none⟩ = some svE ∧ w'.cell? ⟨g9, 2, none⟩ = some (.int .i64 qE.op) ∧ w'.cell? ⟨g9, 3, none⟩ = some pvE ∧ w'.cell? ⟨g9, 4, none⟩ = some (.int .i64 qE.cost)) ∧ Hid (Below wE.heap.size wE w')) wE.drew := ⟨⟨k0, k1, k2, k3, k4, e0, e1, e2, e3, e4⟩, hid (Below.refl _ _).drew⟩
  generalize right qE = b1 at *
  generalize right x0 = b2 at *
  clear e0 e1 e2 e3 e4 k0 k1 k2 k3 k4 hE hE1 hE2 HE HBE HAE
  go_region_held (fun w' => (w'.cell? ⟨W.heap.size, 0, none⟩ = some (.int .i64 x0.lhs) ∧ w'.cell? ⟨W.heap.size, 1, none⟩ = some (.slice ad0 ns cs) ∧ w'.cell? ⟨W.heap.size, 2, none⟩ = some (.int .i64 x0.op) ∧ w'.cell? ⟨W.heap.size, 3, none⟩ = some (.slice ap np cp) ∧ w'.cell? ⟨W.heap.size, 4, none⟩ = some (.int .i64 x0.cost) ∧ w'.cell? ⟨g9, 0, none⟩ = some (.int .i64 qE.lhs) ∧ w'.cell? ⟨g9, 1, none⟩ = some svE ∧ w'.cell? ⟨g9, 2, none⟩ = some (.int .i64 qE.op) ∧ w'.cell? ⟨g9, 3, none⟩ = some pvE ∧ w'.cell? ⟨g9, 4, none⟩ = some (.int .i64 qE.cost)) ∧ Hid (Below wE.heap.size wE w')) (first | assumption | exact ten_on (by assumption) (by assumption)) (first | (go_at_call 16; refine (HBR.out.1 _ _ _ (by first | exact .inl ⟨rfl, rfl⟩ | exact .inr ⟨rfl, rfl⟩) (ten_below (by assumption))).mono ?_; rintro e wz ⟨rfl, bz⟩) | (go_at_call 18; refine (HBR.out.2 _ _ _ (by first | exact .inl ⟨rfl, rfl⟩ | exact .inr ⟨rfl, rfl⟩) (ten_below (by assumption))).mono ?_; rintro e wz ⟨rfl, bz⟩))
  all_goals
    go_wp2
    go_ret
    exact ⟨by simp, up_trans HLE.out (ten_below (by assumption))⟩

theorem own : ownKnob Tryd.prog.godebug = none := by kernel_rfl

theorem table {W : World} (h : laidMetH Tryd.prog Rows.gramRightRow.laid W) : Tab W := by
  rw [MakeChecks.laidMetH_plain _ _ _ (by kernel_rfl)] at h
  exact tab_of_laid h

set_option maxRecDepth 100000 in
theorem lifted (os : Os) (started : os.Started) (H : Type) (enc : TypeId × Value → H) :
    ReturnsInHanded {} Tryd.checked os 3 .any (fun w args => (Rows.gramRightSpec.pre enc Tryd.prog Tryd.f3 Rows.gramRightRow.domain false w args ∧ laidMetH Tryd.prog Rows.gramRightRow.laid w) ∧ sizedMet enc Tryd.prog Tryd.f3 (OpenSpec.ofChange Rows.gramRightSpec) false w args)
      (Rows.gramRightSpec.post enc Tryd.prog Tryd.f3 false true false false) := by
  refine returnsInHanded_of_change_and (C := Tryd.checked) (X := fun w _ => laidMetH Tryd.prog Rows.gramRightRow.laid w) (fun _ _ _ hh h => h.of_heap hh) own started (by kernel_rfl) Tryd.func3
    (ChangeSpec.witness_shaped (enc := enc) (C := Tryd.checked) (os := os) (X := fun w _ => laidMetH Tryd.prog Rows.gramRightRow.laid w) false (World.laidAll Tryd.prog os Rows.gramRightRow.laid) #[.agg #[.int .i64 0, .slice none 0 0, .int .i64 0, .slice none 0 0, .int .i64 0], .slice none 0 0, .int .i64 0, .int .i64 0] 8 (World.laidAll_os _ _ _)
      (World.shaped_of_ZipB (by kernel_rfl) (by kernel_rfl)) (by kernel_rfl) (by kernel_rfl) (by kernel_rfl)
      (by rw [MakeChecks.laidMetH_plain _ _ _ (by kernel_rfl)]; exact laidMet_laidAll _ (by kernel_rfl) (by kernel_rfl))) ?_
  intro W base args ds gs before hval0 hW _ _ hL _
  have hval : ∀ (j : Nat) t v, Tryd.f3.params[j]? = some t → args[j]? = some v → Value.okWide Tryd.prog W .any base t v := hval0
  have hW' := hW
  obtain ⟨p, q, hA0, hV, rfl, hfz, hnd⟩ := hW
  have hA : DataW.TrodAll enc Tryd.prog W 0 (fun _ => true) true Tryd.f3.params.toList args.toList ds p := hA0
  rw [Tryd.params3] at hA hval
  obtain ⟨v0, vs0, d0, ds0, p0, q0, hargs, rfl, rfl, h0, r0⟩ := trodAll_cons hA
  obtain ⟨v1, vs1, d1, ds1, p1, q1, rfl, rfl, rfl, h1, r1⟩ := trodAll_cons r0
  obtain ⟨v2, vs2, d2, ds2, p2, q2, rfl, rfl, rfl, h2, r2⟩ := trodAll_cons r1
  obtain ⟨v3, vs3, d3, ds3, p3, q3, rfl, rfl, rfl, h3, r3⟩ := trodAll_cons r2
  obtain ⟨rfl, rfl, rfl⟩ := trodAll_nil r3
  obtain rfl : args = #[v0, v1, v2, v3] := by cases args; simp_all
  obtain ⟨rfl, rfl⟩ := trodVars_none hV
  obtain ⟨x0, w0⟩ := rule_of (hval 0 26 v0 rfl rfl) h0
  have l0 : ∀ x ∈ p0, x.block < W.heap.size := fun x hx => hW'.lt x (by simp [hx])
  obtain ⟨x1, w1⟩ := raws_of (hval 1 27 v1 rfl rfl) h1
  have l1 : ∀ x ∈ p1, x.block < W.heap.size := fun x hx => hW'.lt x (by simp [hx])
  obtain ⟨a2, rfl, rfl, rfl, w2⟩ := open_int Tryd.underlying3 (hval 2 3 v2 rfl rfl) h2
  obtain ⟨a3, rfl, rfl, rfl, w3⟩ := open_int Tryd.underlying3 (hval 3 3 v3 rfl rfl) h3
  clear hA0 hval0
  refine (walk v0 x0 v1 x1 a2 a3 W w0 w1 w2 w3 (table hL)).mono fun e W' ⟨he, bel⟩ => ?_
  subst he
  exact ⟨_, rfl, _, _, _, _, _, [], hW', trodAll_mk1 (shut_bool Tryd.underlying4 _), (trodAll_cons_mk (Below.trod (by kernel_rfl) (by kernel_rfl) (of_decide_eq_true (by kernel_rfl)) h0 bel l0) (trodAll_cons_mk (Below.trod (by kernel_rfl) (by kernel_rfl) (of_decide_eq_true (by kernel_rfl)) h1 bel l1) (trodAll_cons_mk (shut_int Tryd.underlying3 w2) (trodAll_cons_mk (shut_int Tryd.underlying3 w3) trodAll_mk0)))), rfl, bel.frame _, fun h => by cases h⟩

theorem row_holds : Rows.GramRightSaid :=
  OpenClaim.holds_of_wide 3 Tryd.f3 rfl rfl rfl rfl rfl rfl rfl ⟨rfl, rfl, rfl, rfl, rfl⟩ rfl rfl rfl rfl rfl (by kernel_rfl) Tryd.func3 (by kernel_rfl)
    (of_decide_eq_true (by kernel_rfl)) (by unfold Func.isWrapper; first | (rw [if_pos (by decide +kernel)]; kernel_rfl) | (rw [if_neg (by decide +kernel)]; exact ⟨rfl, rfl⟩))
    (fun os started H enc _ => lifted os started H enc)

theorem gramRight_holds : Rows.GramRightCardSaid :=
  Claim7.holds_tied_plain_at .later [] _ _ _ _ row_holds (fun _ h => by cases h) (by kernel_rfl) (fun _ h => by cases h) gramRight_row_tie rfl ⟨rfl, rfl⟩ (by kernel_rfl) rfl
    (fun f fn hf hfn => by
      obtain rfl : f = 3 := Option.some.inj ((show Tryd.prog.funcNamed "interlocutor/interlocutorlaw4.GramRight" = some 3 by kernel_rfl).symm.trans hf) |>.symm
      obtain rfl : fn = Tryd.f3 := (Option.some.inj (Tryd.func3.symm.trans hfn)).symm
      exact ⟨by kernel_rfl, fun j t ht => by
        rw [Tryd.params3] at ht
        have hm : t ∈ [26, 27, 3, 3] := by simpa using Array.mem_of_getElem? ht
        have hall : ([26, 27, 3, 3].all fun u => !Tryd.prog.wantsStandIn u) = true := by kernel_rfl
        exact (show Tryd.prog.wantsStandIn t = false by simpa using List.all_eq_true.1 hall t hm)⟩)
    (by kernel_rfl)

end Go.Proofs.YtgpkgkmjppphgaaDoor
