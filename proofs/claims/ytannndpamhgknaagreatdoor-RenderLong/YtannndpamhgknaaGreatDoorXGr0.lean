/- GrLawBase, GrLRules: these texts, one behind the other. -/
import Derived.Test.YtannndpamhgknaaGreatDoorGrGrow3
import Derived.Test.YtannndpamhgknaaGreatDoorXGq0
import Derived.Test.YtannndpamhgknaaGreatDoorGrMakeM
import Derived.Test.YtannndpamhgknaaGreatDoorGrGrow4
import Derived.Test.YtannndpamhgknaaGreatDoorGrMake
import Derived.Test.YtannndpamhgknaaGreatDoorGrRefCheck
/- What the laws over raw rules have in common. -/
namespace Go.Proofs.YtannndpamhgknaaGreatDoor.Gr
open Go.RowKit

theorem off_fresh {w : World} {B : Nat} {sv v : Value} {xs : List Int} (h : RowNew w B sv xs) (hv : ∀ k, v.ownBlock = some k → k < B) : Off sv xs v := by
  cases xs with
  | nil => exact .inl rfl
  | cons x xs =>
    obtain ⟨g, cap, rfl, hg, _⟩ := h.at (by simp)
    exact .inr (fun e => by have := hv g e.symm; omega)
theorem rule_small (r : Raw) (sym : Int) : (mkRule r sym).rhs.length ≤ maxLen ∧ (mkRule r sym).p.length ≤ maxLen := by
  have h1 := mkC_range r
  have h2 := mkN_range r
  simp only [mkRule, mkRhs_length, mkPs_length]
  unfold maxLen
  omega
end Go.Proofs.YtannndpamhgknaaGreatDoor.Gr

/- The statements' Rules: of raw rules as many as have no rounds, one by one. -/
namespace Go.Proofs.YtannndpamhgknaaGreatDoor.Gr
open Go.RowKit

theorem RulesNew.base {w : World} {B B' : Nat} {v : Value} {rs : List Rule} (h : RulesNew w B v rs) (hb : B' ≤ B) : RulesNew w B' v rs := by
  obtain ⟨cs, ⟨h1, h2⟩, h3⟩ := h
  refine ⟨cs, ⟨h1, ?_⟩, h3⟩
  rcases h2 with h2 | ⟨g, cap, cur, e, h4, h5⟩
  · exact .inl h2
  · exact .inr ⟨g, cap, cur, e, Nat.le_trans hb h4, h5⟩

/-- What Rules has made of the first j raw rules. -/
def lrulesN (l : List Raw) (sym : Int) : Nat → List Rule
  | 0 => []
  | j + 1 => if check (lrulesN l sym j ++ [mkRule (l.getD j nilRaw) sym]) = true then lrulesN l sym j ++ [mkRule (l.getD j nilRaw) sym] else lrulesN l sym j
def lrules (l : List Raw) (sym : Int) : List Rule := lrulesN l sym (min l.length 20)
theorem lrulesN_check (l : List Raw) (sym : Int) : ∀ j, check (lrulesN l sym j) = true
  | 0 => check_nil
  | j + 1 => by
    unfold lrulesN
    split
    · assumption
    · exact lrulesN_check l sym j
theorem lrulesN_length (l : List Raw) (sym : Int) : ∀ j, (lrulesN l sym j).length ≤ j
  | 0 => Nat.le_refl _
  | j + 1 => by
    have := lrulesN_length l sym j
    unfold lrulesN
    split
    · simp; omega
    · omega
theorem check_right {rs : List Rule} (h : check rs = true) : rs.all right = true := by
  simp only [check, Bool.and_eq_true] at h
  exact h.2.1
theorem lrules_check (l : List Raw) (sym : Int) : check (lrules l sym) = true := lrulesN_check l sym _
theorem lrules_right (l : List Raw) (sym : Int) : (lrules l sym).all right = true := check_right (lrules_check l sym)
theorem lrules_length (l : List Raw) (sym : Int) : (lrules l sym).length ≤ 20 := Nat.le_trans (lrulesN_length l sym _) (Nat.min_le_right _ _)

set_option maxRecDepth 4000 in
set_option maxHeartbeats 20000000 in
theorem lrules_any (l : List Raw) (v : Value) (sym : Int) (hsym : 1 ≤ sym ∧ sym ≤ 20) (w : World) (h : RawsAt w v l) : Calls Tryz.prog 49 #[v, .int .i64 sym] w fun e w' => ∃ u, e = .returned u ∧ RulesNew w' w.heap.size u (lrules l sym) ∧ Below w.heap.size w w' := by
  obtain ⟨ad, cap, rfl, hmx, hc⟩ := h
  have HC := hid hc
  have HCK := hid rcheck_any
  unfold maxLen at hmx
  clear hc
  unfold lrules
  generalize hlen : l.length = n at *
  have HLEN := hid hlen
  obtain ⟨N, hN⟩ : ∃ N, N = min n 20 := ⟨_, rfl⟩
  have hN20 : N ≤ 20 ∧ N ≤ n := by omega
  rw [← hN]
  have HN := hid hN
  clear hlen hN
  go_enter Tryz.func49, Tryz.ntmps49
  go_wp2
  go_loopw [5, 6] (fun v5 v6 wr => ∃ j : Nat, j ≤ N ∧ v6 = .int .i64 j ∧ RulesNew wr w.heap.size v5 (lrulesN l sym j) ∧ Below w.heap.size w wr) (fun _ v6 _ => N - (intOf v6).toNat)
  case atStart => exact ⟨0, by omega, rfl, RulesNew.nil _ _, Below.refl _ _⟩
  case round =>
    obtain ⟨j, hj, rfl, hR, hb⟩ := hrel
    have HLJ := hid (lrulesN_length l sym j)
    by_cases hlt : j < N
    · obtain ⟨a, rfl, hraw⟩ := HC.out j (by omega)
      have HSTEP : Hid (lrulesN l sym (j + 1) = if check (lrulesN l sym j ++ [mkRule (l.getD j nilRaw) sym]) = true then lrulesN l sym j ++ [mkRule (l.getD j nilRaw) sym] else lrulesN l sym j) := hid rfl
      generalize l.getD j nilRaw = r at *
      generalize lrulesN l sym j = out at *
      obtain ⟨sv, pv, c0, c1, c2, c3, c4, h5, h6, h7⟩ := hraw.on hb
      have HMK := hid (fun w1 (h1 : Row w1 sv r.rhs) (h2 : Row w1 pv r.p) => make_any r sv pv sym hsym h7 w1 h1 h2)
      have H5 := hid h5
      have H6 := hid h6
      obtain ⟨ad1, cap1, e1, _, _⟩ := h5
      obtain ⟨ad2, cap2, e2, _, _⟩ := h6
      subst e1 e2
      have HR := hid hR
      have HB := hid hb
      have hsz := hb.size
      have hlt2 : (j : Int) < (n : Int) := by omega
      have hlt3 : (j : Int) < 20 := by omega
      have HOUT := hid (hR.rules (by have := HLJ.out; omega))
      have HNC := hid hR.none_cap
      obtain ⟨ad5, cap5, hv5⟩ := hR.shape
      generalize hq : out.length = q at *
      have HQ := hid hq
      subst hv5
      have d0 : ∀ o, (wr.alloc o).cell? (a.add (j * 5)) = some (.int .i64 r.lhs) := fun o => ((up_alloc wr o).cell (lt_of_cell c0)).trans c0
      have d1 : ∀ o, (wr.alloc o).cell? ⟨(a.add (j * 5)).block, (a.add (j * 5)).off + 1, none⟩ = some (.int .i64 r.op) := fun o => ((up_alloc wr o).cell (lt_of_cell c1)).trans c1
      have d2 : ∀ o, (wr.alloc o).cell? ⟨(a.add (j * 5)).block, (a.add (j * 5)).off + 2, none⟩ = some (.int .i64 r.cost) := fun o => ((up_alloc wr o).cell (lt_of_cell c2)).trans c2
      have d3 : ∀ o, (wr.alloc o).cell? ⟨(a.add (j * 5)).block, (a.add (j * 5)).off + 3, none⟩ = some (.slice ad1 r.rhs.length cap1) := fun o => ((up_alloc wr o).cell (lt_of_cell c3)).trans c3
      have d4 : ∀ o, (wr.alloc o).cell? ⟨(a.add (j * 5)).block, (a.add (j * 5)).off + 4, none⟩ = some (.slice ad2 r.p.length cap2) := fun o => ((up_alloc wr o).cell (lt_of_cell c4)).trans c4
      clear hR hb hraw hq
      have HLN : Hid (([] : List Rule).length + out.length ≤ 1000000) := hid (by have := HQ.out; have := HLJ.out; simp; omega)
      have HL1 : Hid (([] ++ out).length ≤ 1000000) := hid (by have := HQ.out; have := HLJ.out; simp; omega)
      go_wp2
      go_region_law (first
            | (go_simp; go_at_call 75; refine (HMK.out _ (H5.out.on ((Below.refl wr.heap.size wr).drew)) (H6.out.on ((Below.refl wr.heap.size wr).drew))).mono ?_; rintro e wm ⟨sv', pv', rfl, hs', hp', bel⟩; have HBM : Hid (Below wr.heap.size wr wm) := hid (((Below.refl wr.heap.size wr).drew).trans (bel.mono ((Below.refl wr.heap.size wr).drew).size)); have HSM := hid (hs'.row (rule_small r _).1); have HPM := hid (hp'.row (rule_small r _).2); have hszm := HBM.out.size; obtain ⟨ads, caps, es⟩ := hs'.shape; obtain ⟨adq, capq, ep⟩ := hp'.shape; generalize (mkRule r sym).rhs.length = ns at es; generalize (mkRule r sym).p.length = nq at ep; subst es ep; unfold ruleV; clear hs' hp' bel)
            | (go_simp; go_at_call 75; refine (HMK.out _ (H5.out.on ((up_alloc wr (.cells #[] 120)).drew)) (H6.out.on ((up_alloc wr (.cells #[] 120)).drew))).mono ?_; rintro e wm ⟨sv', pv', rfl, hs', hp', bel⟩; have HBM : Hid (Below wr.heap.size wr wm) := hid (((up_alloc wr (.cells #[] 120)).drew).trans (bel.mono ((up_alloc wr (.cells #[] 120)).drew).size)); have HE2 := hid (((rulesNew_made wr wr.heap.size (Nat.le_refl _) _ rfl).on ((Below.refl _ _).drew)).on bel); have HOE1 : Hid (Off sv' _ (.slice (some ⟨wr.heap.size, 0, none⟩) 0 0)) := hid (off_fresh hs' (fun k e => by simp [Value.ownBlock] at e; simp; omega)); have HOE2 : Hid (Off pv' _ (.slice (some ⟨wr.heap.size, 0, none⟩) 0 0)) := hid (off_fresh hp' (fun k e => by simp [Value.ownBlock] at e; simp; omega)); have HSM := hid (hs'.row (rule_small r _).1); have HPM := hid (hp'.row (rule_small r _).2); have hszm := HBM.out.size; obtain ⟨ads, caps, es⟩ := hs'.shape; obtain ⟨adq, capq, ep⟩ := hp'.shape; generalize (mkRule r sym).rhs.length = ns at es; generalize (mkRule r sym).p.length = nq at ep; subst es ep; unfold ruleV; clear hs' hp' bel)
            | (go_simp; go_at_call 75; refine (HMK.out _ (H5.out.on (HB1.out)) (H6.out.on (HB1.out))).mono ?_; rintro e wm ⟨sv', pv', rfl, hs', hp', bel⟩; have HBM : Hid (Below wr.heap.size wr wm) := hid ((HB1.out).trans (bel.mono (HB1.out).size)); have HAM := hid (HA1.out.on bel); have HOF1 := hid (off_fresh (v := v1) hs' (fun k e => (HA1.out.own k e).2)); have HOF2 := hid (off_fresh (v := v1) hp' (fun k e => (HA1.out.own k e).2)); have HSM := hid (hs'.row (rule_small r _).1); have HPM := hid (hp'.row (rule_small r _).2); have hszm := HBM.out.size; obtain ⟨ads, caps, es⟩ := hs'.shape; obtain ⟨adq, capq, ep⟩ := hp'.shape; generalize (mkRule r sym).rhs.length = ns at es; generalize (mkRule r sym).p.length = nq at ep; subst es ep; unfold ruleV; clear hs' hp' bel)
            | (refine step_append_rules wr _ ((up_alloc wr (.cells #[] 120)).drew) rfl (.tmp 18) (.tmp 19) rfl wr.heap.size (.slice (some ⟨wr.heap.size, 0, none⟩) 0 0) [] (by simp [Act.eval]) ((rulesNew_made wr wr.heap.size (Nat.le_refl _) _ rfl).on ((Below.refl _ _).drew)) (fun g e => by simp [Value.ownBlock] at e; omega) (.slice ad5 q cap5) out (by simp [Act.eval]) HOUT.out HNC.out HLN.out ((up_alloc wr (.cells #[] 120)).drew).size ?_; intro v1 w1 hR1 hg1 hloc1; have HA1 := hid hR1; have HB1 : Hid (Below wr.heap.size wr w1) := hid (((up_alloc wr (.cells #[] 120)).drew).grown hg1 ((up_alloc wr (.cells #[] 120)).drew).size (fun j e => by simp [Value.ownBlock] at e; omega)); have e0 := (HB1.out.cell (lt_of_cell c0)).trans c0; have e1 := (HB1.out.cell (lt_of_cell c1)).trans c1; have e2 := (HB1.out.cell (lt_of_cell c2)).trans c2; have e3 := (HB1.out.cell (lt_of_cell c3)).trans c3; have e4 := (HB1.out.cell (lt_of_cell c4)).trans c4; clear hR1 hg1 hloc1)
            | (refine step_append_rules wr _ (HBM.out) rfl (.tmp 18) (.tmp 19) rfl wr.heap.size (.slice (some ⟨wr.heap.size, 0, none⟩) 0 0) [] (by simp [Act.eval]) (HE2.out) (fun g e => by simp [Value.ownBlock] at e; omega) (.slice ad5 q cap5) out (by simp [Act.eval]) HOUT.out HNC.out HLN.out (HBM.out).size ?_; intro v1 w1 hR1 hg1 hloc1; have HA1 := hid hR1; have HB1 : Hid (Below wr.heap.size wr w1) := hid ((HBM.out).grown hg1 (HBM.out).size (fun j e => by simp [Value.ownBlock] at e; omega)); have HS1 := hid (row_kept (HSM.out) hg1 (HOE1.out)); have HP1 := hid (row_kept (HPM.out) hg1 (HOE2.out)); have HOF1 := hid (off_step (HSM.out) (HOE1.out) hloc1); have HOF2 := hid (off_step (HPM.out) (HOE2.out) hloc1); clear hR1 hg1 hloc1)
            | (refine step_append_rules wr _ (HBM.out.alloc HBM.out.size (.cells #[.int .i64 (mkRule r sym).lhs, .slice ads ns caps, .int .i64 (mkRule r sym).op, .slice adq nq capq, .int .i64 (mkRule r sym).cost] 120)) rfl (.tmp 18) (.tmp 19) rfl wr.heap.size (.slice (some ⟨wr.heap.size, 0, none⟩) 0 0) [] (by simp [Act.eval]) (HE2.out.on (up_alloc _ (.cells #[.int .i64 (mkRule r sym).lhs, .slice ads ns caps, .int .i64 (mkRule r sym).op, .slice adq nq capq, .int .i64 (mkRule r sym).cost] 120))) (fun g e => by simp [Value.ownBlock] at e; omega) (.slice ad5 q cap5) out (by simp [Act.eval]) HOUT.out HNC.out HLN.out (HBM.out.alloc HBM.out.size (.cells #[.int .i64 (mkRule r sym).lhs, .slice ads ns caps, .int .i64 (mkRule r sym).op, .slice adq nq capq, .int .i64 (mkRule r sym).cost] 120)).size ?_; intro v1 w1 hR1 hg1 hloc1; have HA1 := hid hR1; have HB1 : Hid (Below wr.heap.size wr w1) := hid ((HBM.out.alloc HBM.out.size (.cells #[.int .i64 (mkRule r sym).lhs, .slice ads ns caps, .int .i64 (mkRule r sym).op, .slice adq nq capq, .int .i64 (mkRule r sym).cost] 120)).grown hg1 (HBM.out.alloc HBM.out.size (.cells #[.int .i64 (mkRule r sym).lhs, .slice ads ns caps, .int .i64 (mkRule r sym).op, .slice adq nq capq, .int .i64 (mkRule r sym).cost] 120)).size (fun j e => by simp [Value.ownBlock] at e; omega)); have HS1 := hid (row_kept (HSM.out.on (up_alloc _ (.cells #[.int .i64 (mkRule r sym).lhs, .slice ads ns caps, .int .i64 (mkRule r sym).op, .slice adq nq capq, .int .i64 (mkRule r sym).cost] 120))) hg1 (HOE1.out)); have HP1 := hid (row_kept (HPM.out.on (up_alloc _ (.cells #[.int .i64 (mkRule r sym).lhs, .slice ads ns caps, .int .i64 (mkRule r sym).op, .slice adq nq capq, .int .i64 (mkRule r sym).cost] 120))) hg1 (HOE2.out)); have HOF1 := hid (off_step (HSM.out.on (up_alloc _ (.cells #[.int .i64 (mkRule r sym).lhs, .slice ads ns caps, .int .i64 (mkRule r sym).op, .slice adq nq capq, .int .i64 (mkRule r sym).cost] 120))) (HOE1.out) hloc1); have HOF2 := hid (off_step (HPM.out.on (up_alloc _ (.cells #[.int .i64 (mkRule r sym).lhs, .slice ads ns caps, .int .i64 (mkRule r sym).op, .slice adq nq capq, .int .i64 (mkRule r sym).cost] 120))) (HOE2.out) hloc1); have HBX1 := hid (box_kept (box_new wm _ _ _ _ _ _ wm.heap.size rfl) hg1 (by have := HBM.out.size; have := (HE2.out.own _ rfl).2; omega)); clear hR1 hg1 hloc1)
            | (refine step_append_rules wr _ (HBM.out.alloc HBM.out.size (.cells #[] 120)) rfl (.tmp 18) (.tmp 19) rfl wr.heap.size (.slice (some ⟨wm.heap.size, 0, none⟩) 0 0) [] (by simp [Act.eval]) (rulesNew_made wm wr.heap.size HBM.out.size _ rfl) (fun g e => by simp [Value.ownBlock] at e; omega) (.slice ad5 q cap5) out (by simp [Act.eval]) HOUT.out HNC.out HLN.out (HBM.out.alloc HBM.out.size (.cells #[] 120)).size ?_; intro v1 w1 hR1 hg1 hloc1; have HA1 := hid hR1; have HB1 : Hid (Below wr.heap.size wr w1) := hid ((HBM.out.alloc HBM.out.size (.cells #[] 120)).grown hg1 (HBM.out.alloc HBM.out.size (.cells #[] 120)).size (fun j e => by simp [Value.ownBlock] at e; omega)); have HS1 := hid (row_kept (HSM.out.on (up_alloc _ (.cells #[] 120))) hg1 (off_later HSM.out (Nat.le_refl _) _ _ _)); have HP1 := hid (row_kept (HPM.out.on (up_alloc _ (.cells #[] 120))) hg1 (off_later HPM.out (Nat.le_refl _) _ _ _)); have HOF1 := hid (off_step (HSM.out.on (up_alloc _ (.cells #[] 120))) (off_later HSM.out (Nat.le_refl _) _ _ _) hloc1); have HOF2 := hid (off_step (HPM.out.on (up_alloc _ (.cells #[] 120))) (off_later HPM.out (Nat.le_refl _) _ _ _) hloc1); clear hR1 hg1 hloc1)
            | (refine step_append_rules wr _ ((HBM.out.alloc HBM.out.size (.cells #[] 120)).alloc (by simp; omega) (.cells #[.int .i64 (mkRule r sym).lhs, .slice ads ns caps, .int .i64 (mkRule r sym).op, .slice adq nq capq, .int .i64 (mkRule r sym).cost] 120)) rfl (.tmp 18) (.tmp 19) rfl wr.heap.size (.slice (some ⟨wm.heap.size, 0, none⟩) 0 0) [] (by simp [Act.eval]) ((rulesNew_made wm wr.heap.size HBM.out.size _ rfl).on (up_alloc _ (.cells #[.int .i64 (mkRule r sym).lhs, .slice ads ns caps, .int .i64 (mkRule r sym).op, .slice adq nq capq, .int .i64 (mkRule r sym).cost] 120))) (fun g e => by simp [Value.ownBlock] at e; omega) (.slice ad5 q cap5) out (by simp [Act.eval]) HOUT.out HNC.out HLN.out ((HBM.out.alloc HBM.out.size (.cells #[] 120)).alloc (by simp; omega) (.cells #[.int .i64 (mkRule r sym).lhs, .slice ads ns caps, .int .i64 (mkRule r sym).op, .slice adq nq capq, .int .i64 (mkRule r sym).cost] 120)).size ?_; intro v1 w1 hR1 hg1 hloc1; have HA1 := hid hR1; have HB1 : Hid (Below wr.heap.size wr w1) := hid (((HBM.out.alloc HBM.out.size (.cells #[] 120)).alloc (by simp; omega) (.cells #[.int .i64 (mkRule r sym).lhs, .slice ads ns caps, .int .i64 (mkRule r sym).op, .slice adq nq capq, .int .i64 (mkRule r sym).cost] 120)).grown hg1 ((HBM.out.alloc HBM.out.size (.cells #[] 120)).alloc (by simp; omega) (.cells #[.int .i64 (mkRule r sym).lhs, .slice ads ns caps, .int .i64 (mkRule r sym).op, .slice adq nq capq, .int .i64 (mkRule r sym).cost] 120)).size (fun j e => by simp [Value.ownBlock] at e; omega)); have HS1 := hid (row_kept (HSM.out.on (up_trans (up_alloc _ (.cells #[] 120)) (up_alloc _ (.cells #[.int .i64 (mkRule r sym).lhs, .slice ads ns caps, .int .i64 (mkRule r sym).op, .slice adq nq capq, .int .i64 (mkRule r sym).cost] 120)))) hg1 (off_later HSM.out (Nat.le_refl _) _ _ _)); have HP1 := hid (row_kept (HPM.out.on (up_trans (up_alloc _ (.cells #[] 120)) (up_alloc _ (.cells #[.int .i64 (mkRule r sym).lhs, .slice ads ns caps, .int .i64 (mkRule r sym).op, .slice adq nq capq, .int .i64 (mkRule r sym).cost] 120)))) hg1 (off_later HPM.out (Nat.le_refl _) _ _ _)); have HOF1 := hid (off_step (HSM.out.on (up_trans (up_alloc _ (.cells #[] 120)) (up_alloc _ (.cells #[.int .i64 (mkRule r sym).lhs, .slice ads ns caps, .int .i64 (mkRule r sym).op, .slice adq nq capq, .int .i64 (mkRule r sym).cost] 120)))) (off_later HSM.out (Nat.le_refl _) _ _ _) hloc1); have HOF2 := hid (off_step (HPM.out.on (up_trans (up_alloc _ (.cells #[] 120)) (up_alloc _ (.cells #[.int .i64 (mkRule r sym).lhs, .slice ads ns caps, .int .i64 (mkRule r sym).op, .slice adq nq capq, .int .i64 (mkRule r sym).cost] 120)))) (off_later HPM.out (Nat.le_refl _) _ _ _) hloc1); have HBX1 := hid (box_kept (box_new (wm.alloc (.cells #[] 120)) _ _ _ _ _ _ (wm.heap.size + 1) (by simp)) hg1 (by omega)); clear hR1 hg1 hloc1)
            | (refine step_append_rules wr _ ((HBM.out.alloc HBM.out.size (.cells #[.int .i64 (mkRule r sym).lhs, .slice ads ns caps, .int .i64 (mkRule r sym).op, .slice adq nq capq, .int .i64 (mkRule r sym).cost] 120)).alloc (by simp; omega) (.cells #[] 120)) rfl (.tmp 18) (.tmp 19) rfl wr.heap.size (.slice (some ⟨wm.heap.size + 1, 0, none⟩) 0 0) [] (by simp [Act.eval]) (rulesNew_made (wm.alloc (.cells #[.int .i64 (mkRule r sym).lhs, .slice ads ns caps, .int .i64 (mkRule r sym).op, .slice adq nq capq, .int .i64 (mkRule r sym).cost] 120)) wr.heap.size (by simp; omega) (wm.heap.size + 1) (by simp)) (fun g e => by simp [Value.ownBlock] at e; omega) (.slice ad5 q cap5) out (by simp [Act.eval]) HOUT.out HNC.out HLN.out ((HBM.out.alloc HBM.out.size (.cells #[.int .i64 (mkRule r sym).lhs, .slice ads ns caps, .int .i64 (mkRule r sym).op, .slice adq nq capq, .int .i64 (mkRule r sym).cost] 120)).alloc (by simp; omega) (.cells #[] 120)).size ?_; intro v1 w1 hR1 hg1 hloc1; have HA1 := hid hR1; have HB1 : Hid (Below wr.heap.size wr w1) := hid (((HBM.out.alloc HBM.out.size (.cells #[.int .i64 (mkRule r sym).lhs, .slice ads ns caps, .int .i64 (mkRule r sym).op, .slice adq nq capq, .int .i64 (mkRule r sym).cost] 120)).alloc (by simp; omega) (.cells #[] 120)).grown hg1 ((HBM.out.alloc HBM.out.size (.cells #[.int .i64 (mkRule r sym).lhs, .slice ads ns caps, .int .i64 (mkRule r sym).op, .slice adq nq capq, .int .i64 (mkRule r sym).cost] 120)).alloc (by simp; omega) (.cells #[] 120)).size (fun j e => by simp [Value.ownBlock] at e; omega)); have HS1 := hid (row_kept (HSM.out.on (up_trans (up_alloc _ (.cells #[.int .i64 (mkRule r sym).lhs, .slice ads ns caps, .int .i64 (mkRule r sym).op, .slice adq nq capq, .int .i64 (mkRule r sym).cost] 120)) (up_alloc _ (.cells #[] 120)))) hg1 (off_later HSM.out (Nat.le_succ _) _ _ _)); have HP1 := hid (row_kept (HPM.out.on (up_trans (up_alloc _ (.cells #[.int .i64 (mkRule r sym).lhs, .slice ads ns caps, .int .i64 (mkRule r sym).op, .slice adq nq capq, .int .i64 (mkRule r sym).cost] 120)) (up_alloc _ (.cells #[] 120)))) hg1 (off_later HPM.out (Nat.le_succ _) _ _ _)); have HOF1 := hid (off_step (HSM.out.on (up_trans (up_alloc _ (.cells #[.int .i64 (mkRule r sym).lhs, .slice ads ns caps, .int .i64 (mkRule r sym).op, .slice adq nq capq, .int .i64 (mkRule r sym).cost] 120)) (up_alloc _ (.cells #[] 120)))) (off_later HSM.out (Nat.le_succ _) _ _ _) hloc1); have HOF2 := hid (off_step (HPM.out.on (up_trans (up_alloc _ (.cells #[.int .i64 (mkRule r sym).lhs, .slice ads ns caps, .int .i64 (mkRule r sym).op, .slice adq nq capq, .int .i64 (mkRule r sym).cost] 120)) (up_alloc _ (.cells #[] 120)))) (off_later HPM.out (Nat.le_succ _) _ _ _) hloc1); have HBX1 := hid (box_kept ((box_new wm _ _ _ _ _ _ wm.heap.size rfl).on (up_alloc _ (.cells #[] 120))) hg1 (by omega)); clear hR1 hg1 hloc1)
            | (refine step_append_rule _ rfl (.tmp 20) (.tmp 27) rfl wr.heap.size _ ([] ++ out) (by simp [Act.eval]) (HAM.out.on (up_alloc _ (.cells #[.int .i64 (mkRule r sym).lhs, .slice ads ns caps, .int .i64 (mkRule r sym).op, .slice adq nq capq, .int .i64 (mkRule r sym).cost] 120))) (mkRule r sym) _ _ (HSM.out.on (up_alloc _ (.cells #[.int .i64 (mkRule r sym).lhs, .slice ads ns caps, .int .i64 (mkRule r sym).op, .slice adq nq capq, .int .i64 (mkRule r sym).cost] 120))) (HPM.out.on (up_alloc _ (.cells #[.int .i64 (mkRule r sym).lhs, .slice ads ns caps, .int .i64 (mkRule r sym).op, .slice adq nq capq, .int .i64 (mkRule r sym).cost] 120))) HOF1.out HOF2.out (wm.heap.size) (by simp [Act.eval]) (box_new _ _ _ _ _ _ _ _ rfl) HL1.out (HBM.out.alloc HBM.out.size (.cells #[.int .i64 (mkRule r sym).lhs, .slice ads ns caps, .int .i64 (mkRule r sym).op, .slice adq nq capq, .int .i64 (mkRule r sym).cost] 120)).size ?_; intro g3 cap3 w3 hR3 hg3 hloc3; rw [List.nil_append] at hR3; have HR3 := hid hR3; have HBW3 : Hid (Below wr.heap.size wr w3) := hid (Below.grown (HBM.out.alloc HBM.out.size (.cells #[.int .i64 (mkRule r sym).lhs, .slice ads ns caps, .int .i64 (mkRule r sym).op, .slice adq nq capq, .int .i64 (mkRule r sym).cost] 120)) hg3 (HBM.out.alloc HBM.out.size (.cells #[.int .i64 (mkRule r sym).lhs, .slice ads ns caps, .int .i64 (mkRule r sym).op, .slice adq nq capq, .int .i64 (mkRule r sym).cost] 120)).size (fun k e => (HA1.out.own k e).1)); have HB3 : Hid (Below w.heap.size w w3) := hid (HB.out.trans (HBW3.out.mono hsz)); clear hR3 hg3 hloc3)
            | (refine step_append_rule _ rfl (.tmp 20) (.tmp 27) rfl wr.heap.size _ ([] ++ out) (by simp [Act.eval]) (HA1.out.on (up_alloc _ (.cells #[.int .i64 (mkRule r sym).lhs, .slice ads ns caps, .int .i64 (mkRule r sym).op, .slice adq nq capq, .int .i64 (mkRule r sym).cost] 120))) (mkRule r sym) _ _ (HS1.out.on (up_alloc _ (.cells #[.int .i64 (mkRule r sym).lhs, .slice ads ns caps, .int .i64 (mkRule r sym).op, .slice adq nq capq, .int .i64 (mkRule r sym).cost] 120))) (HP1.out.on (up_alloc _ (.cells #[.int .i64 (mkRule r sym).lhs, .slice ads ns caps, .int .i64 (mkRule r sym).op, .slice adq nq capq, .int .i64 (mkRule r sym).cost] 120))) HOF1.out HOF2.out (w1.heap.size) (by simp [Act.eval]) (box_new _ _ _ _ _ _ _ _ rfl) HL1.out (HB1.out.alloc HB1.out.size (.cells #[.int .i64 (mkRule r sym).lhs, .slice ads ns caps, .int .i64 (mkRule r sym).op, .slice adq nq capq, .int .i64 (mkRule r sym).cost] 120)).size ?_; intro g3 cap3 w3 hR3 hg3 hloc3; rw [List.nil_append] at hR3; have HR3 := hid hR3; have HBW3 : Hid (Below wr.heap.size wr w3) := hid (Below.grown (HB1.out.alloc HB1.out.size (.cells #[.int .i64 (mkRule r sym).lhs, .slice ads ns caps, .int .i64 (mkRule r sym).op, .slice adq nq capq, .int .i64 (mkRule r sym).cost] 120)) hg3 (HB1.out.alloc HB1.out.size (.cells #[.int .i64 (mkRule r sym).lhs, .slice ads ns caps, .int .i64 (mkRule r sym).op, .slice adq nq capq, .int .i64 (mkRule r sym).cost] 120)).size (fun k e => (HA1.out.own k e).1)); have HB3 : Hid (Below w.heap.size w w3) := hid (HB.out.trans (HBW3.out.mono hsz)); clear hR3 hg3 hloc3)
            | (refine step_append_rule _ rfl (.tmp 20) (.tmp 27) rfl wr.heap.size _ ([] ++ out) (by simp [Act.eval]) (HA1.out) (mkRule r sym) _ _ (HS1.out) (HP1.out) HOF1.out HOF2.out (_) (by simp [Act.eval]) (HBX1.out) HL1.out (HB1.out).size ?_; intro g3 cap3 w3 hR3 hg3 hloc3; rw [List.nil_append] at hR3; have HR3 := hid hR3; have HBW3 : Hid (Below wr.heap.size wr w3) := hid (Below.grown (HB1.out) hg3 (HB1.out).size (fun k e => (HA1.out.own k e).1)); have HB3 : Hid (Below w.heap.size w w3) := hid (HB.out.trans (HBW3.out.mono hsz)); clear hR3 hg3 hloc3))
      all_goals
        clear c0 c1 c2 c3 c4 d0 d1 d2 d3 d4
        try clear e0 e1 e2 e3 e4
        go_wp2_with fail
        refine (HCK.out (out ++ [mkRule r sym]) _ w3 (HR3.out.rules (by have := HQ.out; have := HLJ.out; simp; omega))).mono ?_
        rintro e w4 ⟨rfl, bel⟩
        have HB4 := hid (up_trans HB3.out bel)
        have HR4 := hid ((HR3.out.base hsz).on bel)
        have HB34 := hid (up_trans HBW3.out bel)
        have HO4 := hid (HR.out)
        cases hk : check (out ++ [mkRule r sym]) with
        | true =>
          have HS2 : Hid (lrulesN l sym (j + 1) = out ++ [mkRule r sym]) := hid (by rw [HSTEP.out, if_pos hk])
          clear hk
          go_wp2
          go_roundw
          · exact ⟨j + 1, by omega, by simp, by rw [HS2.out]; exact HR4.out, HB4.out⟩
          · simp [intOf]; omega
        | false =>
          have HS2 : Hid (lrulesN l sym (j + 1) = out) := hid (by rw [HSTEP.out, if_neg (by rw [hk]; decide)])
          clear hk
          go_wp2
          go_roundw
          · exact ⟨j + 1, by omega, by simp, by rw [HS2.out]; exact HO4.out.on HB34.out, HB4.out⟩
          · simp [intOf]; omega
    · obtain rfl : j = N := by omega
      have HR := hid hR
      have HB := hid hb
      clear hR hb
      by_cases h20 : n ≤ 20
      · have g1 : ¬ ((j : Int) < (n : Int)) := by have := HN.out; omega
        go_wp2
        go_ret
        exact ⟨_, rfl, HR.out, HB.out⟩
      · have g1 : (j : Int) < (n : Int) := by have := HN.out; omega
        have g2 : ¬ ((j : Int) < 20) := by have := HN.out; omega
        go_wp2
        go_ret
        exact ⟨_, rfl, HR.out, HB.out⟩

end Go.Proofs.YtannndpamhgknaaGreatDoor.Gr
