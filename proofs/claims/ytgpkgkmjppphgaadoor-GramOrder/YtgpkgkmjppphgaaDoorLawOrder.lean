/- GramOrder answers true of every input: rules in another order, or twice, are as right; what is reached is the same. The table of places reads as the program's text lays it. -/
import Derived.Test.YtgpkgkmjppphgaaDoorCards
import Derived.Test.YtgpkgkmjppphgaaDoorTie
import Derived.Test.YtgpkgkmjppphgaaDoorTable
import Derived.Test.YtgpkgkmjppphgaaDoorLawBase
import Derived.Test.YtgpkgkmjppphgaaDoorGrow5
import Derived.Test.YtgpkgkmjppphgaaDoorMake
import Derived.Test.YtgpkgkmjppphgaaDoorRefInts
import Derived.ProofKit
import Derived.OpenShut
import Derived.Lay
import Derived.SevenTiedAt
import Derived.Stop.Joined
import Derived.Lib.LaidTab
namespace Go.Proofs.YtgpkgkmjppphgaaDoor
open Go.ChangeShapes Go.WideShapes Go.ChangeAt Go.RowKit


theorem edge_iff {L : Nat} {rs qs : List Rule} (h : ∀ r, r ∈ qs ↔ r ∈ rs) (x y : Nat) : edge L qs x y = edge L rs x y := by
  rw [Bool.eq_iff_iff]
  exact ⟨edge_mem (fun r hr => (h r).1 hr) x y, edge_mem (fun r hr => (h r).2 hr) x y⟩
theorem check_iff {rs qs : List Rule} (h : ∀ r, r ∈ qs ↔ r ∈ rs) (h1 : qs.length ≤ 60) (h2 : rs.length ≤ 60) : check qs = check rs := by
  have hall : qs.all right = rs.all right := by
    rw [Bool.eq_iff_iff, List.all_eq_true, List.all_eq_true]
    exact ⟨fun k r hr => k r ((h r).2 hr), fun k r hr => k r ((h r).1 hr)⟩
  have hn : noRound qs ↔ noRound rs := by
    unfold noRound
    exact ⟨fun k i hi => k i ((Reach.congr (edge_iff h)).2 hi), fun k i hi => k i ((Reach.congr (edge_iff h)).1 hi)⟩
  rw [check_eq, check_eq, decide_eq_true h1, decide_eq_true h2, hall]
  congr 2
  exact decide_eq_decide.2 hn
theorem reached_iff {rs qs : List Rule} (hr : rs.all right = true) (hq : qs.all right = true) (h : ∀ r, r ∈ qs ↔ r ∈ rs) : reachedL qs = reachedL rs := symL_congr (fun j _ => by
  rw [Bool.eq_iff_iff, reachedS_iff hq, reachedS_iff hr, Reach.congr (edge_iff h)])
theorem swap_mem {rs : List Rule} {p q : Nat} {rp rq : Rule} (hp : rs[p]? = some rp) (hq : rs[q]? = some rq) (r : Rule) : r ∈ (rs.set p rq).set q rp ↔ r ∈ rs := by
  have lp := (List.getElem?_eq_some_iff.1 hp).1
  have lq := (List.getElem?_eq_some_iff.1 hq).1
  have hget : ∀ i, ((rs.set p rq).set q rp)[i]? = if q = i then some rp else if p = i then some rq else rs[i]? := by
    intro i
    rw [List.getElem?_set]
    by_cases e : q = i
    · subst e; simp [lq]
    · rw [if_neg e, if_neg e, List.getElem?_set]
      by_cases e2 : p = i
      · subst e2; simp [lp]
      · rw [if_neg e2, if_neg e2]
  constructor
  · intro h
    obtain ⟨i, hi⟩ := List.getElem?_of_mem h
    rw [hget i] at hi
    split at hi
    · obtain rfl := Option.some.inj hi; exact List.mem_of_getElem? hp
    · split at hi
      · obtain rfl := Option.some.inj hi; exact List.mem_of_getElem? hq
      · exact List.mem_of_getElem? hi
  · intro h
    obtain ⟨i, hi⟩ := List.getElem?_of_mem h
    by_cases e : i = p
    · subst e
      obtain rfl := Option.some.inj (hp.symm.trans hi)
      exact List.mem_of_getElem? (i := q) (by rw [hget q, if_pos rfl])
    · by_cases e2 : i = q
      · subst e2
        obtain rfl := Option.some.inj (hq.symm.trans hi)
        exact List.mem_of_getElem? (i := p) (by rw [hget p, if_neg e, if_pos rfl])
      · exact List.mem_of_getElem? (i := i) (by rw [hget i, if_neg (fun h => e2 h.symm), if_neg (fun h => e h.symm)]; exact hi)
/-- The five cells of place p laid anew. -/
def set5 (w : World) (g k : Nat) (x0 x1 x2 x3 x4 : Value) : World := ((((w.setCell ⟨g, k, none⟩ x0).setCell ⟨g, k + 1, none⟩ x1).setCell ⟨g, k + 2, none⟩ x2).setCell ⟨g, k + 3, none⟩ x3).setCell ⟨g, k + 4, none⟩ x4
theorem RulesNew.set5 {w : World} {B g n cap : Nat} {rs : List Rule} (h : RulesNew w B (.slice (some ⟨g, 0, none⟩) n cap) rs) {p : Nat} (hp : p < rs.length) (hn : rs.length = n) (r : Rule) (sv pv : Value) (h1 : Row w sv r.rhs) (h2 : Row w pv r.p) (o1 : Off sv r.rhs (.slice (some ⟨g, 0, none⟩) n cap)) (o2 : Off pv r.p (.slice (some ⟨g, 0, none⟩) n cap)) :
    RulesNew (set5 w g (p * 5) (.int .i64 r.lhs) sv (.int .i64 r.op) pv (.int .i64 r.cost)) B (.slice (some ⟨g, 0, none⟩) n cap) (rs.set p r) ∧ w.grownBy (Go.Proofs.YtgpkgkmjppphgaaDoor.set5 w g (p * 5) (.int .i64 r.lhs) sv (.int .i64 r.op) pv (.int .i64 r.cost)) (some g) := by
  obtain ⟨cs, ho, hrs⟩ := h
  have hcl := ho.1
  rw [hn] at ho
  obtain ⟨k0, g0⟩ := ho.stored (p * 5) (.int .i64 r.lhs)
  obtain ⟨k1, g1⟩ := k0.stored (p * 5 + 1) sv
  obtain ⟨k2, g2⟩ := k1.stored (p * 5 + 2) (.int .i64 r.op)
  obtain ⟨k3, g3⟩ := k2.stored (p * 5 + 3) pv
  obtain ⟨k4, g4⟩ := k3.stored (p * 5 + 4) (.int .i64 r.cost)
  have hg := (((g0.trans g1).trans g2).trans g3).trans g4
  refine ⟨⟨_, by rw [List.length_set, hn]; exact k4, fun j q hq => ?_⟩, hg⟩
  have key : ∀ (u : Value) (xs : List Int), Row w u xs → Off u xs (.slice (some ⟨g, 0, none⟩) n cap) → Row (Go.Proofs.YtgpkgkmjppphgaaDoor.set5 w g (p * 5) (.int .i64 r.lhs) sv (.int .i64 r.op) pv (.int .i64 r.cost)) u xs := fun u xs hu ho => row_kept hu hg ho
  have hj : j < rs.length := by have := (List.getElem?_eq_some_iff.1 hq).1; simpa using this
  by_cases e : j = p
  · subst e
    rw [List.getElem?_set_self hp] at hq
    obtain rfl := Option.some.inj hq
    refine ⟨sv, pv, ?_, ?_, ?_, ?_, ?_, key _ _ h1 o1, key _ _ h2 o2, o1, o2⟩ <;> simp [List.getElem?_set, hcl] <;> omega
  · rw [List.getElem?_set_ne (fun h => e h.symm)] at hq
    obtain ⟨u, pu, a0, a1, a2, a3, a4, h5, h6, h7, h8⟩ := hrs j q hq
    have far : ∀ k m, k < 5 → m < 5 → ¬ (p * 5 + m = j * 5 + k) := by omega
    refine ⟨u, pu, ?_, ?_, ?_, ?_, ?_, key _ _ h5 h7, key _ _ h6 h8, h7, h8⟩
    all_goals (simp only [List.getElem?_set]; (repeat rw [if_neg (by omega)]); assumption)

theorem RulesNew.swap {w : World} {B g n cap : Nat} {bs : List Rule} (h : RulesNew w B (.slice (some ⟨g, 0, none⟩) n cap) bs) (hn : bs.length = n) {p q : Nat} {rp rq : Rule} (hp : bs[p]? = some rp) (hq : bs[q]? = some rq) (svp pvp svq pvq : Value)
    (h1 : Row w svp rp.rhs ∧ Row w pvp rp.p ∧ Off svp rp.rhs (.slice (some ⟨g, 0, none⟩) n cap) ∧ Off pvp rp.p (.slice (some ⟨g, 0, none⟩) n cap)) (h2 : Row w svq rq.rhs ∧ Row w pvq rq.p ∧ Off svq rq.rhs (.slice (some ⟨g, 0, none⟩) n cap) ∧ Off pvq rq.p (.slice (some ⟨g, 0, none⟩) n cap)) :
    RulesNew (Go.Proofs.YtgpkgkmjppphgaaDoor.set5 (Go.Proofs.YtgpkgkmjppphgaaDoor.set5 w g (p * 5) (.int .i64 rq.lhs) svq (.int .i64 rq.op) pvq (.int .i64 rq.cost)) g (q * 5) (.int .i64 rp.lhs) svp (.int .i64 rp.op) pvp (.int .i64 rp.cost)) B (.slice (some ⟨g, 0, none⟩) n cap) ((bs.set p rq).set q rp)
    ∧ w.grownBy (Go.Proofs.YtgpkgkmjppphgaaDoor.set5 (Go.Proofs.YtgpkgkmjppphgaaDoor.set5 w g (p * 5) (.int .i64 rq.lhs) svq (.int .i64 rq.op) pvq (.int .i64 rq.cost)) g (q * 5) (.int .i64 rp.lhs) svp (.int .i64 rp.op) pvp (.int .i64 rp.cost)) (some g) := by
  have lp := (List.getElem?_eq_some_iff.1 hp).1
  have lq := (List.getElem?_eq_some_iff.1 hq).1
  obtain ⟨k1, g1⟩ := h.set5 lp hn rq svq pvq h2.1 h2.2.1 h2.2.2.1 h2.2.2.2
  obtain ⟨k2, g2⟩ := k1.set5 (p := q) (by simpa using lq) (by simpa using hn) rp svp pvp (row_kept h1.1 g1 h1.2.2.1) (row_kept h1.2.1 g1 h1.2.2.2) h1.2.2.1 h1.2.2.2
  exact ⟨k2, g1.trans g2⟩

set_option maxRecDepth 4000 in
set_option maxHeartbeats 20000000 in
theorem walk (v0 : Value) (l : List Raw) (a1 : Int) (v2 : Value) (os : List Int) (W : World) (hl0 : RawsAt W v0 l) (_ : (Lit.int .i64 a1).wf = true) (hos : Row W v2 os ∧ ∀ y ∈ os, wf64 y) (hT : Tab W) : Calls Tryd.prog 8 #[v0, .int .i64 a1, v2] W fun e W' => e = .returned (.bool true) ∧ Below W.heap.size W W' := by
  have HK := hid (known_any W hT)
  have HT := hid hT
  have HL0 := hid hl0
  have HW := hid (fun a n w h h' => lwithin_any a n w h h')
  have hsym : 1 ≤ 1 + a1 % 20 ∧ 1 + a1 % 20 ≤ 20 := by omega
  obtain ⟨ad, cap, hv0, hmx, hc⟩ := hl0
  subst hv0
  have HC := hid hc
  unfold maxLen at hmx
  obtain ⟨⟨ado, capo, hvo, hmo, hco⟩, hwo⟩ := hos
  subst hvo
  unfold maxLen at hmo
  have HCO := hid hco
  have HWO := hid hwo
  clear hc hT hco hwo
  cases hf : few l with
  | false =>
    have HF := hid (fun w1 (bel : Below W.heap.size W w1) => few_any l _ w1 (HL0.out.on bel))
    rw [hf] at HF
    clear hf
    go_enter Tryd.func8, Tryd.ntmps8
    go_wp2_with fail
    refine HK.out.mono ?_
    rintro e w1 ⟨rfl, bel⟩
    have HL1 := hid bel
    clear bel HK
    go_wp2_with fail
    refine (HF.out w1 HL1.out).mono ?_
    rintro e w2 ⟨rfl, rfl⟩
    go_wp2
    go_ret
    exact ⟨rfl, HL1.out⟩
  | true =>
    have HF := hid (fun w1 (bel : Below W.heap.size W w1) => few_any l _ w1 (HL0.out.on bel))
    rw [hf] at HF
    clear hf
    generalize hlen : l.length = n at *
    generalize hleno : os.length = no at *
    have HLO := hid hleno
    clear hlen hleno
    obtain ⟨N, hN⟩ : ∃ N, N = min n 25 := ⟨_, rfl⟩
    have hN25 : N ≤ 25 ∧ N ≤ n := by omega
    have HN := hid hN
    clear hN
    go_enter Tryd.func8, Tryd.ntmps8
    go_wp2_with fail
    refine HK.out.mono ?_
    rintro e w1 ⟨rfl, bel⟩
    have HL1 := hid bel
    clear bel HK
    go_wp2_with fail
    refine (HF.out w1 HL1.out).mono ?_
    rintro e w2 ⟨rfl, hw2⟩
    obtain rfl := hw2.symm
    clear hw2
    go_wp2
    go_loopw [7, 8] (fun v7 v8 wr => ∃ (j : Nat) (rs : List Rule), j ≤ N ∧ v8 = .int .i64 j ∧ RulesNew wr W.heap.size v7 rs ∧ Hid (rs.length = j ∧ rs.all right = true) ∧ Below W.heap.size W wr) (fun _ v8 _ => N - (intOf v8).toNat)
    case atStart => exact ⟨0, [], by omega, rfl, RulesNew.nil w1 W.heap.size, hid ⟨rfl, rfl⟩, HL1.out⟩
    case round =>
      obtain ⟨j, rs, hj, rfl, hR, HRS, hb⟩ := hrel
      by_cases hlt : j < N
      · obtain ⟨a, rfl, hraw⟩ := HC.out j (by omega)
        generalize l.getD j nilRaw = r at *
        obtain ⟨sv, pv, c0, c1, c2, c3, c4, h5, h6, h7⟩ := hraw.on hb
        have HMK := hid (fun w1 (h1 : Row w1 sv r.rhs) (h2 : Row w1 pv r.p) => make_any r sv pv (1 + a1 % 20) hsym h7 w1 h1 h2)
        have H5 := hid h5
        have H6 := hid h6
        obtain ⟨ad1, cap1, e1, _, _⟩ := h5
        obtain ⟨ad2, cap2, e2, _, _⟩ := h6
        subst e1 e2
        have HR := hid hR
        have HB := hid hb
        have hsz := hb.size
        have hlt2 : (j : Int) < (n : Int) := by omega
        have hlt3 : (j : Int) < 25 := by omega
        have HOWN := hid hR.own
        have q1 : IntKind.i64.wrap (1 + a1 % 20) = 1 + a1 % 20 := by rw [IntKind.wrap_i64]; omega
        obtain ⟨ad5, cap5, hv5⟩ := hR.shape
        rw [HRS.out.1] at hv5
        subst hv5
        clear hR hb hraw
        go_wp2
        go_region_law (first | (go_simp; go_at_call 17; refine (HW.out _ _ _ (by omega) (by omega)).mono ?_; rintro e w1 ⟨rfl, hw1⟩; obtain rfl := hw1.symm; clear hw1) | (go_simp; go_at_call 15; refine (HMK.out _ (H5.out.on ((Below.refl _ _).drew)) (H6.out.on ((Below.refl _ _).drew))).mono ?_; rintro e wm ⟨sv', pv', rfl, hs', hp', bel⟩; have hbm : Below wr.heap.size wr wm := ((Below.refl wr.heap.size wr).drew).trans bel; have HRM := hid (HR.out.on hbm); have HBM := hid (HB.out.trans (hbm.mono hsz)); have HO1 := hid (off_fresh hs' (fun k e => (HOWN.out k e).2)); have HO2 := hid (off_fresh hp' (fun k e => (HOWN.out k e).2)); have HW1 := hid (hs'.row (rule_small r _).1); have HW2 := hid (hp'.row (rule_small r _).2); have hszm := HBM.out.size; obtain ⟨ads, caps, es⟩ := hs'.shape; obtain ⟨adq, capq, ep⟩ := hp'.shape; subst es ep; unfold ruleV; clear hs' hp' bel hbm) | (refine step_append_rule _ rfl (.tmp 28) (.tmp 37) rfl W.heap.size _ rs (by simp [Act.eval]) (HRM.out.on (up_alloc _ _)) (mkRule r (1 + a1 % 20)) _ _ (HW1.out.on (up_alloc _ _)) (HW2.out.on (up_alloc _ _)) HO1.out HO2.out wm.heap.size (by simp [Act.eval]) (box_new _ _ _ _ _ _ _ _ rfl) (by have := HRS.out.1; omega) (by simp; omega) ?_; intro g cap w3 hR3 hg3 hloc3; have HR3 := hid hR3; have HB3 := hid ((HBM.out.alloc HBM.out.size _).grown hg3 (by simp; omega) (fun k e => (HRM.out.own k e).1)); clear hR3 hg3 hloc3))
        all_goals
          go_wp2
          go_roundw
          · exact ⟨j + 1, rs ++ [mkRule r (1 + a1 % 20)], by omega, by simp, HR3.out, hid ⟨by simp [HRS.out.1], by rw [List.all_append, HRS.out.2]; simp [make_right r _ hsym]⟩, HB3.out⟩
          · simp [intOf]; omega
      · obtain rfl : j = N := by omega
        obtain ⟨WW, rfl⟩ : ∃ WW, WW = wr := ⟨wr, rfl⟩
        have HR := hid hR
        have HB := hid hb
        have HQ := hid (hR.rules (by have := HRS.out.1; omega))
        have HNC := hid hR.none_cap
        obtain ⟨ad7, cap7, e7⟩ := hR.shape
        rw [HRS.out.1] at e7
        subst e7
        have HLT : Hid (([] : List Rule).length + rs.length ≤ 1000000) := hid (by have := HRS.out.1; simp; omega)
        have hcase : (¬ (j : Int) < (n : Int) ∧ True) ∨ ((j : Int) < (n : Int) ∧ ¬ ((j : Int) < 25)) := by
          have := HN.out
          by_cases h : (j : Int) < (n : Int)
          · exact .inr ⟨h, by omega⟩
          · exact .inl ⟨h, trivial⟩
        clear hR hb
        rcases hcase with ⟨g1, g2⟩ | ⟨g1, g2⟩
        all_goals
          go_wp2_with (at_builtin; refine wpList_append_rules WW _ (up_alloc _ _) rfl (.tmp 39) (.tmp 40) rfl WW.heap.size _ [] rfl (rulesNew_made WW WW.heap.size (Nat.le_refl _) _ rfl) (fun g e => Nat.le_of_eq (Option.some.inj (show some WW.heap.size = some g from e))) _ rs rfl HQ.out HNC.out HLT.out (by simp) ?_; intro v5 w5 hR5 hg5 hloc5; have HB5 := hid (((Below.refl WW.heap.size WW).alloc (Nat.le_refl _) _).grown hg5 (by simp) (fun k e => Nat.le_of_eq (Option.some.inj (show some WW.heap.size = some k from e)))); rw [List.nil_append] at hR5; have HR5 := hid hR5; obtain ⟨ad5, cap5, hv5⟩ := hR5.shape; rw [HRS.out.1] at hv5; subst hv5; have hsz5 := HB5.out.size; clear hR5 hg5 hloc5)
          obtain ⟨M, hM⟩ : ∃ M, M = min no 30 := ⟨_, rfl⟩
          have hM30 : M ≤ 30 ∧ M ≤ no := by omega
          have HMM := hid hM
          clear hM g1 g2
          go_loopw [10] (fun v10 wr => ∃ (i : Nat) (bs : List Rule), i ≤ M ∧ v10 = .int .i64 i ∧ RulesNew wr WW.heap.size (.slice ad5 j cap5) bs ∧ Hid (bs.length = j ∧ ∀ r, r ∈ bs ↔ r ∈ rs) ∧ Below WW.heap.size WW wr) (fun v10 _ => M - (intOf v10).toNat)
          · exact ⟨0, rs, by omega, rfl, HR5.out, hid ⟨HRS.out.1, fun r => Iff.rfl⟩, HB5.out⟩
          · obtain ⟨i, bs, hi, rfl, hR, HBS, hb⟩ := hrel
            have HRB := hid hR
            have HBB := hid hb
            have HBW := hid (HB.out.trans (hb.mono HB.out.size))
            clear hR hb
            by_cases hgo : i < M ∧ 0 < j
            · have hi1 : (i : Int) < (no : Int) := by omega
              have hi2 : (i : Int) < 30 := by omega
              have hj1 : (0 : Int) < (j : Int) := by omega
              have hj0 : ((j : Int) == 0) = false := by simp; omega
              have hjn : ¬ j = 0 := by omega
              obtain ⟨ao, rfl, hoc⟩ := HCO.out i (by omega)
              have hoc2 := (HBW.out.cell (lt_of_cell hoc)).trans hoc
              generalize os.getD i 0 = y at *
              have hp : i % j < j := Nat.mod_lt _ hgo.2
              have hrem : ((i : Int)).tmod (j : Int) = ((i % j : Nat) : Int) := (Int.ofNat_tmod i j).symm
              generalize i % j = p at *
              obtain ⟨q, hyq⟩ : ∃ q : Nat, y % (j : Int) = (q : Int) := ⟨(y % (j : Int)).toNat, by have := Int.emod_nonneg y (show (j : Int) ≠ 0 by omega); omega⟩
              have hq : q < j := by have := Int.emod_lt_of_pos y hj1; omega
              have hp2 : (p : Int) < (j : Int) := by omega
              have hq2 : (q : Int) < (j : Int) := by omega
              have HXP : Hid (bs[p]? = some (bs.getD p nilRule)) := hid (rule_at (by rw [HBS.out.1]; exact hp))
              generalize bs.getD p nilRule = rp at *
              obtain ⟨gp, capp, svp, pvp, evp, p0, p1, p2, p3, p4, hp5, hp6, hp7, hp8⟩ := HRB.out.get HXP.out
              simp only [Value.slice.injEq] at evp
              obtain ⟨evp, -, -⟩ := evp
              subst evp
              have HFP := hid (And.intro hp5 (And.intro hp6 (And.intro hp7 hp8)))
              have hfr : ∀ k, wr.frozen? ⟨gp, k, none⟩ = false := fun k => by
                obtain ⟨cs, ho, _⟩ := HRB.out
                rw [HBS.out.1] at ho
                exact ho.frozenAt k
              by_cases hpq : p = q
              · subst hpq
                have HSW := hid (HRB.out.swap HBS.out.1 HXP.out HXP.out svp pvp svp pvp HFP.out HFP.out)
                obtain ⟨as1, cs1, es1, -, -⟩ := hp5
                obtain ⟨ap1, cp1, ep1, -, -⟩ := hp6
                subst es1 ep1
                have hiM : i < M := hgo.1
                clear hp7 hp8 hgo hoc
                go_wp2
                go_region_law (go_simp; go_at_call 17; refine (HW.out _ _ _ (by omega) (by omega)).mono ?_; rintro e w1 ⟨rfl, hw1⟩; obtain rfl := hw1.symm; clear hw1)
                all_goals
                  go_wp2
                  go_region
                all_goals
                  go_wp2
                  go_roundw
                  · refine ⟨i + 1, (bs.set p rp).set p rp, by omega, by simp, ?_, hid ⟨by simp [HBS.out.1], fun r => (swap_mem HXP.out HXP.out r).trans (HBS.out.2 r)⟩, ((HBB.out.grown HSW.out.2 HBB.out.size (fun k e => (HRB.out.own k e).1)).drew).drew⟩
                    exact (HSW.out.1.on ((Below.refl _ _).drew)).on ((Below.refl _ _).drew)
                  · simp [intOf]; omega
              · have HXQ : Hid (bs[q]? = some (bs.getD q nilRule)) := hid (rule_at (by rw [HBS.out.1]; exact hq))
                generalize bs.getD q nilRule = rq at *
                obtain ⟨gq, capq, svq, pvq, evq, q0, q1, q2, q3, q4, hq5, hq6, hq7, hq8⟩ := HRB.out.get HXQ.out
                simp only [Value.slice.injEq] at evq
                obtain ⟨evq, -, -⟩ := evq
                simp only [Option.some.injEq, Addr.mk.injEq, and_true] at evq
                subst evq
                have HSW := hid (HRB.out.swap HBS.out.1 HXP.out HXQ.out svp pvp svq pvq HFP.out (And.intro hq5 (And.intro hq6 (And.intro hq7 hq8))))
                obtain ⟨as1, cs1, es1, -, -⟩ := hp5
                obtain ⟨ap1, cp1, ep1, -, -⟩ := hp6
                obtain ⟨as2, cs2, es2, -, -⟩ := hq5
                obtain ⟨ap2, cp2, ep2, -, -⟩ := hq6
                subst es1 ep1 es2 ep2
                have hqp : ¬ q = p := fun h => hpq h.symm
                have hiM : i < M := hgo.1
                clear hp7 hp8 hq7 hq8 hgo hoc
                go_wp2
                go_region_law (go_simp; go_at_call 17; refine (HW.out _ _ _ (by omega) (by omega)).mono ?_; rintro e w1 ⟨rfl, hw1⟩; obtain rfl := hw1.symm; clear hw1)
                all_goals
                  go_wp2
                  go_region
                all_goals
                  go_wp2
                  go_roundw
                  · refine ⟨i + 1, (bs.set p rq).set q rp, by omega, by simp, ?_, hid ⟨by simp [HBS.out.1], fun r => (swap_mem HXP.out HXQ.out r).trans (HBS.out.2 r)⟩, ((HBB.out.grown HSW.out.2 HBB.out.size (fun k e => (HRB.out.own k e).1)).drew).drew⟩
                    exact (HSW.out.1.on ((Below.refl _ _).drew)).on ((Below.refl _ _).drew)
                  · simp [intOf]; omega
            · have HQW := hid (HQ.out.on HBB.out)
              have HQB := hid (HRB.out.rules (by have := HBS.out.1; omega))
              have HNB := hid HRB.out.none_cap
              have HC1 := hid (check_iff HBS.out.2 (by have := HBS.out.1; omega) (by have := HRS.out.1; omega))
              have HC2 : Hid (check ([] ++ rs ++ bs) = check rs) := hid (check_iff (fun r => by rw [List.nil_append, List.mem_append]; exact ⟨fun h => h.elim id (fun h => (HBS.out.2 r).1 h), fun h => .inl h⟩) (by have := HBS.out.1; have := HRS.out.1; simp; omega) (by have := HRS.out.1; omega))
              have HBR : Hid (bs.all right = true) := hid (List.all_eq_true.2 (fun r hr => List.all_eq_true.1 HRS.out.2 r ((HBS.out.2 r).1 hr)))
              have HRE := hid (reached_iff HRS.out.2 HBR.out HBS.out.2)
              have HL1' : Hid (([] : List Rule).length + rs.length ≤ 1000000) := hid (by have := HRS.out.1; simp; omega)
              have HL2' : Hid (([] ++ rs).length + bs.length ≤ 1000000) := hid (by have := HBS.out.1; have := HRS.out.1; simp; omega)
              have HL3' : Hid (([] ++ rs ++ bs).length ≤ 1000000) := hid (by have := HBS.out.1; have := HRS.out.1; simp; omega)
              have hcase2 : (¬ (i : Int) < (no : Int) ∧ True ∧ True) ∨ ((i : Int) < (no : Int) ∧ ¬ (i : Int) < 30 ∧ True) ∨ ((i : Int) < (no : Int) ∧ (i : Int) < 30 ∧ ¬ (0 : Int) < (j : Int)) := by
                have := HMM.out
                by_cases h1 : (i : Int) < (no : Int)
                · by_cases h2 : (i : Int) < 30
                  · exact .inr (.inr ⟨h1, h2, fun h3 => hgo ⟨by omega, by omega⟩⟩)
                  · exact .inr (.inl ⟨h1, h2, trivial⟩)
                · exact .inl ⟨h1, trivial, trivial⟩
              clear hgo
              rcases hcase2 with ⟨k1, k2, k3⟩ | ⟨k1, k2, k3⟩ | ⟨k1, k2, k3⟩
              all_goals
                go_wp2_with fail
                refine (check_any rs _ wr HQW.out (HT.out.on HBW.out)).mono ?_
                rintro e w6 ⟨rfl, bel⟩
                have HA6 := hid (HQW.out.on bel)
                have HB6 := hid (HQB.out.on bel)
                have HL6 := hid (up_trans HBW.out bel)
                clear bel
                go_wp2_with fail
                refine (check_any bs _ w6 HB6.out (HT.out.on HL6.out)).mono ?_
                rintro e w7 ⟨rfl, bel⟩
                rw [HC1.out]
                have HA7 := hid (HA6.out.on bel)
                have HB7 := hid (HB6.out.on bel)
                have HL7 := hid (up_trans HL6.out bel)
                generalize hcr : check rs = cc at *
                have HCC := hid hcr
                clear hcr
                have hcc : (cc == cc) = true := by simp
                clear bel
                go_wp2_with (first
                  | (at_builtin; refine wpList_append_rules_g w7 _ (up_alloc _ _) (by first | rfl | simp [Region.wanted, yielded]) (.tmp 88) (.tmp 89) rfl w7.heap.size _ [] rfl (rulesNew_made w7 w7.heap.size (Nat.le_refl _) _ rfl) (fun g e => Nat.le_of_eq (Option.some.inj (show some w7.heap.size = some g from e))) _ rs rfl HA7.out HNC.out HL1'.out (by simp) ?_; intro v8 w8 hR8 hg8 hloc8; have HR8 := hid hR8; have HB8 : Hid (Below w7.heap.size w7 w8) := hid (((Below.refl w7.heap.size w7).alloc (Nat.le_refl _) _).grown hg8 (by simp) (fun k e => Nat.le_of_eq (Option.some.inj (show some w7.heap.size = some k from e)))); clear hR8 hg8 hloc8)
                  | (at_builtin; refine wpList_append_rules_g w7 _ HB8.out (by first | rfl | simp [Region.wanted, yielded]) (.tmp 90) (.tmp 91) rfl w7.heap.size _ ([] ++ rs) rfl HR8.out (fun g e => (HR8.out.own g e).1) _ bs rfl HB7.out HNB.out HL2'.out HB8.out.size ?_; intro v9 w9 hR9 hg9 hloc9; have HR9 := hid (hR9.rules HL3'.out); have HB9 : Hid (Below w7.heap.size w7 w9) := hid (HB8.out.grown hg9 HB8.out.size (fun k e => (HR8.out.own k e).1)); clear hR9 hg9 hloc9))
                have HL9 := hid (HL7.out.trans (HB9.out.mono HL7.out.size))
                refine (check_any ([] ++ rs ++ bs) _ w9 HR9.out (HT.out.on HL9.out)).mono ?_
                rintro e w10 ⟨rfl, bel⟩
                rw [HC2.out]
                have HA10 := hid ((HA7.out.on HB9.out).on bel)
                have HB10 := hid ((HB7.out.on HB9.out).on bel)
                have HL10 := hid (up_trans HL9.out bel)
                clear bel
                go_wp2_with fail
                refine (check_any rs _ w10 HA10.out (HT.out.on HL10.out)).mono ?_
                rintro e w11 ⟨rfl, bel⟩
                rw [HCC.out]
                have HA11 := hid (HA10.out.on bel)
                have HB11 := hid (HB10.out.on bel)
                have HL11 := hid (up_trans HL10.out bel)
                clear bel
                go_wp2_with fail
                refine (reached_any rs _ w11 HA11.out (HT.out.on HL11.out) HRS.out.2).mono ?_
                rintro e w12 ⟨r1, rfl, hr1, bel⟩
                have HB12 := hid (HB11.out.on bel)
                have HL12 := hid (up_trans HL11.out bel)
                have HR12 := hid (hr1.row (by have := symL_length (reachedS rs); unfold reachedL maxLen; omega))
                obtain ⟨ad12, cap12, e12⟩ := hr1.shape
                subst e12
                clear bel hr1
                go_wp2_with fail
                refine (reached_any bs _ w12 HB12.out (HT.out.on HL12.out) HBR.out).mono ?_
                rintro e w13 ⟨r2, rfl, hr2, bel⟩
                rw [HRE.out] at hr2
                have HL13 := hid (up_trans HL12.out bel)
                have HR13 := hid (HR12.out.on bel)
                have HS13 := hid (hr2.row (by have := symL_length (reachedS rs); unfold reachedL maxLen; omega))
                obtain ⟨ad13, cap13, e13⟩ := hr2.shape
                subst e13
                clear bel hr2
                go_wp2_with fail
                refine (ints_any (reachedL rs) _ _ w13 HR13.out HS13.out).mono ?_
                rintro e w14 ⟨rfl, bel⟩
                have HL14 := hid (up_trans HL13.out bel)
                clear bel
                go_wp2
                go_ret
                exact ⟨rfl, HL14.out⟩

theorem own : ownKnob Tryd.prog.godebug = none := by kernel_rfl

theorem table {W : World} (h : laidMetH Tryd.prog Rows.gramOrderRow.laid W) : Tab W := by
  rw [MakeChecks.laidMetH_plain _ _ _ (by kernel_rfl)] at h
  exact tab_of_laid h

set_option maxRecDepth 100000 in
theorem lifted (os : Os) (started : os.Started) (H : Type) (enc : TypeId × Value → H) :
    ReturnsInHanded {} Tryd.checked os 8 .any (fun w args => (Rows.gramOrderSpec.pre enc Tryd.prog Tryd.f8 Rows.gramOrderRow.domain false w args ∧ laidMetH Tryd.prog Rows.gramOrderRow.laid w) ∧ sizedMet enc Tryd.prog Tryd.f8 (OpenSpec.ofChange Rows.gramOrderSpec) false w args)
      (Rows.gramOrderSpec.post enc Tryd.prog Tryd.f8 false true false false) := by
  refine returnsInHanded_of_change_and (C := Tryd.checked) (X := fun w _ => laidMetH Tryd.prog Rows.gramOrderRow.laid w) (fun _ _ _ hh h => h.of_heap hh) own started (by kernel_rfl) Tryd.func8
    (ChangeSpec.witness_shaped (enc := enc) (C := Tryd.checked) (os := os) (X := fun w _ => laidMetH Tryd.prog Rows.gramOrderRow.laid w) false (World.laidAll Tryd.prog os Rows.gramOrderRow.laid) #[.slice none 0 0, .int .i64 0, .slice none 0 0] 8 (World.laidAll_os _ _ _)
      (World.shaped_of_ZipB (by kernel_rfl) (by kernel_rfl)) (by kernel_rfl) (by kernel_rfl) (by kernel_rfl)
      (by rw [MakeChecks.laidMetH_plain _ _ _ (by kernel_rfl)]; exact laidMet_laidAll _ (by kernel_rfl) (by kernel_rfl))) ?_
  intro W base args ds gs before hval0 hW _ _ hL _
  have hval : ∀ (j : Nat) t v, Tryd.f8.params[j]? = some t → args[j]? = some v → Value.okWide Tryd.prog W .any base t v := hval0
  have hW' := hW
  obtain ⟨p, q, hA0, hV, rfl, hfz, hnd⟩ := hW
  have hA : DataW.TrodAll enc Tryd.prog W 0 (fun _ => true) true Tryd.f8.params.toList args.toList ds p := hA0
  rw [Tryd.params8] at hA hval
  obtain ⟨v0, vs0, d0, ds0, p0, q0, hargs, rfl, rfl, h0, r0⟩ := trodAll_cons hA
  obtain ⟨v1, vs1, d1, ds1, p1, q1, rfl, rfl, rfl, h1, r1⟩ := trodAll_cons r0
  obtain ⟨v2, vs2, d2, ds2, p2, q2, rfl, rfl, rfl, h2, r2⟩ := trodAll_cons r1
  obtain ⟨rfl, rfl, rfl⟩ := trodAll_nil r2
  obtain rfl : args = #[v0, v1, v2] := by cases args; simp_all
  obtain ⟨rfl, rfl⟩ := trodVars_none hV
  obtain ⟨x0, w0⟩ := raws_of (hval 0 27 v0 rfl rfl) h0
  have l0 : ∀ x ∈ p0, x.block < W.heap.size := fun x hx => hW'.lt x (by simp [hx])
  obtain ⟨a1, rfl, rfl, rfl, w1⟩ := open_int Tryd.underlying3 (hval 1 3 v1 rfl rfl) h1
  obtain ⟨x2, w2⟩ := ints_of (hval 2 22 v2 rfl rfl) h2
  have l2 : ∀ x ∈ p2, x.block < W.heap.size := fun x hx => hW'.lt x (by simp [hx])
  clear hA0 hval0
  refine (walk v0 x0 a1 v2 x2 W w0 w1 w2 (table hL)).mono fun e W' ⟨he, bel⟩ => ?_
  subst he
  exact ⟨_, rfl, _, _, _, _, _, [], hW', trodAll_mk1 (shut_bool Tryd.underlying4 _), (trodAll_cons_mk (Below.trod (by kernel_rfl) (by kernel_rfl) (of_decide_eq_true (by kernel_rfl)) h0 bel l0) (trodAll_cons_mk (shut_int Tryd.underlying3 w1) (trodAll_cons_mk (Below.trod (by kernel_rfl) (by kernel_rfl) (of_decide_eq_true (by kernel_rfl)) h2 bel l2) trodAll_mk0))), rfl, bel.frame _, fun h => by cases h⟩

theorem row_holds : Rows.GramOrderSaid :=
  OpenClaim.holds_of_wide 8 Tryd.f8 rfl rfl rfl rfl rfl rfl rfl ⟨rfl, rfl, rfl, rfl, rfl⟩ rfl rfl rfl rfl rfl (by kernel_rfl) Tryd.func8 (by kernel_rfl)
    (of_decide_eq_true (by kernel_rfl)) (by unfold Func.isWrapper; first | (rw [if_pos (by decide +kernel)]; kernel_rfl) | (rw [if_neg (by decide +kernel)]; exact ⟨rfl, rfl⟩))
    (fun os started H enc _ => lifted os started H enc)

theorem gramOrder_holds : Rows.GramOrderCardSaid :=
  Claim7.holds_tied_plain_at .later [] _ _ _ _ row_holds (fun _ h => by cases h) (by kernel_rfl) (fun _ h => by cases h) gramOrder_row_tie rfl ⟨rfl, rfl⟩ (by kernel_rfl) rfl
    (fun f fn hf hfn => by
      obtain rfl : f = 8 := Option.some.inj ((show Tryd.prog.funcNamed "interlocutor/interlocutorlaw4.GramOrder" = some 8 by kernel_rfl).symm.trans hf) |>.symm
      obtain rfl : fn = Tryd.f8 := (Option.some.inj (Tryd.func8.symm.trans hfn)).symm
      exact ⟨by kernel_rfl, fun j t ht => by
        rw [Tryd.params8] at ht
        have hm : t ∈ [27, 3, 22] := by simpa using Array.mem_of_getElem? ht
        have hall : ([27, 3, 22].all fun u => !Tryd.prog.wantsStandIn u) = true := by kernel_rfl
        exact (show Tryd.prog.wantsStandIn t = false by simpa using List.all_eq_true.1 hall t hm)⟩)
    (by kernel_rfl)

end Go.Proofs.YtgpkgkmjppphgaaDoor
