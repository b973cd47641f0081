/- GramUnits answers true of every input: units are of rules of one symbol alone, rising, each once. The table of places reads as the program's text lays it. -/
import Derived.Test.YtgpkgkmjppphgaaDoorCards
import Derived.Test.YtgpkgkmjppphgaaDoorTie
import Derived.Test.YtgpkgkmjppphgaaDoorTable
import Derived.Test.YtgpkgkmjppphgaaDoorGrow3
import Derived.Test.YtgpkgkmjppphgaaDoorRawArgs
import Derived.Test.YtgpkgkmjppphgaaDoorMake
import Derived.ProofKit
import Derived.OpenShut
import Derived.Lay
import Derived.SevenTiedAt
import Derived.Stop.Joined
import Derived.Lib.LaidTab
namespace Go.Proofs.YtgpkgkmjppphgaaDoor
open Go.ChangeShapes Go.WideShapes Go.ChangeAt Go.RowKit

def mkRules (l : List Raw) (sym : Int) (j : Nat) : List Rule := (l.take j).map fun r => mkRule r sym
theorem mkRules_succ {l : List Raw} {sym : Int} {j : Nat} {r : Raw} (h : l[j]? = some r) : mkRules l sym (j + 1) = mkRules l sym j ++ [mkRule r sym] := by
  simp [mkRules, List.take_add_one, h]
theorem mkRules_length {l : List Raw} {sym : Int} {j : Nat} (h : j ≤ l.length) : (mkRules l sym j).length = j := by simp [mkRules]; omega
theorem mkRules_right {l : List Raw} {sym : Int} {j : Nat} (hs : 1 ≤ sym ∧ sym ≤ 20) : (mkRules l sym j).all right = true := by
  rw [List.all_eq_true]
  intro x hx
  obtain ⟨r, _, rfl⟩ := List.mem_map.1 hx
  exact make_right r sym hs
theorem off_fresh {w : World} {B : Nat} {sv v : Value} {xs : List Int} (h : RowNew w B sv xs) (hv : ∀ k, v.ownBlock = some k → k < B) : Off sv xs v := by
  cases xs with
  | nil => exact .inl rfl
  | cons x xs =>
    obtain ⟨g, cap, rfl, hg, _⟩ := h.at (by simp)
    exact .inr (fun e => by have := hv g e.symm; omega)
theorem rule_small (r : Raw) (sym : Int) : (mkRule r sym).rhs.length ≤ maxLen ∧ (mkRule r sym).p.length ≤ maxLen := by
  have h1 := mkC_range r
  have h2 := mkN_range r
  simp only [mkRule, mkRhs_length, mkPs_length]
  unfold maxLen
  omega
theorem few_raw {l : List Raw} (h : few l = true) : l.length ≤ 80 ∧ ∀ r ∈ l, r.rhs.length ≤ 20 ∧ r.p.length ≤ 20 := by
  simp only [few, Bool.and_eq_true, decide_eq_true_eq, List.all_eq_true] at h
  refine ⟨h.2, fun r hr => ?_⟩
  have := h.1 r hr
  simpa [fewRaw] using this

theorem filter_le (s : Nat → Bool) (k : Nat) (l : List Nat) (h : l.Nodup) : (l.filter fun j => s j || decide (j = k)).length ≤ (l.filter s).length + 1 := by
  cases hs : s k with
  | false => rw [filter_add s k hs l h]; split <;> omega
  | true =>
    have : (l.filter fun j => s j || decide (j = k)) = l.filter s := List.filter_congr (fun j _ => by
      by_cases e : j = k
      · subst e; simp [hs]
      · simp [e])
    rw [this]; omega
def sumU (rs : List Rule) : Nat → Nat
  | 0 => 0
  | k + 1 => sumU rs k + (unitsL rs k).length
theorem sumU_snoc (rs : List Rule) (r : Rule) (hr : right r = true) : ∀ k, sumU (rs ++ [r]) k ≤ sumU rs k + (if r.lhs < (k : Int) then 1 else 0)
  | 0 => by simp [sumU]
  | k + 1 => by
    have ih := sumU_snoc rs r hr k
    have hl := right_lhs hr
    simp only [sumU]
    by_cases e : r.lhs = (k : Int)
    · rw [if_neg (by omega)] at ih
      rw [if_pos (by omega)]
      have h1 : (unitsL (rs ++ [r]) k).length ≤ (unitsL rs k).length + 1 := by
        by_cases h2 : r.rhs.length ≤ 1
        · have h3 := right_rhs hr
          obtain ⟨y, hy⟩ : ∃ y, r.rhs = [y] := by
            match hq : r.rhs with
            | [] => rw [hq] at h3; simp at h3
            | [y] => exact ⟨y, rfl⟩
            | a :: b :: c => rw [hq] at h2; simp at h2
          have : unitsL (rs ++ [r]) k = symL (fun j => edge 1 rs k j || decide ((j : Int) = y)) := symL_congr (fun j _ => by
            rw [edge_append]
            congr 1
            simp [edge, e, hy])
          rw [this]
          by_cases hy0 : 0 ≤ y
          · obtain ⟨m, rfl⟩ : ∃ m : Nat, y = (m : Int) := ⟨y.toNat, by omega⟩
            unfold unitsL symL
            rw [List.length_map, List.length_map]
            have e4 : (fun j : Nat => edge 1 rs k j || decide ((j : Int) = (m : Int))) = fun j => edge 1 rs k j || decide (j = m) := by
              funext j; congr 1; exact decide_eq_decide.2 (by omega)
            rw [e4]
            exact filter_le _ m _ List.nodup_range
          · have e4 : (fun j : Nat => edge 1 rs k j || decide ((j : Int) = y)) = edge 1 rs k := by
              funext j
              have : ¬ ((j : Int) = y) := by omega
              simp [this]
            rw [e4]; exact Nat.le_succ _
        · have : unitsL (rs ++ [r]) k = unitsL rs k := symL_congr (fun j _ => by
            rw [edge_append]
            simp [edge, h2])
          rw [this]; omega
      omega
    · have : unitsL (rs ++ [r]) k = unitsL rs k := symL_congr (fun j _ => by
        rw [edge_append]
        simp [edge, e])
      rw [this]
      by_cases h5 : r.lhs < (k : Int)
      · rw [if_pos h5] at ih
        rw [if_pos (by omega)]; omega
      · rw [if_neg h5] at ih
        rw [if_neg (by omega)]; omega
theorem sumU_nil : ∀ k, sumU [] k = 0
  | 0 => rfl
  | k + 1 => by
    have : unitsL [] k = [] := by
      have : unitsL [] k = symL (fun _ => false) := symL_congr (fun j _ => by simp [edge])
      rw [this]; rfl
    rw [sumU, sumU_nil k, this]; rfl
theorem sumU_le (k : Nat) : ∀ rs : List Rule, rs.all right = true → sumU rs k ≤ rs.length := by
  have key : ∀ (n : Nat) (rs : List Rule), rs.length = n → rs.all right = true → sumU rs k ≤ rs.length := by
    intro n
    induction n with
    | zero =>
      intro rs hl _
      have : rs = [] := List.eq_nil_of_length_eq_zero hl
      subst this
      rw [sumU_nil]; exact Nat.zero_le _
    | succ n ih =>
      intro rs hl hr
      obtain ⟨qs, r, rfl⟩ : ∃ qs r, rs = qs ++ [r] := by
        rcases List.eq_nil_or_concat rs with h | ⟨qs, r, h⟩
        · subst h; simp at hl
        · exact ⟨qs, r, by simpa using h⟩
      simp only [List.all_append, Bool.and_eq_true, List.all_cons, List.all_nil, and_true] at hr
      have h1 := ih qs (by simpa using hl) hr.1
      have h2 := sumU_snoc qs r hr.2 k
      rw [List.length_append]
      simp only [List.length_cons, List.length_nil]
      split at h2 <;> omega
  intro rs hr
  exact key rs.length rs rfl hr
theorem sorted_at {l : List Int} (h : l.Pairwise (· < ·)) {a b : Nat} {x y : Int} (hab : a < b) (hx : l[a]? = some x) (hy : l[b]? = some y) : x < y := by
  obtain ⟨h1, rfl⟩ := List.getElem?_eq_some_iff.1 hx
  obtain ⟨h2, rfl⟩ := List.getElem?_eq_some_iff.1 hy
  exact List.pairwise_iff_getElem.1 h a b h1 h2 hab
/-- A rule that has just this symbol on its right, of that one on its left. -/
def isUnit (s : Nat) (y : Int) (r : Rule) : Bool := decide (r.lhs = (s : Int)) && (decide (r.rhs.length = 1) && decide (r.rhs.getD 0 0 = y))
theorem unit_any {rs : List Rule} (hr : rs.all right = true) {s : Nat} {y : Int} (h : y ∈ unitsL rs s) : rs.any (isUnit s y) = true := by
  obtain ⟨k, hk, he, rfl⟩ := mem_symL.1 h
  simp only [edge, List.any_eq_true, Bool.and_eq_true, decide_eq_true_eq, List.contains_iff_mem] at he
  obtain ⟨r, hm, ⟨h1, h2⟩, h3⟩ := he
  have h4 := right_rhs (List.all_eq_true.1 hr r hm)
  rw [List.any_eq_true]
  refine ⟨r, hm, ?_⟩
  match hq : r.rhs with
  | [] => rw [hq] at h4; simp at h4
  | [z] =>
    rw [hq] at h3
    simp at h3
    simp [isUnit, h1, hq, h3]
  | a :: b :: c => rw [hq] at h2; simp at h2

set_option maxRecDepth 4000 in
set_option maxHeartbeats 80000000 in
theorem walk (v0 : Value) (l : List Raw) (a1 : Int) (W : World) (hl0 : RawsAt W v0 l) (_ : (Lit.int .i64 a1).wf = true) (hT : Tab W) : Calls Tryd.prog 10 #[v0, .int .i64 a1] W fun e W' => e = .returned (.bool true) ∧ Below W.heap.size W W' := by
  have HK := hid (known_any W hT)
  have HT := hid hT
  have HL0 := hid hl0
  have HW := hid (fun a n w h h' => lwithin_any a n w h h')
  have hsym : 1 ≤ 1 + a1 % 20 ∧ 1 + a1 % 20 ≤ 20 := by omega
  obtain ⟨ad, cap, hv0, hmx, hc⟩ := hl0
  subst hv0
  have HC := hid hc
  unfold maxLen at hmx
  clear hc hT
  cases hf : few l with
  | false =>
    have HF := hid (fun w1 (bel : Below W.heap.size W w1) => few_any l _ w1 (HL0.out.on bel))
    rw [hf] at HF
    clear hf
    go_enter Tryd.func10, Tryd.ntmps10
    go_wp2_with fail
    refine HK.out.mono ?_
    rintro e w1 ⟨rfl, bel⟩
    have HL1 := hid bel
    clear bel HK
    go_wp2_with fail
    refine (HF.out w1 HL1.out).mono ?_
    rintro e w2 ⟨rfl, rfl⟩
    go_wp2
    go_ret
    exact ⟨rfl, HL1.out⟩
  | true =>
    have HFR := hid (few_raw hf)
    have h80 := HFR.out.1
    have HF := hid (fun w1 (bel : Below W.heap.size W w1) => few_any l _ w1 (HL0.out.on bel))
    rw [hf] at HF
    clear hf
    generalize hlen : l.length = n at *
    have HLEN := hid hlen
    clear hlen
    go_enter Tryd.func10, Tryd.ntmps10
    go_wp2_with fail
    refine HK.out.mono ?_
    rintro e w1 ⟨rfl, bel⟩
    have HL1 := hid bel
    clear bel HK
    go_wp2_with fail
    refine (HF.out w1 HL1.out).mono ?_
    rintro e w2 ⟨rfl, hw2⟩
    obtain rfl := hw2.symm
    clear hw2
    go_wp2
    go_loopw [5, 6] (fun v5 v6 wr => ∃ j : Nat, j ≤ n ∧ v6 = .int .i64 j ∧ RulesNew wr W.heap.size v5 (mkRules l (1 + a1 % 20) j) ∧ Below W.heap.size W wr) (fun _ v6 _ => n - (intOf v6).toNat)
    case atStart => exact ⟨0, by omega, rfl, by simpa [mkRules] using RulesNew.nil w1 W.heap.size, HL1.out⟩
    case round =>
      obtain ⟨j, hj, rfl, hR, hb⟩ := hrel
      by_cases hlt : j < n
      · obtain ⟨a, rfl, hraw⟩ := HC.out j hlt
        have HX : Hid (l[j]? = some (l.getD j nilRaw)) := hid (raw_at (by rw [HLEN.out]; exact hlt))
        generalize l.getD j nilRaw = r at *
        obtain ⟨sv, pv, c0, c1, c2, c3, c4, h5, h6, h7⟩ := hraw.on hb
        have HMK := hid (fun w1 (h1 : Row w1 sv r.rhs) (h2 : Row w1 pv r.p) => make_any r sv pv (1 + a1 % 20) hsym h7 w1 h1 h2)
        have H5 := hid h5
        have H6 := hid h6
        obtain ⟨ad1, cap1, e1, _, _⟩ := h5
        obtain ⟨ad2, cap2, e2, _, _⟩ := h6
        subst e1 e2
        have HR := hid hR
        have HB := hid hb
        have hsz := hb.size
        have hlt2 : (j : Int) < (n : Int) := by omega
        have hown := hR.own
        have HOWN := hid hown
        have hj1 : (mkRules l (1 + a1 % 20) j).length = j := mkRules_length (by rw [HLEN.out]; omega)
        have HJ1 := hid hj1
        have q1 : IntKind.i64.wrap (1 + a1 % 20) = 1 + a1 % 20 := by rw [IntKind.wrap_i64]; omega
        obtain ⟨ad5, cap5, hv5⟩ := hR.shape
        rw [hj1] at hv5
        subst hv5
        clear hR hb hraw hown hj1
        go_wp2
        go_region_law (first | (go_simp; go_at_call 17; refine (HW.out _ _ _ (by omega) (by omega)).mono ?_; rintro e w1 ⟨rfl, hw1⟩; obtain rfl := hw1.symm; clear hw1) | (go_simp; go_at_call 15; refine (HMK.out _ (H5.out.on ((Below.refl _ _).drew)) (H6.out.on ((Below.refl _ _).drew))).mono ?_; rintro e wm ⟨sv', pv', rfl, hs', hp', bel⟩; have hbm : Below wr.heap.size wr wm := ((Below.refl wr.heap.size wr).drew).trans bel; have HRM := hid (HR.out.on hbm); have HBM := hid (HB.out.trans (hbm.mono hsz)); have HO1 := hid (off_fresh hs' (fun k e => (HOWN.out k e).2)); have HO2 := hid (off_fresh hp' (fun k e => (HOWN.out k e).2)); have HW1 := hid (hs'.row (rule_small r _).1); have HW2 := hid (hp'.row (rule_small r _).2); have hszm := HBM.out.size; obtain ⟨ads, caps, es⟩ := hs'.shape; obtain ⟨adq, capq, ep⟩ := hp'.shape; subst es ep; unfold ruleV; clear hs' hp' bel hbm) | (refine step_append_rule _ rfl (.tmp 24) (.tmp 33) rfl W.heap.size _ (mkRules l (1 + a1 % 20) j) (by simp [Act.eval]) (HRM.out.on (up_alloc _ _)) (mkRule r (1 + a1 % 20)) _ _ (HW1.out.on (up_alloc _ _)) (HW2.out.on (up_alloc _ _)) HO1.out HO2.out wm.heap.size (by simp [Act.eval]) (box_new _ _ _ _ _ _ _ _ rfl) (by rw [HJ1.out]; omega) (by simp; omega) ?_; intro g cap w3 hR3 hg3 hloc3; have HR3 := hid hR3; have HB3 := hid ((HBM.out.alloc HBM.out.size _).grown hg3 (by simp; omega) (fun k e => (HRM.out.own k e).1)); rw [HJ1.out]; clear hR3 hg3 hloc3))
        all_goals
          go_wp2
          go_roundw
          · exact ⟨j + 1, by omega, by simp, by rw [mkRules_succ HX.out]; have := HR3.out; rw [HJ1.out] at this; exact this, HB3.out⟩
          · simp [intOf]; omega
      · obtain rfl : j = n := by omega
        have hrl : (mkRules l (1 + a1 % 20) j).length = j := mkRules_length (by rw [HLEN.out]; exact Nat.le_refl _)
        have HRR := hid (mkRules_right (l := l) (j := j) hsym)
        generalize mkRules l (1 + a1 % 20) j = rs at *
        have HR := hid (hR.rules (by omega))
        have HB := hid hb
        obtain ⟨ad5, cap5, hv5⟩ := hR.shape
        rw [hrl] at hv5
        subst hv5
        have HRL := hid hrl
        obtain ⟨n, rfl⟩ : ∃ n, n = j := ⟨j, rfl⟩
        clear hR hb hrl
        go_wp2_with fail
        refine (units_any rs _ wr HR.out (HT.out.on HB.out) HRR.out).mono ?_
        rintro e w5 ⟨u, rfl, ⟨gu, us, hue, ho, hall⟩, bel⟩
        subst hue
        have HU := hid ho
        have HALL := hid hall
        have HQ := hid (HR.out.on bel)
        have HL5 := hid (up_trans HB.out bel)
        obtain ⟨adr, capr, er, _, hrc⟩ := HQ.out
        simp only [Value.slice.injEq] at er
        obtain ⟨er1, -, -⟩ := er
        subst er1
        have HRC : Hid (∀ j, j < n → ∃ g o, ad5 = some ⟨g, o, none⟩ ∧ RuleIn w5 g (o + j * 5) (rs.getD j nilRule)) := hid (fun j hj => hrc j (by rw [HRL.out]; exact hj))
        clear bel ho hall hrc
        go_wp2
        go_loopw [8, 9] (fun v8 v9 wr => ∃ s : Nat, s ≤ 20 ∧ v9 = .int .i64 s ∧ v8 = .int .i64 ((sumU rs s : Nat) : Int) ∧ Below w5.heap.size w5 wr) (fun _ v9 _ => 20 - (intOf v9).toNat)
        case atStart => exact ⟨0, by omega, rfl, rfl, Below.refl _ _⟩
        case round =>
          obtain ⟨s, hs20, rfl, rfl, hb3⟩ := hrel
          have HB3 := hid hb3
          have HSL := hid (sumU_le s rs HRR.out)
          by_cases hlt3 : s < 20
          · obtain ⟨uv, hus, hrow⟩ := HALL.out s hlt3
            have xu := UnitsAt.cell HU.out hus
            have hL20 := symL_length (edge 1 rs s)
            obtain ⟨adu, capu, hsh⟩ := hrow.shape
            obtain ⟨L, hL⟩ : ∃ L, (unitsL rs s).length = L := ⟨_, rfl⟩
            rw [hL] at hsh
            have HLL := hid hL
            have hLb : L ≤ 20 := by rw [← hL]; exact hL20
            have HROW := hid hrow
            subst hsh
            have xu3 := (hb3.cell (lt_of_cell xu)).trans xu
            have hlt4 : (s : Int) < 20 := by omega
            have hsum : sumU rs s ≤ n := by have := HSL.out; rw [HRL.out] at this; exact this
            clear hb3 hus hrow hL hL20
            go_wp2
            go_loopw [8, 10] (fun v8 v10 wr => ∃ k : Nat, k ≤ L ∧ v10 = .int .i64 k ∧ v8 = .int .i64 ((sumU rs s : Nat) + (k : Int)) ∧ Below w5.heap.size w5 wr) (fun _ v10 _ => L - (intOf v10).toNat)
            case atStart => exact ⟨0, by omega, rfl, by simp, HB3.out⟩
            case round =>
              obtain ⟨k, hk, rfl, rfl, hb4⟩ := hrel
              have HB4 := hid hb4
              have xu4 := (hb4.cell (lt_of_cell xu)).trans xu
              by_cases hltk : k < L
              · obtain ⟨gr, capg, eg, hgr, hcells⟩ := HROW.out.at (by rw [HLL.out]; omega)
                simp only [Value.slice.injEq] at eg
                obtain ⟨eg1, -, -⟩ := eg
                subst eg1
                have xk := (hcells k (by rw [HLL.out]; exact hltk)).1
                have HY : Hid ((unitsL rs s)[k]? = some ((unitsL rs s).getD k 0)) := hid (getD_at (by rw [HLL.out]; exact hltk))
                have hltk2 : (k : Int) < (L : Int) := by omega
                by_cases k0 : k = 0
                · have hk0 : decide ((0 : Int) < (k : Int)) = false := decide_eq_false (by omega)
                  have hk0n : decide (0 < k) = false := decide_eq_false (by omega)
                  generalize (unitsL rs s).getD k 0 = y at *
                  have xk4 := (hb4.cell (lt_of_cell xk)).trans xk
                  clear hb4 hcells k0
                  go_wp2
                  go_quiet (fail)
                  go_wp2
                  go_loopw [11, 12] (fun v11 v12 wr => ∃ (i : Nat) (b : Bool), i ≤ n ∧ v12 = .int .i64 i ∧ v11 = .bool b ∧ Hid (b = (rs.take i).any (isUnit s y)) ∧ Below w5.heap.size w5 wr) (fun _ v12 _ => n - (intOf v12).toNat)
                  case atStart => exact ⟨0, false, by omega, rfl, rfl, hid (by simp), HB4.out.trans (below_drewN (Below.refl _ _) _)⟩
                  case round =>
                    obtain ⟨i, b, hi4, rfl, rfl, hany, hb5⟩ := hrel
                    have HB5 := hid hb5
                    by_cases hlt5 : i < n
                    · obtain ⟨gq, oq, hadq, hrule⟩ := HRC.out i hlt5
                      subst hadq
                      have HX : Hid (rs[i]? = some (rs.getD i nilRule)) := hid (rule_at (by rw [HRL.out]; exact hlt5))
                      generalize rs.getD i nilRule = q at *
                      obtain ⟨sq, pq, c0, c1, c2, c3, c4, hq5, _⟩ := hrule.on hb5
                      obtain ⟨adq, capq, rfl, hmq, hcq⟩ := hq5
                      have xu5 := (hb5.cell (lt_of_cell xu)).trans xu
                      have xk5 := (hb5.cell (lt_of_cell xk)).trans xk
                      have hlt6 : (i : Int) < (n : Int) := by omega
                      unfold maxLen at hmq
                      clear hb5 hrule
                      cases b with
                      | true =>
                        clear c0 c1 c2 c3 c4 hmq hcq xu5 xk5
                        go_wp2
                        go_quiet (fail)
                        go_wp2
                        go_roundw
                        case rel => exact ⟨i + 1, true, by omega, by simp, rfl, hid (by rw [List.take_add_one, HX.out, List.any_append, ← hany.out]; simp [isUnit]), HB5.out.trans (below_drewN (Below.refl _ _) _)⟩
                        case measure => simp [intOf]; omega
                      | false =>
                        by_cases g1 : q.lhs = (s : Int)
                        · have b1 : (q.lhs == (s : Int)) = true := by simp [g1]
                          by_cases g2 : q.rhs.length = 1
                          · obtain ⟨aq, rfl, hcq0⟩ := hcq 0 (by omega)
                            have b2 : ((q.rhs.length : Int) == 1) = true := by simp [g2]
                            have hcq1 : wr.cell? aq = some (.int .i64 (q.rhs.getD 0 0)) := by rw [add_zero] at hcq0; exact hcq0
                            generalize hz : q.rhs.getD 0 0 = z at *
                            have HZ := hid hz
                            clear hz
                            have g2l : (0 : Int) < (q.rhs.length : Int) := by omega
                            by_cases g3 : z = y
                            · have b3 : (z == y) = true := by simp [g3]
                              have HIU : Hid (isUnit s y q = true) := hid (by unfold isUnit; rw [decide_eq_true g1, decide_eq_true g2, decide_eq_true (HZ.out.trans g3)]; rfl)
                              clear c2 c3 c4 hmq hcq hcq0 g1 g2 g3
                              go_wp2
                              go_quiet (fail)
                              go_wp2
                              go_roundw
                              case rel => exact ⟨i + 1, true, by omega, by simp, rfl, hid (by rw [List.take_add_one, HX.out, List.any_append, ← hany.out]; simp [HIU.out]), HB5.out.trans (below_drewN (Below.refl _ _) _)⟩
                              case measure => simp [intOf]; omega
                            · have b3 : (z == y) = false := by simp [g3]
                              have HIU : Hid (isUnit s y q = false) := hid (by unfold isUnit; rw [decide_eq_true g1, decide_eq_true g2, decide_eq_false (fun h => g3 (HZ.out.symm.trans h))]; rfl)
                              clear c2 c3 c4 hmq hcq hcq0 g1 g2 g3
                              go_wp2
                              go_quiet (fail)
                              go_wp2
                              go_roundw
                              case rel => exact ⟨i + 1, false, by omega, by simp, rfl, hid (by rw [List.take_add_one, HX.out, List.any_append, ← hany.out]; simp [HIU.out]), HB5.out.trans (below_drewN (Below.refl _ _) _)⟩
                              case measure => simp [intOf]; omega
                          · have b2 : ((q.rhs.length : Int) == 1) = false := by simp; omega
                            have HIU : Hid (isUnit s y q = false) := hid (by unfold isUnit; rw [decide_eq_true g1, decide_eq_false g2]; rfl)
                            clear c2 c3 c4 hmq hcq g1 g2 xu5 xk5
                            go_wp2
                            go_quiet (fail)
                            go_wp2
                            go_roundw
                            case rel => exact ⟨i + 1, false, by omega, by simp, rfl, hid (by rw [List.take_add_one, HX.out, List.any_append, ← hany.out]; simp [HIU.out]), HB5.out.trans (below_drewN (Below.refl _ _) _)⟩
                            case measure => simp [intOf]; omega
                        · have b1 : (q.lhs == (s : Int)) = false := by simp [g1]
                          have HIU : Hid (isUnit s y q = false) := hid (by unfold isUnit; rw [decide_eq_false g1]; rfl)
                          clear c1 c2 c3 c4 hmq hcq g1 xu5 xk5
                          go_wp2
                          go_quiet (fail)
                          go_wp2
                          go_roundw
                          case rel => exact ⟨i + 1, false, by omega, by simp, rfl, hid (by rw [List.take_add_one, HX.out, List.any_append, ← hany.out]; simp [HIU.out]), HB5.out.trans (below_drewN (Below.refl _ _) _)⟩
                          case measure => simp [intOf]; omega
                    · obtain rfl : i = n := by omega
                      have hbt : b = true := by
                        rw [hany.out, ← HRL.out, List.take_length]
                        exact unit_any HRR.out (List.mem_of_getElem? HY.out)
                      subst hbt
                      clear hb5
                      go_wp2
                      go_roundw
                      case rel => exact ⟨k + 1, by omega, by simp, by simp; omega, HB5.out⟩
                      case measure => simp [intOf]; omega
                · have xk1 := (hcells (k - 1) (by rw [HLL.out]; omega)).1
                  have HY1 : Hid ((unitsL rs s)[k - 1]? = some ((unitsL rs s).getD (k - 1) 0)) := hid (getD_at (by rw [HLL.out]; omega))
                  have hord := sorted_at (symL_sorted (edge 1 rs s)) (show k - 1 < k by omega) HY1.out HY.out
                  generalize (unitsL rs s).getD (k - 1) 0 = y1 at *
                  generalize (unitsL rs s).getD k 0 = y at *
                  have xk4 := (hb4.cell (lt_of_cell xk)).trans xk
                  have xk14 := (hb4.cell (lt_of_cell xk1)).trans xk1
                  have hk0 : (0 : Int) < (k : Int) := by omega
                  have hk0n : 0 < k := by omega
                  have hk1 : IntKind.i64.wrap ((k : Int) - 1) = (k : Int) - 1 := by rw [IntKind.wrap_i64]; omega
                  have hk2 : ((k : Int) - 1).toNat = k - 1 := by omega
                  have hk3 : (0 : Int) ≤ (k : Int) - 1 := by omega
                  have hk4 : (k : Int) - 1 < (L : Int) := by omega
                  have hcmp : ¬ (y ≤ y1) := by omega
                  clear hb4 hcells
                  go_wp2
                  go_quiet (fail)
                  go_wp2
                  go_loopw [11, 12] (fun v11 v12 wr => ∃ (i : Nat) (b : Bool), i ≤ n ∧ v12 = .int .i64 i ∧ v11 = .bool b ∧ Hid (b = (rs.take i).any (isUnit s y)) ∧ Below w5.heap.size w5 wr) (fun _ v12 _ => n - (intOf v12).toNat)
                  case atStart => exact ⟨0, false, by omega, rfl, rfl, hid (by simp), HB4.out.trans (below_drewN (Below.refl _ _) _)⟩
                  case round =>
                    obtain ⟨i, b, hi4, rfl, rfl, hany, hb5⟩ := hrel
                    have HB5 := hid hb5
                    by_cases hlt5 : i < n
                    · obtain ⟨gq, oq, hadq, hrule⟩ := HRC.out i hlt5
                      subst hadq
                      have HX : Hid (rs[i]? = some (rs.getD i nilRule)) := hid (rule_at (by rw [HRL.out]; exact hlt5))
                      generalize rs.getD i nilRule = q at *
                      obtain ⟨sq, pq, c0, c1, c2, c3, c4, hq5, _⟩ := hrule.on hb5
                      obtain ⟨adq, capq, rfl, hmq, hcq⟩ := hq5
                      have xu5 := (hb5.cell (lt_of_cell xu)).trans xu
                      have xk5 := (hb5.cell (lt_of_cell xk)).trans xk
                      have hlt6 : (i : Int) < (n : Int) := by omega
                      unfold maxLen at hmq
                      clear hb5 hrule
                      cases b with
                      | true =>
                        clear c0 c1 c2 c3 c4 hmq hcq xu5 xk5
                        go_wp2
                        go_quiet (fail)
                        go_wp2
                        go_roundw
                        case rel => exact ⟨i + 1, true, by omega, by simp, rfl, hid (by rw [List.take_add_one, HX.out, List.any_append, ← hany.out]; simp [isUnit]), HB5.out.trans (below_drewN (Below.refl _ _) _)⟩
                        case measure => simp [intOf]; omega
                      | false =>
                        by_cases g1 : q.lhs = (s : Int)
                        · have b1 : (q.lhs == (s : Int)) = true := by simp [g1]
                          by_cases g2 : q.rhs.length = 1
                          · obtain ⟨aq, rfl, hcq0⟩ := hcq 0 (by omega)
                            have b2 : ((q.rhs.length : Int) == 1) = true := by simp [g2]
                            have hcq1 : wr.cell? aq = some (.int .i64 (q.rhs.getD 0 0)) := by rw [add_zero] at hcq0; exact hcq0
                            generalize hz : q.rhs.getD 0 0 = z at *
                            have HZ := hid hz
                            clear hz
                            have g2l : (0 : Int) < (q.rhs.length : Int) := by omega
                            by_cases g3 : z = y
                            · have b3 : (z == y) = true := by simp [g3]
                              have HIU : Hid (isUnit s y q = true) := hid (by unfold isUnit; rw [decide_eq_true g1, decide_eq_true g2, decide_eq_true (HZ.out.trans g3)]; rfl)
                              clear c2 c3 c4 hmq hcq hcq0 g1 g2 g3
                              go_wp2
                              go_quiet (fail)
                              go_wp2
                              go_roundw
                              case rel => exact ⟨i + 1, true, by omega, by simp, rfl, hid (by rw [List.take_add_one, HX.out, List.any_append, ← hany.out]; simp [HIU.out]), HB5.out.trans (below_drewN (Below.refl _ _) _)⟩
                              case measure => simp [intOf]; omega
                            · have b3 : (z == y) = false := by simp [g3]
                              have HIU : Hid (isUnit s y q = false) := hid (by unfold isUnit; rw [decide_eq_true g1, decide_eq_true g2, decide_eq_false (fun h => g3 (HZ.out.symm.trans h))]; rfl)
                              clear c2 c3 c4 hmq hcq hcq0 g1 g2 g3
                              go_wp2
                              go_quiet (fail)
                              go_wp2
                              go_roundw
                              case rel => exact ⟨i + 1, false, by omega, by simp, rfl, hid (by rw [List.take_add_one, HX.out, List.any_append, ← hany.out]; simp [HIU.out]), HB5.out.trans (below_drewN (Below.refl _ _) _)⟩
                              case measure => simp [intOf]; omega
                          · have b2 : ((q.rhs.length : Int) == 1) = false := by simp; omega
                            have HIU : Hid (isUnit s y q = false) := hid (by unfold isUnit; rw [decide_eq_true g1, decide_eq_false g2]; rfl)
                            clear c2 c3 c4 hmq hcq g1 g2 xu5 xk5
                            go_wp2
                            go_quiet (fail)
                            go_wp2
                            go_roundw
                            case rel => exact ⟨i + 1, false, by omega, by simp, rfl, hid (by rw [List.take_add_one, HX.out, List.any_append, ← hany.out]; simp [HIU.out]), HB5.out.trans (below_drewN (Below.refl _ _) _)⟩
                            case measure => simp [intOf]; omega
                        · have b1 : (q.lhs == (s : Int)) = false := by simp [g1]
                          have HIU : Hid (isUnit s y q = false) := hid (by unfold isUnit; rw [decide_eq_false g1]; rfl)
                          clear c1 c2 c3 c4 hmq hcq g1 xu5 xk5
                          go_wp2
                          go_quiet (fail)
                          go_wp2
                          go_roundw
                          case rel => exact ⟨i + 1, false, by omega, by simp, rfl, hid (by rw [List.take_add_one, HX.out, List.any_append, ← hany.out]; simp [HIU.out]), HB5.out.trans (below_drewN (Below.refl _ _) _)⟩
                          case measure => simp [intOf]; omega
                    · obtain rfl : i = n := by omega
                      have hbt : b = true := by
                        rw [hany.out, ← HRL.out, List.take_length]
                        exact unit_any HRR.out (List.mem_of_getElem? HY.out)
                      subst hbt
                      clear hb5
                      go_wp2
                      go_roundw
                      case rel => exact ⟨k + 1, by omega, by simp, by simp; omega, HB5.out⟩
                      case measure => simp [intOf]; omega
              · obtain rfl : k = L := by omega
                clear hb4
                go_wp2
                go_roundw
                case rel => exact ⟨s + 1, by omega, by simp, by simp [sumU, HLL.out], HB4.out⟩
                case measure => simp [intOf]; omega
          · obtain rfl : s = 20 := by omega
            have hsum : ((sumU rs 20 : Nat) : Int) ≤ (n : Int) := by have := HSL.out; rw [HRL.out] at this; omega
            have HL6 := hid (up_trans HL5.out hb3)
            clear hb3
            go_wp2
            go_ret
            exact ⟨rfl, HL6.out⟩

theorem own : ownKnob Tryd.prog.godebug = none := by kernel_rfl

theorem table {W : World} (h : laidMetH Tryd.prog Rows.gramUnitsRow.laid W) : Tab W := by
  rw [MakeChecks.laidMetH_plain _ _ _ (by kernel_rfl)] at h
  exact tab_of_laid h

set_option maxRecDepth 100000 in
theorem lifted (os : Os) (started : os.Started) (H : Type) (enc : TypeId × Value → H) :
    ReturnsInHanded {} Tryd.checked os 10 .any (fun w args => (Rows.gramUnitsSpec.pre enc Tryd.prog Tryd.f10 Rows.gramUnitsRow.domain false w args ∧ laidMetH Tryd.prog Rows.gramUnitsRow.laid w) ∧ sizedMet enc Tryd.prog Tryd.f10 (OpenSpec.ofChange Rows.gramUnitsSpec) false w args)
      (Rows.gramUnitsSpec.post enc Tryd.prog Tryd.f10 false true false false) := by
  refine returnsInHanded_of_change_and (C := Tryd.checked) (X := fun w _ => laidMetH Tryd.prog Rows.gramUnitsRow.laid w) (fun _ _ _ hh h => h.of_heap hh) own started (by kernel_rfl) Tryd.func10
    (ChangeSpec.witness_shaped (enc := enc) (C := Tryd.checked) (os := os) (X := fun w _ => laidMetH Tryd.prog Rows.gramUnitsRow.laid w) false (World.laidAll Tryd.prog os Rows.gramUnitsRow.laid) #[.slice none 0 0, .int .i64 0] 8 (World.laidAll_os _ _ _)
      (World.shaped_of_ZipB (by kernel_rfl) (by kernel_rfl)) (by kernel_rfl) (by kernel_rfl) (by kernel_rfl)
      (by rw [MakeChecks.laidMetH_plain _ _ _ (by kernel_rfl)]; exact laidMet_laidAll _ (by kernel_rfl) (by kernel_rfl))) ?_
  intro W base args ds gs before hval0 hW _ _ hL _
  have hval : ∀ (j : Nat) t v, Tryd.f10.params[j]? = some t → args[j]? = some v → Value.okWide Tryd.prog W .any base t v := hval0
  have hW' := hW
  obtain ⟨p, q, hA0, hV, rfl, hfz, hnd⟩ := hW
  have hA : DataW.TrodAll enc Tryd.prog W 0 (fun _ => true) true Tryd.f10.params.toList args.toList ds p := hA0
  rw [Tryd.params10] at hA hval
  obtain ⟨v0, vs0, d0, ds0, p0, q0, hargs, rfl, rfl, h0, r0⟩ := trodAll_cons hA
  obtain ⟨v1, vs1, d1, ds1, p1, q1, rfl, rfl, rfl, h1, r1⟩ := trodAll_cons r0
  obtain ⟨rfl, rfl, rfl⟩ := trodAll_nil r1
  obtain rfl : args = #[v0, v1] := by cases args; simp_all
  obtain ⟨rfl, rfl⟩ := trodVars_none hV
  obtain ⟨x0, w0⟩ := raws_of (hval 0 27 v0 rfl rfl) h0
  have l0 : ∀ x ∈ p0, x.block < W.heap.size := fun x hx => hW'.lt x (by simp [hx])
  obtain ⟨a1, rfl, rfl, rfl, w1⟩ := open_int Tryd.underlying3 (hval 1 3 v1 rfl rfl) h1
  clear hA0 hval0
  refine (walk v0 x0 a1 W w0 w1 (table hL)).mono fun e W' ⟨he, bel⟩ => ?_
  subst he
  exact ⟨_, rfl, _, _, _, _, _, [], hW', trodAll_mk1 (shut_bool Tryd.underlying4 _), (trodAll_cons_mk (Below.trod (by kernel_rfl) (by kernel_rfl) (of_decide_eq_true (by kernel_rfl)) h0 bel l0) (trodAll_cons_mk (shut_int Tryd.underlying3 w1) trodAll_mk0)), rfl, bel.frame _, fun h => by cases h⟩

theorem row_holds : Rows.GramUnitsSaid :=
  OpenClaim.holds_of_wide 10 Tryd.f10 rfl rfl rfl rfl rfl rfl rfl ⟨rfl, rfl, rfl, rfl, rfl⟩ rfl rfl rfl rfl rfl (by kernel_rfl) Tryd.func10 (by kernel_rfl)
    (of_decide_eq_true (by kernel_rfl)) (by unfold Func.isWrapper; first | (rw [if_pos (by decide +kernel)]; kernel_rfl) | (rw [if_neg (by decide +kernel)]; exact ⟨rfl, rfl⟩))
    (fun os started H enc _ => lifted os started H enc)

theorem gramUnits_holds : Rows.GramUnitsCardSaid :=
  Claim7.holds_tied_plain_at .later [] _ _ _ _ row_holds (fun _ h => by cases h) (by kernel_rfl) (fun _ h => by cases h) gramUnits_row_tie rfl ⟨rfl, rfl⟩ (by kernel_rfl) rfl
    (fun f fn hf hfn => by
      obtain rfl : f = 10 := Option.some.inj ((show Tryd.prog.funcNamed "interlocutor/interlocutorlaw4.GramUnits" = some 10 by kernel_rfl).symm.trans hf) |>.symm
      obtain rfl : fn = Tryd.f10 := (Option.some.inj (Tryd.func10.symm.trans hfn)).symm
      exact ⟨by kernel_rfl, fun j t ht => by
        rw [Tryd.params10] at ht
        have hm : t ∈ [27, 3] := by simpa using Array.mem_of_getElem? ht
        have hall : ([27, 3].all fun u => !Tryd.prog.wantsStandIn u) = true := by kernel_rfl
        exact (show Tryd.prog.wantsStandIn t = false by simpa using List.all_eq_true.1 hall t hm)⟩)
    (by kernel_rfl)

end Go.Proofs.YtgpkgkmjppphgaaDoor
