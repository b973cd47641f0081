/- ActSums answers true of any three arguments: two durations make the one that is as long as both, or none beyond 2^53 - 1. The table of how many numbers a kind has, and what an action stops with, are as listed. -/
import Derived.Test.YtdecphhmiioihaaDoorCards
import Derived.Test.YtdecphhmiioihaaDoorTie
import Derived.Test.YtdecphhmiioihaaDoorTab
import Derived.ProofKit
import Derived.OpenShut
import Derived.Lay
import Derived.SevenTiedAt
import Derived.Stop.Joined
import Derived.Lib.LaidTab
namespace Go.Proofs.YtdecphhmiioihaaDoor
open Go.ChangeShapes Go.WideShapes Go.ChangeAt Go.RowKit

theorem right_dur (x : Int) (h0 : 0 ≤ x) (h1 : x ≤ 9007199254740991) : rightB ⟨9, [x]⟩ = true := by
  show (wholeB ⟨9, [x]⟩ && inB x 0 9007199254740991) = true
  rw [inB_true h0 h1, Bool.and_true]; rfl
theorem take_dur (x : Int) (h0 : 0 ≤ x) (h1 : x ≤ 9007199254740991) : takC 9 ⟨9, [x]⟩ = some [x] := by
  unfold takC takeB
  rw [right_dur x h0 h1]
  rfl
theorem sum_made (r : Mom) (x y : Int) (h0 : 0 ≤ x) (h1 : x ≤ 9007199254740991) (h2 : 0 ≤ y) (h3 : y ≤ 9007199254740991) :
    doO 14 (madeO 14 r [⟨9, [x]⟩, ⟨9, [y]⟩]) = if x + y ≤ 9007199254740991 then some ⟨9, [x + y]⟩ else none := by
  show doO 14 (sumO ⟨9, [x]⟩ ⟨9, [y]⟩) = _
  unfold sumO
  rw [take_dur x h0 h1, take_dur y h2 h3]
  show (if (14 : Nat) = 0 ∨ rightB ⟨9, [x + y]⟩ = true then some (⟨9, [x + y]⟩ : Val) else none) = _
  by_cases h : x + y ≤ 9007199254740991
  · rw [if_pos h, if_pos (.inr (right_dur _ (by omega) h))]
  · rw [if_neg h, if_neg]
    have : rightB ⟨9, [x + y]⟩ = false := by
      show (wholeB ⟨9, [x + y]⟩ && inB (x + y) 0 9007199254740991) = false
      rw [inB_false (by omega), Bool.and_false]
    rw [this]
    simp

set_option maxRecDepth 8000 in
set_option maxHeartbeats 2000000 in
theorem walk (a b : Int) (far : Bool) (W : World) (w0 : (Lit.int .i64 a).wf = true) (w1 : (Lit.int .i64 b).wf = true) (hX : TabsE W) : Calls Tryd.prog 12 #[.int .i64 a, .int .i64 b, .bool far] W fun e W' => e = .returned (.bool true) ∧ Below W.heap.size W W' := by
  obtain ⟨p, hT⟩ := hX
  obtain ⟨ba, ba'⟩ := wf_bd w0
  obtain ⟨bb, bb'⟩ := wf_bd w1
  have HK := hid (known_any p W hT)
  have HT := hid hT
  have H1 := hid fun w => lwithin_any a 9007199254740992 w (by decide) (by decide) ba ba'
  have H2 := hid fun w => lwithin_any b 9007199254740992 w (by decide) (by decide) bb bb'
  have H3 := hid fun w => lwithin_any b 3 w (by decide) (by decide) bb bb'
  have hx : 0 ≤ a % 9007199254740992 ∧ a % 9007199254740992 ≤ 9007199254740991 := by omega
  have hy : 0 ≤ b % 9007199254740992 ∧ b % 9007199254740992 ≤ 9007199254740991 := by omega
  have hz : 0 ≤ b % 3 ∧ b % 3 ≤ 2 := by omega
  have HR := hid fun w => ref_any a w ba ba'
  generalize a % 9007199254740992 = x at *
  generalize b % 9007199254740992 = y0 at *
  generalize b % 3 = z at *
  clear hT w0 w1 ba ba' bb bb'
  obtain ⟨hx0, hx1⟩ := hx
  obtain ⟨hy0, hy1⟩ := hy
  obtain ⟨hz0, hz1⟩ := hz
  cases far with
  | false =>
    go_enter Tryd.func12, Tryd.ntmps12
    go_wp2_with fail
    refine HK.out.mono ?_
    rintro e w1 ⟨rfl, hb1⟩
    have HB1 := hid hb1
    clear hb1 HK
    go_wp2_with fail
    refine (H1.out _).mono ?_
    rintro e wn ⟨rfl, hw⟩
    obtain rfl := hw.symm
    clear hw
    go_wp2_with fail
    refine (H2.out _).mono ?_
    rintro e wn ⟨rfl, hw⟩
    obtain rfl := hw.symm
    clear hw
    clear H1 H2 H3 hz0 hz1
    by_cases hbig : 9007199254740992 ≤ y0
    case pos =>
      go_wp2
      go_ret
      exact ⟨rfl, HB1.out⟩
    case neg =>
      have hm := sum_made (refM a) x y0 (by omega) (by omega) (by omega) (by omega)
      obtain ⟨w2, hw2⟩ : ∃ w2, w2 = (((w1.alloc (.cells #[.int .i64 (0), .int .i64 (1)] 3)).alloc (.cells #[.int .i64 (x)] 3)).alloc (.cells #[.int .i64 (y0)] 3)).alloc (.cells #[.int .i64 9, .slice (some ⟨w1.heap.size + 1, 0, none⟩) 1 1, .int .i64 9, .slice (some ⟨w1.heap.size + 1 + 1, 0, none⟩) 1 1] 24) := ⟨_, rfl⟩
      obtain ⟨hc, hb, hsw2⟩ := chain_heap w1 [.cells #[.int .i64 (0), .int .i64 (1)] 3, .cells #[.int .i64 (x)] 3, .cells #[.int .i64 (y0)] 3, .cells #[.int .i64 9, .slice (some ⟨w1.heap.size + 1, 0, none⟩) 1 1, .int .i64 9, .slice (some ⟨w1.heap.size + 1 + 1, 0, none⟩) 1 1] 24]
      simp only [List.foldl_cons, List.foldl_nil] at hc hb hsw2
      rw [← hw2] at hc hb hsw2
      simp only [List.length_cons, List.length_nil, Nat.zero_add, Nat.reduceAdd] at hsw2
      have hw2_0 := hid (hc 0 _ rfl)
      have hw2_1 := hid (hc 1 _ rfl)
      have hw2_2 := hid (hc 2 _ rfl)
      have hw2_3 := hid (hc 3 _ rfl)
      have HBw2 := hid hb
      clear hc hb
      have HP := hid (IA.at [0, 1] hw2_0.out (by simp))
      have HL := hid (LA.two hw2_3.out (IA.at [x] hw2_1.out (by simp)) (IA.at [y0] hw2_2.out (by simp)))
      clear hw2_0 hw2_1 hw2_2 hw2_3
      go_wp2_with fail
      rw [← hw2]
      refine (HR.out _).mono ?_
      rintro e w3 ⟨rfl, hb3⟩
      have HB3 := hid (up_trans HB1.out (up_trans HBw2.out hb3))
      have HD := hid (made_any (p := p) 14 (refM a) _ _ _ _ w3 (by decide) (HP.out.on hb3) (HL.out.on hb3) (HT.out.on HB3.out) (by intro q hq; simp at hq; rcases hq with rfl | rfl <;> simp) trivial (refM_right a))
      rw [show doO 14 (madeO 14 (refM a) (List.map (fun (q : Int) => [(⟨9, [x]⟩ : Val), ⟨9, [y0]⟩].getD q.toNat nilVal) [0, 1])) = _ from hm] at HD
      clear hb3 hw2 HP HL hm
      go_wp2_with fail
      refine HD.out.mono ?_
      rintro e w4 ⟨hb4, hr⟩
      by_cases hs : x + y0 ≤ 9007199254740991
      case neg =>
        rw [if_neg hs] at hr
        obtain rfl : e = .returned noneV := hr
        unfold noneV
        have HB4 := hid (up_trans HB3.out hb4)
        have HB5 := hid (up_trans HB4.out (up_alloc _ (.cells #[.int .i64 0, .slice none 0 0] 24)))
        clear hb4 HD
        go_wp2
        go_ret
        exact ⟨rfl, HB5.out⟩
      case pos =>
        rw [if_pos hs] at hr
        obtain ⟨v, rfl, hv⟩ := hr
        have HB4 := hid (up_trans HB3.out hb4)
        obtain ⟨fv, rfl, hf⟩ := hv
        have HF := hid hf.ia
        obtain ⟨bb, oo, cap, rfl, hc1, hc2, hlt⟩ := hf.ia.has1
        dsimp only at *
        obtain ⟨w5, hw5⟩ : ∃ w5, w5 = (w4.alloc (.cells #[.int .i64 9, .slice (some ⟨bb, oo, none⟩) 1 cap] 24)).alloc (.cells #[.int .i64 (x + y0)] 3) := ⟨_, rfl⟩
        obtain ⟨hc, hb, hsw5⟩ := chain_heap w4 [.cells #[.int .i64 9, .slice (some ⟨bb, oo, none⟩) 1 cap] 24, .cells #[.int .i64 (x + y0)] 3]
        simp only [List.foldl_cons, List.foldl_nil] at hc hb hsw5
        rw [← hw5] at hc hb hsw5
        simp only [List.length_cons, List.length_nil, Nat.zero_add, Nat.reduceAdd] at hsw5
        have hw5_0 := hid (hc 0 _ rfl)
        have hw5_1 := hid (hc 1 _ rfl)
        have HBw5 := hid hb
        clear hc hb
        have HC := hid (rcmp_any ⟨9, [x + y0]⟩ ⟨9, [x + y0]⟩ _ _ w5 ⟨_, rfl, HF.out.on HBw5.out⟩ ⟨_, rfl, IA.at [x + y0] hw5_1.out (by simp)⟩)
        rw [cmpV_self] at HC
        have HB5 := hid (up_trans HB4.out HBw5.out)
        clear hb4 HD hf hw5_0 hw5_1
        go_wp2_with fail
        rw [← hw5]
        refine HC.out.mono ?_
        rintro e w6 ⟨rfl, hb6⟩
        have HB6 := hid (up_trans HB5.out hb6)
        clear hb6 hw5
        go_wp2
        go_ret
        exact ⟨rfl, HB6.out⟩
  | true =>
    obtain ⟨y, hy⟩ : ∃ y, y = 9007199254740991 - x + z := ⟨_, rfl⟩
    have hy2 : 0 ≤ y ∧ y ≤ 9007199254740993 := by omega
    obtain ⟨hy3, hy4⟩ := hy2
    go_enter Tryd.func12, Tryd.ntmps12
    go_wp2_with fail
    refine HK.out.mono ?_
    rintro e w1 ⟨rfl, hb1⟩
    have HB1 := hid hb1
    clear hb1 HK
    go_wp2_with fail
    refine (H1.out _).mono ?_
    rintro e wn ⟨rfl, hw⟩
    obtain rfl := hw.symm
    clear hw
    go_wp2_with fail
    refine (H2.out _).mono ?_
    rintro e wn ⟨rfl, hw⟩
    obtain rfl := hw.symm
    clear hw
    go_wp2_with fail
    refine (H3.out _).mono ?_
    rintro e wn ⟨rfl, hw⟩
    obtain rfl := hw.symm
    clear hw
    clear H1 H2 H3
    by_cases hbig : 9007199254740992 ≤ (9007199254740991 - x + z)
    case pos =>
      go_wp2
      go_ret
      exact ⟨rfl, HB1.out⟩
    case neg =>
      have hm := sum_made (refM a) x (9007199254740991 - x + z) (by omega) (by omega) (by omega) (by omega)
      obtain ⟨w2, hw2⟩ : ∃ w2, w2 = (((w1.alloc (.cells #[.int .i64 (0), .int .i64 (1)] 3)).alloc (.cells #[.int .i64 (x)] 3)).alloc (.cells #[.int .i64 ((9007199254740991 - x + z))] 3)).alloc (.cells #[.int .i64 9, .slice (some ⟨w1.heap.size + 1, 0, none⟩) 1 1, .int .i64 9, .slice (some ⟨w1.heap.size + 1 + 1, 0, none⟩) 1 1] 24) := ⟨_, rfl⟩
      obtain ⟨hc, hb, hsw2⟩ := chain_heap w1 [.cells #[.int .i64 (0), .int .i64 (1)] 3, .cells #[.int .i64 (x)] 3, .cells #[.int .i64 ((9007199254740991 - x + z))] 3, .cells #[.int .i64 9, .slice (some ⟨w1.heap.size + 1, 0, none⟩) 1 1, .int .i64 9, .slice (some ⟨w1.heap.size + 1 + 1, 0, none⟩) 1 1] 24]
      simp only [List.foldl_cons, List.foldl_nil] at hc hb hsw2
      rw [← hw2] at hc hb hsw2
      simp only [List.length_cons, List.length_nil, Nat.zero_add, Nat.reduceAdd] at hsw2
      have hw2_0 := hid (hc 0 _ rfl)
      have hw2_1 := hid (hc 1 _ rfl)
      have hw2_2 := hid (hc 2 _ rfl)
      have hw2_3 := hid (hc 3 _ rfl)
      have HBw2 := hid hb
      clear hc hb
      have HP := hid (IA.at [0, 1] hw2_0.out (by simp))
      have HL := hid (LA.two hw2_3.out (IA.at [x] hw2_1.out (by simp)) (IA.at [(9007199254740991 - x + z)] hw2_2.out (by simp)))
      clear hw2_0 hw2_1 hw2_2 hw2_3
      go_wp2_with fail
      rw [← hw2]
      refine (HR.out _).mono ?_
      rintro e w3 ⟨rfl, hb3⟩
      have HB3 := hid (up_trans HB1.out (up_trans HBw2.out hb3))
      have HD := hid (made_any (p := p) 14 (refM a) _ _ _ _ w3 (by decide) (HP.out.on hb3) (HL.out.on hb3) (HT.out.on HB3.out) (by intro q hq; simp at hq; rcases hq with rfl | rfl <;> simp) trivial (refM_right a))
      rw [show doO 14 (madeO 14 (refM a) (List.map (fun (q : Int) => [(⟨9, [x]⟩ : Val), ⟨9, [(9007199254740991 - x + z)]⟩].getD q.toNat nilVal) [0, 1])) = _ from hm] at HD
      clear hb3 hw2 HP HL hm
      go_wp2_with fail
      refine HD.out.mono ?_
      rintro e w4 ⟨hb4, hr⟩
      by_cases hs : x + (9007199254740991 - x + z) ≤ 9007199254740991
      case neg =>
        rw [if_neg hs] at hr
        obtain rfl : e = .returned noneV := hr
        unfold noneV
        have HB4 := hid (up_trans HB3.out hb4)
        have HB5 := hid (up_trans HB4.out (up_alloc _ (.cells #[.int .i64 0, .slice none 0 0] 24)))
        clear hb4 HD
        go_wp2
        go_ret
        exact ⟨rfl, HB5.out⟩
      case pos =>
        rw [if_pos hs] at hr
        obtain ⟨v, rfl, hv⟩ := hr
        have HB4 := hid (up_trans HB3.out hb4)
        obtain ⟨fv, rfl, hf⟩ := hv
        have HF := hid hf.ia
        obtain ⟨bb, oo, cap, rfl, hc1, hc2, hlt⟩ := hf.ia.has1
        dsimp only at *
        obtain ⟨w5, hw5⟩ : ∃ w5, w5 = (w4.alloc (.cells #[.int .i64 9, .slice (some ⟨bb, oo, none⟩) 1 cap] 24)).alloc (.cells #[.int .i64 (x + (9007199254740991 - x + z))] 3) := ⟨_, rfl⟩
        obtain ⟨hc, hb, hsw5⟩ := chain_heap w4 [.cells #[.int .i64 9, .slice (some ⟨bb, oo, none⟩) 1 cap] 24, .cells #[.int .i64 (x + (9007199254740991 - x + z))] 3]
        simp only [List.foldl_cons, List.foldl_nil] at hc hb hsw5
        rw [← hw5] at hc hb hsw5
        simp only [List.length_cons, List.length_nil, Nat.zero_add, Nat.reduceAdd] at hsw5
        have hw5_0 := hid (hc 0 _ rfl)
        have hw5_1 := hid (hc 1 _ rfl)
        have HBw5 := hid hb
        clear hc hb
        have HC := hid (rcmp_any ⟨9, [x + (9007199254740991 - x + z)]⟩ ⟨9, [x + (9007199254740991 - x + z)]⟩ _ _ w5 ⟨_, rfl, HF.out.on HBw5.out⟩ ⟨_, rfl, IA.at [x + (9007199254740991 - x + z)] hw5_1.out (by simp)⟩)
        rw [cmpV_self] at HC
        have HB5 := hid (up_trans HB4.out HBw5.out)
        clear hb4 HD hf hw5_0 hw5_1
        go_wp2_with fail
        rw [← hw5]
        refine HC.out.mono ?_
        rintro e w6 ⟨rfl, hb6⟩
        have HB6 := hid (up_trans HB5.out hb6)
        clear hb6 hw5
        go_wp2
        go_ret
        exact ⟨rfl, HB6.out⟩

theorem own : ownKnob Tryd.prog.godebug = none := by kernel_rfl

theorem table {W : World} (h : laidMetH Tryd.prog Rows.actSumsRow.laid W) : TabsE W := by
  rw [MakeChecks.laidMetH_plain _ _ _ (by kernel_rfl)] at h
  exact tabs_of_laid h

set_option maxRecDepth 100000 in
theorem lifted (os : Os) (started : os.Started) (H : Type) (enc : TypeId × Value → H) :
    ReturnsInHanded {} Tryd.checked os 12 .any (fun w args => (Rows.actSumsSpec.pre enc Tryd.prog Tryd.f12 Rows.actSumsRow.domain false w args ∧ laidMetH Tryd.prog Rows.actSumsRow.laid w) ∧ sizedMet enc Tryd.prog Tryd.f12 (OpenSpec.ofChange Rows.actSumsSpec) false w args)
      (Rows.actSumsSpec.post enc Tryd.prog Tryd.f12 false true false false) := by
  refine returnsInHanded_of_change_and (C := Tryd.checked) (X := fun w _ => laidMetH Tryd.prog Rows.actSumsRow.laid w) (fun _ _ _ hh h => h.of_heap hh) own started (by kernel_rfl) Tryd.func12
    (ChangeSpec.witness_shaped (enc := enc) (C := Tryd.checked) (os := os) (X := fun w _ => laidMetH Tryd.prog Rows.actSumsRow.laid w) false (World.laidAll Tryd.prog os Rows.actSumsRow.laid) #[.int .i64 0, .int .i64 0, .bool false] 8 (World.laidAll_os _ _ _)
      (World.shaped_of_ZipB (by kernel_rfl) (by kernel_rfl)) (by kernel_rfl) (by kernel_rfl) (by kernel_rfl)
      (by rw [MakeChecks.laidMetH_plain _ _ _ (by kernel_rfl)]; exact laidMet_laidAll _ (by kernel_rfl) (by kernel_rfl))) ?_
  intro W base args ds gs before hval0 hW _ _ hL _
  have hval : ∀ (j : Nat) t v, Tryd.f12.params[j]? = some t → args[j]? = some v → Value.okWide Tryd.prog W .any base t v := hval0
  have hW' := hW
  obtain ⟨p, q, hA0, hV, rfl, hfz, hnd⟩ := hW
  have hA : DataW.TrodAll enc Tryd.prog W 0 (fun _ => true) true Tryd.f12.params.toList args.toList ds p := hA0
  rw [Tryd.params12] at hA hval
  obtain ⟨v0, vs0, d0, ds0, p0, q0, hargs, rfl, rfl, h0, r0⟩ := trodAll_cons hA
  obtain ⟨v1, vs1, d1, ds1, p1, q1, rfl, rfl, rfl, h1, r1⟩ := trodAll_cons r0
  obtain ⟨v2, vs2, d2, ds2, p2, q2, rfl, rfl, rfl, h2, r2⟩ := trodAll_cons r1
  obtain ⟨rfl, rfl, rfl⟩ := trodAll_nil r2
  obtain rfl : args = #[v0, v1, v2] := by cases args; simp_all
  obtain ⟨rfl, rfl⟩ := trodVars_none hV
  obtain ⟨a0, rfl, rfl, rfl, w0⟩ := open_int Tryd.underlying3 (hval 0 3 v0 rfl rfl) h0
  obtain ⟨a1, rfl, rfl, rfl, w1⟩ := open_int Tryd.underlying3 (hval 1 3 v1 rfl rfl) h1
  obtain ⟨a2, rfl, rfl, rfl⟩ := open_bool Tryd.underlying4 (hval 2 4 v2 rfl rfl) h2
  clear hA0 hval0
  refine (walk a0 a1 a2 W w0 w1 (table hL)).mono fun e W' ⟨he, bel⟩ => ?_
  subst he
  exact ⟨_, rfl, _, _, _, [], _, [], hW', trodAll_mk1 (shut_bool Tryd.underlying4 _), (trodAll_cons_mk (shut_int Tryd.underlying3 w0) (trodAll_cons_mk (shut_int Tryd.underlying3 w1) (trodAll_cons_mk (shut_bool Tryd.underlying4 _) trodAll_mk0))), rfl, bel.frame _, fun h => by cases h⟩

theorem row_holds : Rows.ActSumsSaid :=
  OpenClaim.holds_of_wide 12 Tryd.f12 rfl rfl rfl rfl rfl rfl rfl ⟨rfl, rfl, rfl, rfl, rfl⟩ rfl rfl rfl rfl rfl (by kernel_rfl) Tryd.func12 (by kernel_rfl)
    (of_decide_eq_true (by kernel_rfl)) (by unfold Func.isWrapper; first | (rw [if_pos (by decide +kernel)]; kernel_rfl) | (rw [if_neg (by decide +kernel)]; exact ⟨rfl, rfl⟩))
    (fun os started H enc _ => lifted os started H enc)

theorem actSums_holds : Rows.ActSumsCardSaid :=
  Claim7.holds_tied_plain_at .later [] _ _ _ _ row_holds (fun _ h => by cases h) (by kernel_rfl) (fun _ h => by cases h) actSums_row_tie rfl ⟨rfl, rfl⟩ (by kernel_rfl) rfl
    (fun f fn hf hfn => by
      obtain rfl : f = 12 := Option.some.inj ((show Tryd.prog.funcNamed "interlocutor/interlocutorlaw8.ActSums" = some 12 by kernel_rfl).symm.trans hf) |>.symm
      obtain rfl : fn = Tryd.f12 := (Option.some.inj (Tryd.func12.symm.trans hfn)).symm
      exact ⟨by kernel_rfl, fun j t ht => by
        rw [Tryd.params12] at ht
        have hm : t ∈ [3, 3, 4] := by simpa using Array.mem_of_getElem? ht
        have hall : ([3, 3, 4].all fun u => !Tryd.prog.wantsStandIn u) = true := by kernel_rfl
        exact (show Tryd.prog.wantsStandIn t = false by simpa using List.all_eq_true.1 hall t hm)⟩)
    (by kernel_rfl)

end Go.Proofs.YtdecphhmiioihaaDoor
