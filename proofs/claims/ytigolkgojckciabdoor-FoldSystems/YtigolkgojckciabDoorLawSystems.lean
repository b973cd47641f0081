/- FoldSystems answers true of every four ints: the digits of the four systems stand one behind the other, no two are one sign, and they are made alike just where their numbers are. The table of noughts reads as the program's text lays it. -/
import Derived.Test.YtigolkgojckciabDoorCards
import Derived.Test.YtigolkgojckciabDoorTie
import Derived.Test.YtigolkgojckciabDoorDigits
import Derived.ProofKit
import Derived.OpenShut
import Derived.Lay
import Derived.SevenTiedAt
import Derived.Stop.Joined
import Derived.Lib.LaidTab
namespace Go.Proofs.YtigolkgojckciabDoor
open Go.ChangeShapes Go.WideShapes Go.ChangeAt Go.RowKit

theorem encode_inj (r s : Int) (hr : okRune r) (hs : okRune s) (h : Lib.encodeRune r = Lib.encodeRune s) : r = s := by
  have h1 := decL_encode r hr []
  have h2 := decL_encode s hs []
  rw [h] at h1
  rw [h1] at h2
  have h3 := congrArg Prod.fst h2
  simp only at h3
  unfold okRune at hr hs
  omega

theorem nought_inj (p q r s : Int) (hp : 0 ≤ p ∧ p < 4) (hq : 0 ≤ q ∧ q ≤ 9) (hr : 0 ≤ r ∧ r < 4) (hs : 0 ≤ s ∧ s ≤ 9) (h : nought p + q = nought r + s) : p = r ∧ q = s := by
  unfold nought at h
  omega

theorem digit_size (k d : Int) (hk0 : 0 ≤ k) (hk1 : k < 4) (hd0 : 0 ≤ d) (hd1 : d ≤ 9) : ((Lib.encodeRune (nought k + d)).length : Int) = [1, 2, 2, 3].getD k.toNat 0 := by
  rcases (show k = 0 ∨ k = 1 ∨ k = 2 ∨ k = 3 by omega) with rfl | rfl | rfl | rfl
  · rw [show nought 0 = 48 from rfl]; simp [Lib.encodeRune, Lib.encodeRuneZ_one (r := 48 + d) (by omega) (by omega)]
  · rw [show nought 1 = 1632 from rfl]; simp [Lib.encodeRune, Lib.encodeRuneZ_two (r := 1632 + d) (by omega) (by omega)]
  · rw [show nought 2 = 1776 from rfl]; simp [Lib.encodeRune, Lib.encodeRuneZ_two (r := 1776 + d) (by omega) (by omega)]
  · rw [show nought 3 = 2406 from rfl]; simp [Lib.encodeRune, Lib.encodeRuneZ_three (r := 2406 + d) (by omega)]

set_option maxHeartbeats 6000000 in
theorem walk (a b c d : Int) (w : World) (_w0 : (Lit.int .i64 a).wf = true) (_w1 : (Lit.int .i64 b).wf = true) (_w2 : (Lit.int .i64 c).wf = true) (_w3 : (Lit.int .i64 d).wf = true) (hT : Tab w) :
    Calls Tryd.prog 7 #[.int .i64 a, .int .i64 b, .int .i64 c, .int .i64 d] w fun e w' => e = .returned (.bool true) ∧ Below w.heap.size w w' := by
  have HK := hid (known_any w hT)
  have hp : 0 ≤ a % 4 ∧ a % 4 < 4 := by omega
  have hq : 0 ≤ b % 10 ∧ b % 10 ≤ 9 := by omega
  have hr : 0 ≤ c % 4 ∧ c % 4 < 4 := by omega
  have hs : 0 ≤ d % 10 ∧ d % 10 ≤ 9 := by omega
  have HA := hid (fun w => lwithin_any a 4 w (by decide) (by decide))
  have HB := hid (fun w => lwithin_any b 10 w (by decide) (by decide))
  have HC := hid (fun w => lwithin_any c 4 w (by decide) (by decide))
  have HD := hid (fun w => lwithin_any d 10 w (by decide) (by decide))
  generalize a % 4 = p at *
  generalize b % 10 = q at *
  generalize c % 4 = r at *
  generalize d % 10 = s at *
  have k1 := nought_ok p q hq.1 hq.2
  have k2 := nought_ok r s hs.1 hs.2
  have HX := hid (fun w h => digit_walk p q w h hp.1 hp.2 hq.1 hq.2)
  have HY := hid (fun w h => digit_walk r s w h hr.1 hr.2 hs.1 hs.2)
  have l1 := encodeRune_length (nought p + q)
  have l2 := encodeRune_length (nought r + s)
  have t1 := one_text _ k1
  have t2 := one_text _ k2
  rw [digit_rune p q hp.1 hp.2 hq.1 hq.2] at t1
  rw [digit_rune r s hr.1 hr.2 hs.1 hs.2] at t2
  have HU := hid (text_at _ _ t1 (by omega))
  have HV := hid (text_at _ _ t2 (by omega))
  have iXY := fun h => nought_inj p q r s hp hq hr hs (encode_inj _ _ k1 k2 h)
  have iUV := fun h => encode_inj (48 + q) (48 + s) (by unfold okRune; omega) (by unfold okRune; omega) h
  have hz := digit_size p q hp.1 hp.2 hq.1 hq.2
  have HT := hid hT
  clear t1 t2 k1 k2 hT
  have eXY : p = r → q = s → Lib.encodeRune (nought p + q) = Lib.encodeRune (nought r + s) := fun h1 h2 => by rw [h1, h2]
  have eUV : q = s → Lib.encodeRune (48 + q) = Lib.encodeRune (48 + s) := fun h => by rw [h]
  generalize Lib.encodeRune (nought p + q) = X at *
  generalize Lib.encodeRune (nought r + s) = Y at *
  generalize Lib.encodeRune (48 + q) = U at *
  generalize Lib.encodeRune (48 + s) = V at *
  have zl : p = 0 ∧ X.length = 1 ∨ p = 1 ∧ X.length = 2 ∨ p = 2 ∧ X.length = 2 ∨ p = 3 ∧ X.length = 3 := by
    rcases (show p = 0 ∨ p = 1 ∨ p = 2 ∨ p = 3 by omega) with rfl | rfl | rfl | rfl
    · simp at hz; omega
    · simp at hz; omega
    · simp at hz; omega
    · simp at hz; omega
  clear hz
  by_cases hqs : q = s
  · obtain rfl := eUV hqs
    subst hqs
    by_cases hpr : p = r
    · subst hpr
      obtain rfl := eXY rfl rfl
      clear iXY iUV eXY eUV
      rcases zl with ⟨rfl, zl⟩ | ⟨rfl, zl⟩ | ⟨rfl, zl⟩ | ⟨rfl, zl⟩
      all_goals
        go_enter Tryd.func7, Tryd.ntmps7
        go_wp2_with fail
        refine HK.out.mono ?_
        rintro e w1 ⟨rfl, bel⟩
        have HT1 := hid (HT.out.on bel)
        have HL1 := hid bel
        clear bel
        go_wp2_with fail
        refine (HA.out _).mono ?_
        rintro e w1 ⟨rfl, rfl⟩
        go_wp2_with fail
        refine (HB.out _).mono ?_
        rintro e w1 ⟨rfl, rfl⟩
        go_wp2_with fail
        refine (HC.out _).mono ?_
        rintro e w1 ⟨rfl, rfl⟩
        go_wp2_with fail
        refine (HD.out _).mono ?_
        rintro e w1 ⟨rfl, rfl⟩
        go_wp2_with fail
        refine (HX.out _ HT1.out).mono ?_
        rintro e w1 ⟨rfl, rfl⟩
        go_wp2_with fail
        refine (HY.out _ HT1.out).mono ?_
        rintro e w1 ⟨rfl, rfl⟩
        go_wp2_with fail
        refine (HU.out _ HT1.out).mono ?_
        rintro e w2 ⟨rfl, bel⟩
        have HT2 := hid (HT1.out.on bel)
        have HL2 := hid (up_trans HL1.out bel)
        clear bel
        go_wp2_with fail
        refine (HV.out _ HT2.out).mono ?_
        rintro e w3 ⟨rfl, bel⟩
        have HL3 := hid (up_trans HL2.out bel)
        clear bel
        go_wp2
        go_ret
        exact ⟨rfl, up_trans HL3.out (up_alloc _ _)⟩
    · have xy : (X == Y) = false := by
        cases h : (X == Y)
        · rfl
        · exact absurd (iXY (eq_of_beq h)).1 hpr
      clear iXY iUV eXY eUV
      rcases zl with ⟨rfl, zl⟩ | ⟨rfl, zl⟩ | ⟨rfl, zl⟩ | ⟨rfl, zl⟩
      all_goals
        have pr := beq_false_of_ne hpr
        go_enter Tryd.func7, Tryd.ntmps7
        go_wp2_with fail
        refine HK.out.mono ?_
        rintro e w1 ⟨rfl, bel⟩
        have HT1 := hid (HT.out.on bel)
        have HL1 := hid bel
        clear bel
        go_wp2_with fail
        refine (HA.out _).mono ?_
        rintro e w1 ⟨rfl, rfl⟩
        go_wp2_with fail
        refine (HB.out _).mono ?_
        rintro e w1 ⟨rfl, rfl⟩
        go_wp2_with fail
        refine (HC.out _).mono ?_
        rintro e w1 ⟨rfl, rfl⟩
        go_wp2_with fail
        refine (HD.out _).mono ?_
        rintro e w1 ⟨rfl, rfl⟩
        go_wp2_with fail
        refine (HX.out _ HT1.out).mono ?_
        rintro e w1 ⟨rfl, rfl⟩
        go_wp2_with fail
        refine (HY.out _ HT1.out).mono ?_
        rintro e w1 ⟨rfl, rfl⟩
        go_wp2_with fail
        refine (HU.out _ HT1.out).mono ?_
        rintro e w2 ⟨rfl, bel⟩
        have HT2 := hid (HT1.out.on bel)
        have HL2 := hid (up_trans HL1.out bel)
        clear bel
        go_wp2_with fail
        refine (HV.out _ HT2.out).mono ?_
        rintro e w3 ⟨rfl, bel⟩
        have HL3 := hid (up_trans HL2.out bel)
        clear bel
        go_wp2
        go_ret
        exact ⟨rfl, up_trans HL3.out (up_alloc _ _)⟩
  · have qs := beq_false_of_ne hqs
    have uv : (U == V) = false := by
      cases h : (U == V)
      · rfl
      · exact absurd (iUV (eq_of_beq h)) (by omega)
    have xy : (X == Y) = false := by
      cases h : (X == Y)
      · rfl
      · exact absurd (iXY (eq_of_beq h)).2 hqs
    clear iXY iUV eXY eUV
    by_cases hpr : p = r
    · subst hpr
      rcases zl with ⟨rfl, zl⟩ | ⟨rfl, zl⟩ | ⟨rfl, zl⟩ | ⟨rfl, zl⟩
      all_goals
        go_enter Tryd.func7, Tryd.ntmps7
        go_wp2_with fail
        refine HK.out.mono ?_
        rintro e w1 ⟨rfl, bel⟩
        have HT1 := hid (HT.out.on bel)
        have HL1 := hid bel
        clear bel
        go_wp2_with fail
        refine (HA.out _).mono ?_
        rintro e w1 ⟨rfl, rfl⟩
        go_wp2_with fail
        refine (HB.out _).mono ?_
        rintro e w1 ⟨rfl, rfl⟩
        go_wp2_with fail
        refine (HC.out _).mono ?_
        rintro e w1 ⟨rfl, rfl⟩
        go_wp2_with fail
        refine (HD.out _).mono ?_
        rintro e w1 ⟨rfl, rfl⟩
        go_wp2_with fail
        refine (HX.out _ HT1.out).mono ?_
        rintro e w1 ⟨rfl, rfl⟩
        go_wp2_with fail
        refine (HY.out _ HT1.out).mono ?_
        rintro e w1 ⟨rfl, rfl⟩
        go_wp2_with fail
        refine (HU.out _ HT1.out).mono ?_
        rintro e w2 ⟨rfl, bel⟩
        have HT2 := hid (HT1.out.on bel)
        have HL2 := hid (up_trans HL1.out bel)
        clear bel
        go_wp2_with fail
        refine (HV.out _ HT2.out).mono ?_
        rintro e w3 ⟨rfl, bel⟩
        have HL3 := hid (up_trans HL2.out bel)
        clear bel
        go_wp2
        go_ret
        exact ⟨rfl, up_trans HL3.out (up_alloc _ _)⟩
    · rcases zl with ⟨rfl, zl⟩ | ⟨rfl, zl⟩ | ⟨rfl, zl⟩ | ⟨rfl, zl⟩
      all_goals
        have pr := beq_false_of_ne hpr
        go_enter Tryd.func7, Tryd.ntmps7
        go_wp2_with fail
        refine HK.out.mono ?_
        rintro e w1 ⟨rfl, bel⟩
        have HT1 := hid (HT.out.on bel)
        have HL1 := hid bel
        clear bel
        go_wp2_with fail
        refine (HA.out _).mono ?_
        rintro e w1 ⟨rfl, rfl⟩
        go_wp2_with fail
        refine (HB.out _).mono ?_
        rintro e w1 ⟨rfl, rfl⟩
        go_wp2_with fail
        refine (HC.out _).mono ?_
        rintro e w1 ⟨rfl, rfl⟩
        go_wp2_with fail
        refine (HD.out _).mono ?_
        rintro e w1 ⟨rfl, rfl⟩
        go_wp2_with fail
        refine (HX.out _ HT1.out).mono ?_
        rintro e w1 ⟨rfl, rfl⟩
        go_wp2_with fail
        refine (HY.out _ HT1.out).mono ?_
        rintro e w1 ⟨rfl, rfl⟩
        go_wp2_with fail
        refine (HU.out _ HT1.out).mono ?_
        rintro e w2 ⟨rfl, bel⟩
        have HT2 := hid (HT1.out.on bel)
        have HL2 := hid (up_trans HL1.out bel)
        clear bel
        go_wp2_with fail
        refine (HV.out _ HT2.out).mono ?_
        rintro e w3 ⟨rfl, bel⟩
        have HL3 := hid (up_trans HL2.out bel)
        clear bel
        go_wp2
        go_ret
        exact ⟨rfl, up_trans HL3.out (up_alloc _ _)⟩

theorem own : ownKnob Tryd.prog.godebug = none := by kernel_rfl

theorem table {W : World} (h : laidMetH Tryd.prog Rows.foldSystemsRow.laid W) : Tab W := by
  rw [MakeChecks.laidMetH_plain _ _ _ (by kernel_rfl)] at h
  have hn : Tryd.prog.globalNamed "interlocutor/fold.noughts" = some 0 := by kernel_rfl
  have hT := Lib.tabIs_of_head (k := .i64) (zs := [48, 1632, 1776, 2406]) hn (show (Tryd.prog.globals[0]?).map (·.type) = some 46 by kernel_rfl) Tryd.underlying46 Tryd.underlying42 (by kernel_rfl) (by kernel_rfl) h
  exact ⟨hT.cell hn 0 (by decide), hT.cell hn 1 (by decide), hT.cell hn 2 (by decide), hT.cell hn 3 (by decide)⟩

set_option maxRecDepth 100000 in
theorem lifted (os : Os) (started : os.Started) (H : Type) (enc : TypeId × Value → H) :
    ReturnsInHanded {} Tryd.checked os 7 .any (fun w args => (Rows.foldSystemsSpec.pre enc Tryd.prog Tryd.f7 Rows.foldSystemsRow.domain false w args ∧ laidMetH Tryd.prog Rows.foldSystemsRow.laid w) ∧ sizedMet enc Tryd.prog Tryd.f7 (OpenSpec.ofChange Rows.foldSystemsSpec) false w args)
      (Rows.foldSystemsSpec.post enc Tryd.prog Tryd.f7 false true false false) := by
  refine returnsInHanded_of_change_and (C := Tryd.checked) (X := fun w _ => laidMetH Tryd.prog Rows.foldSystemsRow.laid w) (fun _ _ _ hh h => h.of_heap hh) own started (by kernel_rfl) Tryd.func7
    (ChangeSpec.witness_shaped (enc := enc) (C := Tryd.checked) (os := os) (X := fun w _ => laidMetH Tryd.prog Rows.foldSystemsRow.laid w) false (World.laidAll Tryd.prog os Rows.foldSystemsRow.laid) #[.int .i64 0, .int .i64 0, .int .i64 0, .int .i64 0] 8 (World.laidAll_os _ _ _)
      (World.shaped_of_ZipB (by kernel_rfl) (by kernel_rfl)) (by kernel_rfl) (by kernel_rfl) (by kernel_rfl)
      (by rw [MakeChecks.laidMetH_plain _ _ _ (by kernel_rfl)]; exact laidMet_laidAll _ (by kernel_rfl) (by kernel_rfl))) ?_
  intro W base args ds gs before hval0 hW _ _ hL _
  have hval : ∀ (j : Nat) t v, Tryd.f7.params[j]? = some t → args[j]? = some v → Value.okWide Tryd.prog W .any base t v := hval0
  have hW' := hW
  obtain ⟨p, q, hA0, hV, rfl, hfz, hnd⟩ := hW
  have hA : DataW.TrodAll enc Tryd.prog W 0 (fun _ => true) true Tryd.f7.params.toList args.toList ds p := hA0
  rw [Tryd.params7] at hA hval
  obtain ⟨v0, vs0, d0, ds0, p0, q0, hargs, rfl, rfl, h0, r0⟩ := trodAll_cons hA
  obtain ⟨v1, vs1, d1, ds1, p1, q1, rfl, rfl, rfl, h1, r1⟩ := trodAll_cons r0
  obtain ⟨v2, vs2, d2, ds2, p2, q2, rfl, rfl, rfl, h2, r2⟩ := trodAll_cons r1
  obtain ⟨v3, vs3, d3, ds3, p3, q3, rfl, rfl, rfl, h3, r3⟩ := trodAll_cons r2
  obtain ⟨rfl, rfl, rfl⟩ := trodAll_nil r3
  obtain rfl : args = #[v0, v1, v2, v3] := by cases args; simp_all
  obtain ⟨rfl, rfl⟩ := trodVars_none hV
  obtain ⟨a0, rfl, rfl, rfl, w0⟩ := open_int Tryd.underlying3 (hval 0 3 v0 rfl rfl) h0
  obtain ⟨a1, rfl, rfl, rfl, w1⟩ := open_int Tryd.underlying3 (hval 1 3 v1 rfl rfl) h1
  obtain ⟨a2, rfl, rfl, rfl, w2⟩ := open_int Tryd.underlying3 (hval 2 3 v2 rfl rfl) h2
  obtain ⟨a3, rfl, rfl, rfl, w3⟩ := open_int Tryd.underlying3 (hval 3 3 v3 rfl rfl) h3
  clear hA0 hval0
  refine (walk a0 a1 a2 a3 W w0 w1 w2 w3 (table hL)).mono fun e W' ⟨he, bel⟩ => ?_
  subst he
  exact ⟨_, rfl, _, _, _, [], _, [], hW', trodAll_mk1 (shut_bool Tryd.underlying4 _), (trodAll_cons_mk (shut_int Tryd.underlying3 w0) (trodAll_cons_mk (shut_int Tryd.underlying3 w1) (trodAll_cons_mk (shut_int Tryd.underlying3 w2) (trodAll_cons_mk (shut_int Tryd.underlying3 w3) trodAll_mk0)))), rfl, bel.frame _, fun h => by cases h⟩

theorem row_holds : Rows.FoldSystemsSaid :=
  OpenClaim.holds_of_wide 7 Tryd.f7 rfl rfl rfl rfl rfl rfl rfl ⟨rfl, rfl, rfl, rfl, rfl⟩ rfl rfl rfl rfl rfl (by kernel_rfl) Tryd.func7 (by kernel_rfl)
    (of_decide_eq_true (by kernel_rfl)) (by unfold Func.isWrapper; first | (rw [if_pos (by decide +kernel)]; kernel_rfl) | (rw [if_neg (by decide +kernel)]; exact ⟨rfl, rfl⟩))
    (fun os started H enc _ => lifted os started H enc)

theorem foldSystems_holds : Rows.FoldSystemsCardSaid :=
  Claim7.holds_tied_plain_at .later [] _ _ _ _ row_holds (fun _ h => by cases h) (by kernel_rfl) (fun _ h => by cases h) foldSystems_row_tie rfl ⟨rfl, rfl⟩ (by kernel_rfl) rfl
    (fun f fn hf hfn => by
      obtain rfl : f = 7 := Option.some.inj ((show Tryd.prog.funcNamed "interlocutor/interlocutorlaw3.FoldSystems" = some 7 by kernel_rfl).symm.trans hf) |>.symm
      obtain rfl : fn = Tryd.f7 := (Option.some.inj (Tryd.func7.symm.trans hfn)).symm
      exact ⟨by kernel_rfl, fun j t ht => by
        rw [Tryd.params7] at ht
        have hm : t ∈ [3] := by
          have := Array.mem_of_getElem? ht
          simp at this ⊢
          omega
        have hall : ([3].all fun u => !Tryd.prog.wantsStandIn u) = true := by kernel_rfl
        exact (show Tryd.prog.wantsStandIn t = false by simpa using List.all_eq_true.1 hall t hm)⟩)
    (by kernel_rfl)

end Go.Proofs.YtigolkgojckciabDoor
