/- DecOrders answers true of every six ints: of the three decimals that they stand for, dec.Cmp is the reference's, turned about the other way about, and of three it goes on. The library's tables read as their text lays them. -/
import Derived.Test.YtoklknioeoodbaaDoorCards
import Derived.Test.YtoklknioeoodbaaDoorTie
import Derived.Test.YtoklknioeoodbaaDoorBase
import Derived.Test.YtoklknioeoodbaaDoorRef
import Derived.ProofKit
import Derived.OpenShut
import Derived.Lay
import Derived.SevenTiedAt
import Derived.Stop.Joined
import Derived.Lib.LaidTab
namespace Go.Proofs.YtoklknioeoodbaaDoor
open Go.ChangeShapes Go.WideShapes Go.ChangeAt Go.RowKit

set_option maxHeartbeats 4000000 in
theorem walk (m c n d k e : Int) (w : World) (_w0 : (Lit.int .i64 m).wf = true) (w1 : (Lit.int .i64 c).wf = true) (_w2 : (Lit.int .i64 n).wf = true) (w3 : (Lit.int .i64 d).wf = true) (_w4 : (Lit.int .i64 k).wf = true) (w5 : (Lit.int .i64 e).wf = true) (htab : Tab w) :
    Calls Tryd.prog 6 #[.int .i64 m, .int .i64 c, .int .i64 n, .int .i64 d, .int .i64 k, .int .i64 e] w fun e w' => e = .returned (.bool true) ∧ Below w.heap.size w w' := by
  have HK := hid (known_any w htab)
  obtain ⟨c0, c1⟩ := bounds_i64 w1
  obtain ⟨d0, d1⟩ := bounds_i64 w3
  obtain ⟨e0, e1⟩ := bounds_i64 w5
  obtain ⟨a, s, a0, a1, hs, hM⟩ := make_any m c c0 c1
  obtain ⟨b, t, b0, b1, ht, hN⟩ := make_any n d d0 d1
  obtain ⟨f, u, f0, f1, hu, hO⟩ := make_any k e e0 e1
  have HM := hid hM
  have HN := hid hN
  have HO := hid hO
  have HX : Hid (∀ w, Calls Tryd.prog 13 #[.int .i64 a, .int .i64 s, .int .i64 b, .int .i64 t] w fun e w' => e = .returned (.int .i64 (Dc.ord (Dc.val a s) (Dc.val b t))) ∧ Below w.heap.size w w') := fun w => by
    rw [← Dc.cmp_val _ _ _ _ hs ht]; exact cmp_any a s b t w hs ht a0 a1 b0 b1
  have HR : Hid (∀ w, Calls Tryd.prog 19 #[.int .i64 a, .int .i64 s, .int .i64 b, .int .i64 t] w fun e w' => e = .returned (.int .i64 (Dc.ord (Dc.val a s) (Dc.val b t))) ∧ Below w.heap.size w w') := fun w => by
    rw [← Dc.cmp_val _ _ _ _ hs ht]; exact rcmp_any a s b t w hs ht a0 a1 b0 b1
  have HY : Hid (∀ w, Calls Tryd.prog 13 #[.int .i64 b, .int .i64 t, .int .i64 a, .int .i64 s] w fun e w' => e = .returned (.int .i64 (0 - Dc.ord (Dc.val a s) (Dc.val b t))) ∧ Below w.heap.size w w') := fun w => by
    rw [← Dc.ord_turn, ← Dc.cmp_val _ _ _ _ ht hs]; exact cmp_any b t a s w ht hs b0 b1 a0 a1
  have HZ : Hid (∀ w, Calls Tryd.prog 13 #[.int .i64 b, .int .i64 t, .int .i64 f, .int .i64 u] w fun e w' => e = .returned (.int .i64 (Dc.ord (Dc.val b t) (Dc.val f u))) ∧ Below w.heap.size w w') := fun w => by
    rw [← Dc.cmp_val _ _ _ _ ht hu]; exact cmp_any b t f u w ht hu b0 b1 f0 f1
  have HV : Hid (∀ w, Calls Tryd.prog 13 #[.int .i64 a, .int .i64 s, .int .i64 f, .int .i64 u] w fun e w' => e = .returned (.int .i64 (Dc.ord (Dc.val a s) (Dc.val f u))) ∧ Below w.heap.size w w') := fun w => by
    rw [← Dc.cmp_val _ _ _ _ hs hu]; exact cmp_any a s f u w hs hu a0 a1 f0 f1
  have p1 := @Dc.ord_pos (Dc.val a s) (Dc.val b t)
  have p2 := @Dc.ord_pos (Dc.val b t) (Dc.val f u)
  have p3 := @Dc.ord_pos (Dc.val a s) (Dc.val f u)
  have q1 := Dc.ord_bd (Dc.val a s) (Dc.val b t)
  have q2 := Dc.ord_bd (Dc.val b t) (Dc.val f u)
  have q3 := Dc.ord_bd (Dc.val a s) (Dc.val f u)
  have key : 0 < Dc.ord (Dc.val a s) (Dc.val b t) ∨ 0 < Dc.ord (Dc.val b t) (Dc.val f u) ∨ Dc.ord (Dc.val a s) (Dc.val f u) ≤ 0 := by omega
  clear hM hN hO w1 w3 w5 p1 p2 p3 c0 c1 d0 d1 e0 e1 a0 a1 b0 b1 f0 f1
  generalize Dc.ord (Dc.val a s) (Dc.val b t) = x at *
  generalize Dc.ord (Dc.val b t) (Dc.val f u) = y at *
  generalize Dc.ord (Dc.val a s) (Dc.val f u) = z at *
  by_cases h1 : 0 < x
  · clear key
    go_enter Tryd.func6, Tryd.ntmps6
    go_wp2_with fail
    refine HK.out.mono ?_
    rintro e w1 ⟨rfl, g1⟩
    go_wp2_with fail
    refine (HM.out _).mono ?_
    rintro e w2 ⟨rfl, rfl⟩
    go_wp2_with fail
    refine (HN.out _).mono ?_
    rintro e w2 ⟨rfl, rfl⟩
    go_wp2_with fail
    refine (HO.out _).mono ?_
    rintro e w2 ⟨rfl, rfl⟩
    go_wp2_with fail
    refine (HX.out _).mono ?_
    rintro e w3 ⟨rfl, g3⟩
    go_wp2_with fail
    refine (HR.out _).mono ?_
    rintro e w4 ⟨rfl, g4⟩
    go_wp2_with fail
    refine (HY.out _).mono ?_
    rintro e w5 ⟨rfl, g5⟩
    go_wp2
    go_ret
    exact ⟨rfl, up_trans (up_trans (up_trans g1 g3) g4) g5⟩
  · by_cases h2 : 0 < y
    · clear key
      go_enter Tryd.func6, Tryd.ntmps6
      go_wp2_with fail
      refine HK.out.mono ?_
      rintro e w1 ⟨rfl, g1⟩
      go_wp2_with fail
      refine (HM.out _).mono ?_
      rintro e w2 ⟨rfl, rfl⟩
      go_wp2_with fail
      refine (HN.out _).mono ?_
      rintro e w2 ⟨rfl, rfl⟩
      go_wp2_with fail
      refine (HO.out _).mono ?_
      rintro e w2 ⟨rfl, rfl⟩
      go_wp2_with fail
      refine (HX.out _).mono ?_
      rintro e w3 ⟨rfl, g3⟩
      go_wp2_with fail
      refine (HR.out _).mono ?_
      rintro e w4 ⟨rfl, g4⟩
      go_wp2_with fail
      refine (HY.out _).mono ?_
      rintro e w5 ⟨rfl, g5⟩
      go_wp2_with fail
      refine (HZ.out _).mono ?_
      rintro e w6 ⟨rfl, g6⟩
      go_wp2
      go_ret
      exact ⟨rfl, up_trans (up_trans (up_trans (up_trans g1 g3) g4) g5) g6⟩
    · have h3 : z ≤ 0 := by omega
      clear key
      go_enter Tryd.func6, Tryd.ntmps6
      go_wp2_with fail
      refine HK.out.mono ?_
      rintro e w1 ⟨rfl, g1⟩
      go_wp2_with fail
      refine (HM.out _).mono ?_
      rintro e w2 ⟨rfl, rfl⟩
      go_wp2_with fail
      refine (HN.out _).mono ?_
      rintro e w2 ⟨rfl, rfl⟩
      go_wp2_with fail
      refine (HO.out _).mono ?_
      rintro e w2 ⟨rfl, rfl⟩
      go_wp2_with fail
      refine (HX.out _).mono ?_
      rintro e w3 ⟨rfl, g3⟩
      go_wp2_with fail
      refine (HR.out _).mono ?_
      rintro e w4 ⟨rfl, g4⟩
      go_wp2_with fail
      refine (HY.out _).mono ?_
      rintro e w5 ⟨rfl, g5⟩
      go_wp2_with fail
      refine (HZ.out _).mono ?_
      rintro e w6 ⟨rfl, g6⟩
      go_wp2_with fail
      refine (HV.out _).mono ?_
      rintro e w7 ⟨rfl, g7⟩
      go_wp2
      go_ret
      exact ⟨rfl, up_trans (up_trans (up_trans (up_trans (up_trans g1 g3) g4) g5) g6) g7⟩

theorem own : ownKnob Tryd.prog.godebug = none := by kernel_rfl

theorem table {W : World} (h : laidMetH Tryd.prog Rows.decOrdersRow.laid W) : Tab W := by
  rw [MakeChecks.laidMetH_plain _ _ _ (by kernel_rfl)] at h
  obtain ⟨ps, ⟨g0, t0, cs0, f0, p0, q0, hg0, ht0, hv0, hd0, ⟨g1, t1, cs1, f1, p1, q1, hg1, ht1, hv1, hd1, ⟨g2, t2, cs2, f2, p2, q2, hg2, ht2, hv2, hd2, _, _⟩, _⟩, _⟩, _, _⟩ := h
  obtain rfl := Option.some.inj ((show Tryd.prog.globalNamed "internal/strconv.uint64pow10" = some 0 by kernel_rfl).symm.trans hg2)
  obtain rfl := Option.some.inj ((show (Tryd.prog.globals[0]?).map (·.type) = some 53 by kernel_rfl).symm.trans ht2)
  have e : (Rows.laid_internal_strconv_uint64pow10 : DataW Unit) = Lib.tabData .u64 Lib.pow10Tab := by kernel_rfl
  rw [e] at hd2
  unfold Tab Lib.TabIs
  rw [hv2, ← Lib.cells_of_tab Tryd.underlying53 Tryd.underlying47 (by kernel_rfl) (by kernel_rfl) hd2]

set_option maxRecDepth 100000 in
theorem lifted (os : Os) (started : os.Started) (H : Type) (enc : TypeId × Value → H) :
    ReturnsInHanded {} Tryd.checked os 6 .any (fun w args => (Rows.decOrdersSpec.pre enc Tryd.prog Tryd.f6 Rows.decOrdersRow.domain false w args ∧ laidMetH Tryd.prog Rows.decOrdersRow.laid w) ∧ sizedMet enc Tryd.prog Tryd.f6 (OpenSpec.ofChange Rows.decOrdersSpec) false w args)
      (Rows.decOrdersSpec.post enc Tryd.prog Tryd.f6 false true false false) := by
  refine returnsInHanded_of_change_and (C := Tryd.checked) (X := fun w _ => laidMetH Tryd.prog Rows.decOrdersRow.laid w) (fun _ _ _ hh h => h.of_heap hh) own started (by kernel_rfl) Tryd.func6
    (ChangeSpec.witness_shaped (enc := enc) (C := Tryd.checked) (os := os) (X := fun w _ => laidMetH Tryd.prog Rows.decOrdersRow.laid w) false (World.laidAll Tryd.prog os Rows.decOrdersRow.laid) #[.int .i64 0, .int .i64 0, .int .i64 0, .int .i64 0, .int .i64 0, .int .i64 0] 8 (World.laidAll_os _ _ _)
      (World.shaped_of_ZipB (by kernel_rfl) (by kernel_rfl)) (by kernel_rfl) (by kernel_rfl) (by kernel_rfl)
      (by rw [MakeChecks.laidMetH_plain _ _ _ (by kernel_rfl)]; exact laidMet_laidAll _ (by kernel_rfl) (by kernel_rfl))) ?_
  intro W base args ds gs before hval0 hW _ _ hL _
  have hval : ∀ (j : Nat) t v, Tryd.f6.params[j]? = some t → args[j]? = some v → Value.okWide Tryd.prog W .any base t v := hval0
  have hW' := hW
  obtain ⟨p, q, hA0, hV, rfl, hfz, hnd⟩ := hW
  have hA : DataW.TrodAll enc Tryd.prog W 0 (fun _ => true) true Tryd.f6.params.toList args.toList ds p := hA0
  rw [Tryd.params6] at hA hval
  obtain ⟨v0, vs0, d0, ds0, p0, q0, hargs, rfl, rfl, h0, r0⟩ := trodAll_cons hA
  obtain ⟨v1, vs1, d1, ds1, p1, q1, rfl, rfl, rfl, h1, r1⟩ := trodAll_cons r0
  obtain ⟨v2, vs2, d2, ds2, p2, q2, rfl, rfl, rfl, h2, r2⟩ := trodAll_cons r1
  obtain ⟨v3, vs3, d3, ds3, p3, q3, rfl, rfl, rfl, h3, r3⟩ := trodAll_cons r2
  obtain ⟨v4, vs4, d4, ds4, p4, q4, rfl, rfl, rfl, h4, r4⟩ := trodAll_cons r3
  obtain ⟨v5, vs5, d5, ds5, p5, q5, rfl, rfl, rfl, h5, r5⟩ := trodAll_cons r4
  obtain ⟨rfl, rfl, rfl⟩ := trodAll_nil r5
  obtain rfl : args = #[v0, v1, v2, v3, v4, v5] := by cases args; simp_all
  obtain ⟨rfl, rfl⟩ := trodVars_none hV
  obtain ⟨a0, rfl, rfl, rfl, w0⟩ := open_int Tryd.underlying3 (hval 0 3 v0 rfl rfl) h0
  obtain ⟨a1, rfl, rfl, rfl, w1⟩ := open_int Tryd.underlying3 (hval 1 3 v1 rfl rfl) h1
  obtain ⟨a2, rfl, rfl, rfl, w2⟩ := open_int Tryd.underlying3 (hval 2 3 v2 rfl rfl) h2
  obtain ⟨a3, rfl, rfl, rfl, w3⟩ := open_int Tryd.underlying3 (hval 3 3 v3 rfl rfl) h3
  obtain ⟨a4, rfl, rfl, rfl, w4⟩ := open_int Tryd.underlying3 (hval 4 3 v4 rfl rfl) h4
  obtain ⟨a5, rfl, rfl, rfl, w5⟩ := open_int Tryd.underlying3 (hval 5 3 v5 rfl rfl) h5
  clear hA0 hval0
  refine (walk a0 a1 a2 a3 a4 a5 W w0 w1 w2 w3 w4 w5 (table hL)).mono fun e W' ⟨he, bel⟩ => ?_
  subst he
  exact ⟨_, rfl, _, _, _, [], _, [], hW', trodAll_mk1 (shut_bool Tryd.underlying4 _), (trodAll_cons_mk (shut_int Tryd.underlying3 w0) (trodAll_cons_mk (shut_int Tryd.underlying3 w1) (trodAll_cons_mk (shut_int Tryd.underlying3 w2) (trodAll_cons_mk (shut_int Tryd.underlying3 w3) (trodAll_cons_mk (shut_int Tryd.underlying3 w4) (trodAll_cons_mk (shut_int Tryd.underlying3 w5) trodAll_mk0)))))), rfl, bel.frame _, fun h => by cases h⟩

theorem row_holds : Rows.DecOrdersSaid :=
  OpenClaim.holds_of_wide 6 Tryd.f6 rfl rfl rfl rfl rfl rfl rfl ⟨rfl, rfl, rfl, rfl, rfl⟩ rfl rfl rfl rfl rfl (by kernel_rfl) Tryd.func6 (by kernel_rfl)
    (of_decide_eq_true (by kernel_rfl)) (by unfold Func.isWrapper; first | (rw [if_pos (by decide +kernel)]; kernel_rfl) | (rw [if_neg (by decide +kernel)]; exact ⟨rfl, rfl⟩))
    (fun os started H enc _ => lifted os started H enc)

theorem decOrders_holds : Rows.DecOrdersCardSaid :=
  Claim7.holds_tied_plain_at .later [] _ _ _ _ row_holds (fun _ h => by cases h) (by kernel_rfl) (fun _ h => by cases h) decOrders_row_tie rfl ⟨rfl, rfl⟩ (by kernel_rfl) rfl
    (fun f fn hf hfn => by
      obtain rfl : f = 6 := Option.some.inj ((show Tryd.prog.funcNamed "interlocutor/interlocutorlaw2.DecOrders" = some 6 by kernel_rfl).symm.trans hf) |>.symm
      obtain rfl : fn = Tryd.f6 := (Option.some.inj (Tryd.func6.symm.trans hfn)).symm
      exact ⟨by kernel_rfl, fun j t ht => by
        rw [Tryd.params6] at ht
        have hm : t ∈ [3] := by simpa using Array.mem_of_getElem? ht
        have hall : ([3].all fun u => !Tryd.prog.wantsStandIn u) = true := by kernel_rfl
        exact (show Tryd.prog.wantsStandIn t = false by simpa using List.all_eq_true.1 hall t hm)⟩)
    (by kernel_rfl)

end Go.Proofs.YtoklknioeoodbaaDoor
