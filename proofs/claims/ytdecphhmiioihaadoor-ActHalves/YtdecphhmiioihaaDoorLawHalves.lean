/- ActHalves answers true of any four arguments: twelve at night is 0, twelve at noon 12, other hours beside; other hours make nothing. The table of how many numbers a kind has, and what an action stops with, are as listed. -/
import Derived.Test.YtdecphhmiioihaaDoorCards
import Derived.Test.YtdecphhmiioihaaDoorTie
import Derived.Test.YtdecphhmiioihaaDoorTab
import Derived.Test.YtdecphhmiioihaaDoorHv1
import Derived.Test.YtdecphhmiioihaaDoorHv2
import Derived.Test.YtdecphhmiioihaaDoorHv3
import Derived.Test.YtdecphhmiioihaaDoorHv4
import Derived.Test.YtdecphhmiioihaaDoorHv5
import Derived.Test.YtdecphhmiioihaaDoorHv6
import Derived.Test.YtdecphhmiioihaaDoorHv7
import Derived.Test.YtdecphhmiioihaaDoorHv8
import Derived.Test.YtdecphhmiioihaaDoorHv9
import Derived.ProofKit
import Derived.OpenShut
import Derived.Lay
import Derived.SevenTiedAt
import Derived.Stop.Joined
import Derived.Lib.LaidTab
namespace Go.Proofs.YtdecphhmiioihaaDoor
open Go.ChangeShapes Go.WideShapes Go.ChangeAt Go.RowKit

theorem walk (h m : Int) (pm three : Bool) (W : World) (w0 : (Lit.int .i64 h).wf = true) (w1 : (Lit.int .i64 m).wf = true) (hX : TabsE W) : Calls Tryd.prog 8 #[.int .i64 h, .int .i64 m, .bool pm, .bool three] W fun e W' => e = .returned (.bool true) ∧ Below W.heap.size W W' := by
  have hk : h % 15 = 0 ∨ h % 15 = 1 ∨ h % 15 = 14 ∨ (2 ≤ h % 15 ∧ h % 15 ≤ 13) := by omega
  rcases hk with hk | hk | hk | hk
  ·
    cases pm with
    | false =>
      cases three with
      | false =>
        exact part_0ff h m W w0 w1 hX hk
      | true =>
        exact part_0ft h m W w0 w1 hX hk
    | true =>
      cases three with
      | false =>
        exact part_0tf h m W w0 w1 hX hk
      | true =>
        exact part_0tt h m W w0 w1 hX hk
  ·
    cases pm with
    | false =>
      cases three with
      | false =>
        exact part_1ff h m W w0 w1 hX hk
      | true =>
        exact part_1ft h m W w0 w1 hX hk
    | true =>
      cases three with
      | false =>
        exact part_1tf h m W w0 w1 hX hk
      | true =>
        exact part_1tt h m W w0 w1 hX hk
  ·
    cases pm with
    | false =>
      cases three with
      | false =>
        exact part_14ff h m W w0 w1 hX hk
      | true =>
        exact part_14ft h m W w0 w1 hX hk
    | true =>
      cases three with
      | false =>
        exact part_14tf h m W w0 w1 hX hk
      | true =>
        exact part_14tt h m W w0 w1 hX hk
  ·
    cases pm with
    | false =>
      cases three with
      | false =>
        exact part_xff h m W w0 w1 hX hk
      | true =>
        by_cases h59 : m % 70 ≤ 59
        · exact part_xfta h m W w0 w1 hX hk h59
        · exact part_xftb h m W w0 w1 hX hk (by omega)
    | true =>
      cases three with
      | false =>
        exact part_xtf h m W w0 w1 hX hk
      | true =>
        by_cases h59 : m % 70 ≤ 59
        · exact part_xtta h m W w0 w1 hX hk h59
        · exact part_xttb h m W w0 w1 hX hk (by omega)

theorem own : ownKnob Tryd.prog.godebug = none := by kernel_rfl

theorem table {W : World} (h : laidMetH Tryd.prog Rows.actHalvesRow.laid W) : TabsE W := by
  rw [MakeChecks.laidMetH_plain _ _ _ (by kernel_rfl)] at h
  exact tabs_of_laid h

set_option maxRecDepth 100000 in
theorem lifted (os : Os) (started : os.Started) (H : Type) (enc : TypeId × Value → H) :
    ReturnsInHanded {} Tryd.checked os 8 .any (fun w args => (Rows.actHalvesSpec.pre enc Tryd.prog Tryd.f8 Rows.actHalvesRow.domain false w args ∧ laidMetH Tryd.prog Rows.actHalvesRow.laid w) ∧ sizedMet enc Tryd.prog Tryd.f8 (OpenSpec.ofChange Rows.actHalvesSpec) false w args)
      (Rows.actHalvesSpec.post enc Tryd.prog Tryd.f8 false true false false) := by
  refine returnsInHanded_of_change_and (C := Tryd.checked) (X := fun w _ => laidMetH Tryd.prog Rows.actHalvesRow.laid w) (fun _ _ _ hh h => h.of_heap hh) own started (by kernel_rfl) Tryd.func8
    (ChangeSpec.witness_shaped (enc := enc) (C := Tryd.checked) (os := os) (X := fun w _ => laidMetH Tryd.prog Rows.actHalvesRow.laid w) false (World.laidAll Tryd.prog os Rows.actHalvesRow.laid) #[.int .i64 0, .int .i64 0, .bool false, .bool false] 8 (World.laidAll_os _ _ _)
      (World.shaped_of_ZipB (by kernel_rfl) (by kernel_rfl)) (by kernel_rfl) (by kernel_rfl) (by kernel_rfl)
      (by rw [MakeChecks.laidMetH_plain _ _ _ (by kernel_rfl)]; exact laidMet_laidAll _ (by kernel_rfl) (by kernel_rfl))) ?_
  intro W base args ds gs before hval0 hW _ _ hL _
  have hval : ∀ (j : Nat) t v, Tryd.f8.params[j]? = some t → args[j]? = some v → Value.okWide Tryd.prog W .any base t v := hval0
  have hW' := hW
  obtain ⟨p, q, hA0, hV, rfl, hfz, hnd⟩ := hW
  have hA : DataW.TrodAll enc Tryd.prog W 0 (fun _ => true) true Tryd.f8.params.toList args.toList ds p := hA0
  rw [Tryd.params8] at hA hval
  obtain ⟨v0, vs0, d0, ds0, p0, q0, hargs, rfl, rfl, h0, r0⟩ := trodAll_cons hA
  obtain ⟨v1, vs1, d1, ds1, p1, q1, rfl, rfl, rfl, h1, r1⟩ := trodAll_cons r0
  obtain ⟨v2, vs2, d2, ds2, p2, q2, rfl, rfl, rfl, h2, r2⟩ := trodAll_cons r1
  obtain ⟨v3, vs3, d3, ds3, p3, q3, rfl, rfl, rfl, h3, r3⟩ := trodAll_cons r2
  obtain ⟨rfl, rfl, rfl⟩ := trodAll_nil r3
  obtain rfl : args = #[v0, v1, v2, v3] := by cases args; simp_all
  obtain ⟨rfl, rfl⟩ := trodVars_none hV
  obtain ⟨a0, rfl, rfl, rfl, w0⟩ := open_int Tryd.underlying3 (hval 0 3 v0 rfl rfl) h0
  obtain ⟨a1, rfl, rfl, rfl, w1⟩ := open_int Tryd.underlying3 (hval 1 3 v1 rfl rfl) h1
  obtain ⟨a2, rfl, rfl, rfl⟩ := open_bool Tryd.underlying4 (hval 2 4 v2 rfl rfl) h2
  obtain ⟨a3, rfl, rfl, rfl⟩ := open_bool Tryd.underlying4 (hval 3 4 v3 rfl rfl) h3
  clear hA0 hval0
  refine (walk a0 a1 a2 a3 W w0 w1 (table hL)).mono fun e W' ⟨he, bel⟩ => ?_
  subst he
  exact ⟨_, rfl, _, _, _, [], _, [], hW', trodAll_mk1 (shut_bool Tryd.underlying4 _), (trodAll_cons_mk (shut_int Tryd.underlying3 w0) (trodAll_cons_mk (shut_int Tryd.underlying3 w1) (trodAll_cons_mk (shut_bool Tryd.underlying4 _) (trodAll_cons_mk (shut_bool Tryd.underlying4 _) trodAll_mk0)))), rfl, bel.frame _, fun h => by cases h⟩

theorem row_holds : Rows.ActHalvesSaid :=
  OpenClaim.holds_of_wide 8 Tryd.f8 rfl rfl rfl rfl rfl rfl rfl ⟨rfl, rfl, rfl, rfl, rfl⟩ rfl rfl rfl rfl rfl (by kernel_rfl) Tryd.func8 (by kernel_rfl)
    (of_decide_eq_true (by kernel_rfl)) (by unfold Func.isWrapper; first | (rw [if_pos (by decide +kernel)]; kernel_rfl) | (rw [if_neg (by decide +kernel)]; exact ⟨rfl, rfl⟩))
    (fun os started H enc _ => lifted os started H enc)

theorem actHalves_holds : Rows.ActHalvesCardSaid :=
  Claim7.holds_tied_plain_at .later [] _ _ _ _ row_holds (fun _ h => by cases h) (by kernel_rfl) (fun _ h => by cases h) actHalves_row_tie rfl ⟨rfl, rfl⟩ (by kernel_rfl) rfl
    (fun f fn hf hfn => by
      obtain rfl : f = 8 := Option.some.inj ((show Tryd.prog.funcNamed "interlocutor/interlocutorlaw8.ActHalves" = some 8 by kernel_rfl).symm.trans hf) |>.symm
      obtain rfl : fn = Tryd.f8 := (Option.some.inj (Tryd.func8.symm.trans hfn)).symm
      exact ⟨by kernel_rfl, fun j t ht => by
        rw [Tryd.params8] at ht
        have hm : t ∈ [3, 3, 4, 4] := by simpa using Array.mem_of_getElem? ht
        have hall : ([3, 3, 4, 4].all fun u => !Tryd.prog.wantsStandIn u) = true := by kernel_rfl
        exact (show Tryd.prog.wantsStandIn t = false by simpa using List.all_eq_true.1 hall t hm)⟩)
    (by kernel_rfl)

end Go.Proofs.YtdecphhmiioihaaDoor
