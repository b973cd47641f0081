/- DecKnown answers true of every int: each of the eight texts that the number may stand for is the text written beside it. The library's tables read as their text lays them. -/
import Derived.Test.YtoklknioeoodbabDoorCards
import Derived.Test.YtoklknioeoodbabDoorTie
import Derived.Test.YtoklknioeoodbabDoorBase
import Derived.ProofKit
import Derived.OpenShut
import Derived.Lay
import Derived.SevenTiedAt
import Derived.Stop.Joined
import Derived.Lib.LaidTab
namespace Go.Proofs.YtoklknioeoodbabDoor
open Go.ChangeShapes Go.WideShapes Go.ChangeAt Go.RowKit

theorem dd0 : Lib.decDigits 0 = [48] := by rw [Lib.decDigits_one (by decide)]; rfl
theorem dd5 : Lib.decDigits 5 = [53] := by rw [Lib.decDigits_one (by decide)]; rfl
theorem dd12 : Lib.decDigits 12 = [49, 50] := by rw [Lib.decDigits_two (by decide) (by decide)]; rfl
theorem k0 : Dc.text 0 0 = [48] := by show [] ++ Lib.decDigits 0 ++ [] = _; rw [dd0]; rfl
theorem k1 : Dc.text 0 3 = [48, 46, 48, 48, 48] := by show [] ++ Lib.decDigits 0 ++ (46 :: Dc.pad 0 3) = _; rw [dd0]; decide
theorem k2 : Dc.text 5 0 = [53] := by show [] ++ Lib.decDigits 5 ++ [] = _; rw [dd5]; rfl
theorem k3 : Dc.text (-5) 0 = [45, 53] := by show [45] ++ Lib.decDigits 5 ++ [] = _; rw [dd5]; rfl
theorem k4 : Dc.text 5 1 = [48, 46, 53] := by show [] ++ Lib.decDigits 0 ++ (46 :: Dc.pad 5 1) = _; rw [dd0]; decide
theorem k5 : Dc.text (-1234) 2 = [45, 49, 50, 46, 51, 52] := by show [45] ++ Lib.decDigits 12 ++ (46 :: Dc.pad 34 2) = _; rw [dd12]; decide
theorem k6 : Dc.text 999999999999999999 18 = [48, 46, 57, 57, 57, 57, 57, 57, 57, 57, 57, 57, 57, 57, 57, 57, 57, 57, 57, 57] := by
  have e : Dc.text 999999999999999999 18 = [] ++ Lib.decDigits (999999999999999999 / 10 ^ 18) ++ (46 :: Dc.pad (999999999999999999 % 10 ^ 18) 18) := rfl
  rw [e, show 999999999999999999 / 10 ^ 18 = 0 by decide, dd0]; decide
theorem k7 : Dc.text 1 18 = [48, 46, 48, 48, 48, 48, 48, 48, 48, 48, 48, 48, 48, 48, 48, 48, 48, 48, 48, 49] := by
  have e : Dc.text 1 18 = [] ++ Lib.decDigits (1 / 10 ^ 18) ++ (46 :: Dc.pad (1 % 10 ^ 18) 18) := rfl
  rw [e, show 1 / 10 ^ 18 = 0 by decide, dd0]; decide

set_option maxRecDepth 100000 in
set_option maxHeartbeats 4000000 in
theorem walk_at (n j : Int) (w : World) (htab : Tab w) (hj : n % 8 = j) (hd : j = 0 ∨ j = 1 ∨ j = 2 ∨ j = 3 ∨ j = 4 ∨ j = 5 ∨ j = 6 ∨ j = 7) :
    Calls Tryd.prog 6 #[.int .i64 n] w fun e w' => e = .returned (.bool true) ∧ Below w.heap.size w w' := by
  have HK := hid (known_any w htab)
  have HW : Hid (∀ w, Calls Tryd.prog 13 #[.int .i64 n, .int .i64 8] w fun e w' => e = .returned (.int .i64 j) ∧ w' = w) := fun w => by rw [← hj]; exact lwithin_any n 8 w (by omega) (by omega)
  have T0 : Hid (∀ w, Tab w → Calls Tryd.prog 14 #[.int .i64 0, .int .i64 0] w fun e w' => e = .returned (.string ⟨#[48]⟩) ∧ Below w.heap.size w w') := fun w ht => by
    have h := text_any 0 0 w (by decide) (by decide) (by decide) ht
    rw [k0] at h
    exact h
  have T1 : Hid (∀ w, Tab w → Calls Tryd.prog 14 #[.int .i64 0, .int .i64 3] w fun e w' => e = .returned (.string ⟨#[48, 46, 48, 48, 48]⟩) ∧ Below w.heap.size w w') := fun w ht => by
    have h := text_any 0 3 w (by decide) (by decide) (by decide) ht
    rw [k1] at h
    exact h
  have T2 : Hid (∀ w, Tab w → Calls Tryd.prog 14 #[.int .i64 5, .int .i64 0] w fun e w' => e = .returned (.string ⟨#[53]⟩) ∧ Below w.heap.size w w') := fun w ht => by
    have h := text_any 5 0 w (by decide) (by decide) (by decide) ht
    rw [k2] at h
    exact h
  have T3 : Hid (∀ w, Tab w → Calls Tryd.prog 14 #[.int .i64 (-5), .int .i64 0] w fun e w' => e = .returned (.string ⟨#[45, 53]⟩) ∧ Below w.heap.size w w') := fun w ht => by
    have h := text_any (-5) 0 w (by decide) (by decide) (by decide) ht
    rw [k3] at h
    exact h
  have T4 : Hid (∀ w, Tab w → Calls Tryd.prog 14 #[.int .i64 5, .int .i64 1] w fun e w' => e = .returned (.string ⟨#[48, 46, 53]⟩) ∧ Below w.heap.size w w') := fun w ht => by
    have h := text_any 5 1 w (by decide) (by decide) (by decide) ht
    rw [k4] at h
    exact h
  have T5 : Hid (∀ w, Tab w → Calls Tryd.prog 14 #[.int .i64 (-1234), .int .i64 2] w fun e w' => e = .returned (.string ⟨#[45, 49, 50, 46, 51, 52]⟩) ∧ Below w.heap.size w w') := fun w ht => by
    have h := text_any (-1234) 2 w (by decide) (by decide) (by decide) ht
    rw [k5] at h
    exact h
  have T6 : Hid (∀ w, Tab w → Calls Tryd.prog 14 #[.int .i64 999999999999999999, .int .i64 18] w fun e w' => e = .returned (.string ⟨#[48, 46, 57, 57, 57, 57, 57, 57, 57, 57, 57, 57, 57, 57, 57, 57, 57, 57, 57, 57]⟩) ∧ Below w.heap.size w w') := fun w ht => by
    have h := text_any 999999999999999999 18 w (by decide) (by decide) (by decide) ht
    rw [k6] at h
    exact h
  have T7 : Hid (∀ w, Tab w → Calls Tryd.prog 14 #[.int .i64 1, .int .i64 18] w fun e w' => e = .returned (.string ⟨#[48, 46, 48, 48, 48, 48, 48, 48, 48, 48, 48, 48, 48, 48, 48, 48, 48, 48, 48, 49]⟩) ∧ Below w.heap.size w w') := fun w ht => by
    have h := text_any 1 18 w (by decide) (by decide) (by decide) ht
    rw [k7] at h
    exact h
  clear hj
  go_enter Tryd.func6, Tryd.ntmps6
  go_wp2_with fail
  refine HK.out.mono ?_
  rintro e w1 ⟨rfl, b1⟩
  have B0 := hid b1
  go_wp2_with fail
  refine (T0.out _ (htab.on B0.out)).mono ?_
  rintro e v0 ⟨rfl, c0⟩
  have B1 := hid (up_trans B0.out c0)
  go_wp2_with fail
  refine (T1.out _ (htab.on B1.out)).mono ?_
  rintro e v1 ⟨rfl, c1⟩
  have B2 := hid (up_trans B1.out c1)
  go_wp2_with fail
  refine (T2.out _ (htab.on B2.out)).mono ?_
  rintro e v2 ⟨rfl, c2⟩
  have B3 := hid (up_trans B2.out c2)
  go_wp2_with fail
  refine (T3.out _ (htab.on B3.out)).mono ?_
  rintro e v3 ⟨rfl, c3⟩
  have B4 := hid (up_trans B3.out c3)
  go_wp2_with fail
  refine (T4.out _ (htab.on B4.out)).mono ?_
  rintro e v4 ⟨rfl, c4⟩
  have B5 := hid (up_trans B4.out c4)
  go_wp2_with fail
  refine (T5.out _ (htab.on B5.out)).mono ?_
  rintro e v5 ⟨rfl, c5⟩
  have B6 := hid (up_trans B5.out c5)
  go_wp2_with fail
  refine (T6.out _ (htab.on B6.out)).mono ?_
  rintro e v6 ⟨rfl, c6⟩
  have B7 := hid (up_trans B6.out c6)
  go_wp2_with fail
  refine (T7.out _ (htab.on B7.out)).mono ?_
  rintro e v7 ⟨rfl, c7⟩
  have B8 := hid (up_trans B7.out c7)
  go_wp2_with fail
  refine (HW.out _).mono ?_
  rintro e w9 ⟨rfl, rfl⟩
  rcases hd with rfl | rfl | rfl | rfl | rfl | rfl | rfl | rfl
  all_goals
    go_wp2
    go_quiet (fail)
    go_wp2
    go_ret
    exact ⟨rfl, below_drewN (up_trans (up_trans B8.out (up_alloc _ _)) (up_alloc _ _)) _⟩

theorem walk (n : Int) (w : World) (_w0 : (Lit.int .i64 n).wf = true) (htab : Tab w) :
    Calls Tryd.prog 6 #[.int .i64 n] w fun e w' => e = .returned (.bool true) ∧ Below w.heap.size w w' :=
  walk_at n _ w htab rfl (by omega)

theorem own : ownKnob Tryd.prog.godebug = none := by kernel_rfl

theorem table {W : World} (h : laidMetH Tryd.prog Rows.decKnownRow.laid W) : Tab W := by
  rw [MakeChecks.laidMetH_plain _ _ _ (by kernel_rfl)] at h
  obtain ⟨ps, ⟨g0, t0, cs0, f0, p0, q0, hg0, ht0, hv0, hd0, ⟨g1, t1, cs1, f1, p1, q1, hg1, ht1, hv1, hd1, ⟨g2, t2, cs2, f2, p2, q2, hg2, ht2, hv2, hd2, _, _⟩, _⟩, _⟩, _, _⟩ := h
  obtain rfl := Option.some.inj ((show Tryd.prog.globalNamed "internal/strconv.uint64pow10" = some 0 by kernel_rfl).symm.trans hg2)
  obtain rfl := Option.some.inj ((show (Tryd.prog.globals[0]?).map (·.type) = some 54 by kernel_rfl).symm.trans ht2)
  have e : (Rows.laid_internal_strconv_uint64pow10 : DataW Unit) = Lib.tabData .u64 Lib.pow10Tab := by kernel_rfl
  rw [e] at hd2
  unfold Tab Lib.TabIs
  rw [hv2, ← Lib.cells_of_tab Tryd.underlying54 Tryd.underlying47 (by kernel_rfl) (by kernel_rfl) hd2]

set_option maxRecDepth 100000 in
theorem lifted (os : Os) (started : os.Started) (H : Type) (enc : TypeId × Value → H) :
    ReturnsInHanded {} Tryd.checked os 6 .any (fun w args => (Rows.decKnownSpec.pre enc Tryd.prog Tryd.f6 Rows.decKnownRow.domain false w args ∧ laidMetH Tryd.prog Rows.decKnownRow.laid w) ∧ sizedMet enc Tryd.prog Tryd.f6 (OpenSpec.ofChange Rows.decKnownSpec) false w args)
      (Rows.decKnownSpec.post enc Tryd.prog Tryd.f6 false true false false) := by
  refine returnsInHanded_of_change_and (C := Tryd.checked) (X := fun w _ => laidMetH Tryd.prog Rows.decKnownRow.laid w) (fun _ _ _ hh h => h.of_heap hh) own started (by kernel_rfl) Tryd.func6
    (ChangeSpec.witness_shaped (enc := enc) (C := Tryd.checked) (os := os) (X := fun w _ => laidMetH Tryd.prog Rows.decKnownRow.laid w) false (World.laidAll Tryd.prog os Rows.decKnownRow.laid) #[.int .i64 0] 8 (World.laidAll_os _ _ _)
      (World.shaped_of_ZipB (by kernel_rfl) (by kernel_rfl)) (by kernel_rfl) (by kernel_rfl) (by kernel_rfl)
      (by rw [MakeChecks.laidMetH_plain _ _ _ (by kernel_rfl)]; exact laidMet_laidAll _ (by kernel_rfl) (by kernel_rfl))) ?_
  intro W base args ds gs before hval0 hW _ _ hL _
  have hval : ∀ (j : Nat) t v, Tryd.f6.params[j]? = some t → args[j]? = some v → Value.okWide Tryd.prog W .any base t v := hval0
  have hW' := hW
  obtain ⟨p, q, hA0, hV, rfl, hfz, hnd⟩ := hW
  have hA : DataW.TrodAll enc Tryd.prog W 0 (fun _ => true) true Tryd.f6.params.toList args.toList ds p := hA0
  rw [Tryd.params6] at hA hval
  obtain ⟨v0, vs0, d0, ds0, p0, q0, hargs, rfl, rfl, h0, r0⟩ := trodAll_cons hA
  obtain ⟨rfl, rfl, rfl⟩ := trodAll_nil r0
  obtain rfl : args = #[v0] := by cases args; simp_all
  obtain ⟨rfl, rfl⟩ := trodVars_none hV
  obtain ⟨a0, rfl, rfl, rfl, w0⟩ := open_int Tryd.underlying3 (hval 0 3 v0 rfl rfl) h0
  clear hA0 hval0
  refine (walk a0 W w0 (table hL)).mono fun e W' ⟨he, bel⟩ => ?_
  subst he
  exact ⟨_, rfl, _, _, _, [], _, [], hW', trodAll_mk1 (shut_bool Tryd.underlying4 _), (trodAll_cons_mk (shut_int Tryd.underlying3 w0) trodAll_mk0), rfl, bel.frame _, fun h => by cases h⟩

theorem row_holds : Rows.DecKnownSaid :=
  OpenClaim.holds_of_wide 6 Tryd.f6 rfl rfl rfl rfl rfl rfl rfl ⟨rfl, rfl, rfl, rfl, rfl⟩ rfl rfl rfl rfl rfl (by kernel_rfl) Tryd.func6 (by kernel_rfl)
    (of_decide_eq_true (by kernel_rfl)) (by unfold Func.isWrapper; first | (rw [if_pos (by decide +kernel)]; kernel_rfl) | (rw [if_neg (by decide +kernel)]; exact ⟨rfl, rfl⟩))
    (fun os started H enc _ => lifted os started H enc)

theorem decKnown_holds : Rows.DecKnownCardSaid :=
  Claim7.holds_tied_plain_at .later [] _ _ _ _ row_holds (fun _ h => by cases h) (by kernel_rfl) (fun _ h => by cases h) decKnown_row_tie rfl ⟨rfl, rfl⟩ (by kernel_rfl) rfl
    (fun f fn hf hfn => by
      obtain rfl : f = 6 := Option.some.inj ((show Tryd.prog.funcNamed "interlocutor/interlocutorlaw2.DecKnown" = some 6 by kernel_rfl).symm.trans hf) |>.symm
      obtain rfl : fn = Tryd.f6 := (Option.some.inj (Tryd.func6.symm.trans hfn)).symm
      exact ⟨by kernel_rfl, fun j t ht => by
        rw [Tryd.params6] at ht
        have hm : t ∈ [3] := by simpa using Array.mem_of_getElem? ht
        have hall : ([3].all fun u => !Tryd.prog.wantsStandIn u) = true := by kernel_rfl
        exact (show Tryd.prog.wantsStandIn t = false by simpa using List.all_eq_true.1 hall t hm)⟩)
    (by kernel_rfl)

end Go.Proofs.YtoklknioeoodbabDoor
