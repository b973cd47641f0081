/- DecParts answers true of every two ints: joined of its parts, the decimal that they stand for is what it was. The library's tables read as their text lays them. -/
import Derived.Test.YtoklknioeoodbabDoorCards
import Derived.Test.YtoklknioeoodbabDoorTie
import Derived.Test.YtoklknioeoodbabDoorBase
import Derived.Test.YtoklknioeoodbabDoorExt
import Derived.ProofKit
import Derived.OpenShut
import Derived.Lay
import Derived.SevenTiedAt
import Derived.Stop.Joined
import Derived.Lib.LaidTab
namespace Go.Proofs.YtoklknioeoodbabDoor
open Go.ChangeShapes Go.WideShapes Go.ChangeAt Go.RowKit

theorem part_facts (a : Int) (s : Nat) (h : 0 ≤ a) (h1 : a < 1000000000000000000) :
    0 ≤ a.tdiv (Dc.ten s) ∧ 0 ≤ a.tmod (Dc.ten s) ∧ a.tmod (Dc.ten s) < Dc.ten s ∧ a.tdiv (Dc.ten s) * Dc.ten s + a.tmod (Dc.ten s) = a ∧ a.tdiv (Dc.ten s) * Dc.ten s < 1000000000000000000 ∧ a.tdiv (Dc.ten s) ≤ 1000000000000000000 := by
  have hp := Dc.ten_pos s
  have q0 := Int.tdiv_nonneg h (show 0 ≤ Dc.ten s by omega)
  have r0 := Int.tmod_nonneg (Dc.ten s) h
  have r1 := Int.tmod_lt_of_pos a hp
  have e : a.tmod (Dc.ten s) + Dc.ten s * a.tdiv (Dc.ten s) = a := Int.tmod_add_mul_tdiv a (Dc.ten s)
  rw [Int.mul_comm] at e
  have hb := tdiv_bd a (Dc.ten s) hp 1000000000000000000 (by omega) (by omega)
  refine ⟨q0, r0, r1, by omega, by omega, hb.2⟩

set_option maxHeartbeats 2000000 in
theorem walk_at (m c a b : Int) (s : Nat) (w : World) (htab : Tab w) (hs : s ≤ 18) (b0 : 0 ≤ b) (b1 : b < 1000000000000000000) (hab : a < 0 ∧ b = -a ∨ 0 ≤ a ∧ b = a)
    (HM : Hid (∀ w, Calls Tryd.prog 8 #[.int .i64 m, .int .i64 c] w fun e w' => e = .returned (.tuple #[.int .i64 a, .int .i64 s]) ∧ w' = w)) :
    Calls Tryd.prog 3 #[.int .i64 m, .int .i64 c] w fun e w' => e = .returned (.bool true) ∧ Below w.heap.size w w' := by
  have HK := hid (known_any w htab)
  obtain ⟨q0, r0, r1, er, eb, q1⟩ := part_facts b s b0 b1
  have HT : Hid (∀ w, Calls Tryd.prog 9 #[.int .i64 s] w fun e w' => e = .returned (.int .i64 (Dc.ten s)) ∧ w' = w) := fun w => rten_any s w hs
  have HJ : Hid (∀ w, Calls Tryd.prog 10 #[.int .i64 (b.tdiv (Dc.ten s)), .int .i64 (b.tmod (Dc.ten s)), .int .i64 s] w fun e w' => e = .returned (.tuple #[.int .i64 (Dc.norm b s).1, .int .i64 (Dc.norm b s).2, .bool true]) ∧ Below w.heap.size w w') := fun w => by
    have h := join_any (b.tdiv (Dc.ten s)) (b.tmod (Dc.ten s)) s w q0 r0 r1 eb hs
    rw [er] at h
    exact h
  have HN := hid (fun w => norm_any b s w hs (by omega) b1)
  have tp := ten_bd s hs
  generalize Dc.ten s = p at *
  have hp : p ≠ 0 := by omega
  obtain ⟨q, hq⟩ : ∃ q, b.tdiv p = q := ⟨_, rfl⟩
  obtain ⟨r, hr⟩ : ∃ r, b.tmod p = r := ⟨_, rfl⟩
  rw [hq] at HJ q0 q1
  rw [hr] at HJ r0 r1
  clear er eb
  rcases hab with ⟨ha, rfl⟩ | ⟨ha, rfl⟩
  all_goals
    go_enter Tryd.func3, Tryd.ntmps3
    go_wp2_with fail
    refine HK.out.mono ?_
    rintro e w1 ⟨rfl, b1⟩
    go_wp2_with fail
    refine (HM.out _).mono ?_
    rintro e w2 ⟨rfl, rfl⟩
    go_wp2_with fail
    refine (HT.out _).mono ?_
    rintro e w2 ⟨rfl, rfl⟩
    go_wp2_with fail
    refine wp_region_ext2 (by kernel_rfl) (by kernel_rfl) (fun hne hcell => ?_)
    repeat (go_big_quiet_step ((go_at_call 10; exact (HJ.out _).mono (fun e w' h => ⟨h.1, Ext.to _ h.2⟩))))
    refine wpQuiet_nil ?_
    rintro _ ⟨x, rfl⟩
    go_wp2_with fail
    refine (HN.out _).mono ?_
    rintro e w4 ⟨rfl, b4⟩
    go_wp2
    go_ret
    exact ⟨rfl, up_trans (up_trans b1 x.below) b4⟩

theorem walk (m c : Int) (w : World) (_w0 : (Lit.int .i64 m).wf = true) (w1 : (Lit.int .i64 c).wf = true) (htab : Tab w) :
    Calls Tryd.prog 3 #[.int .i64 m, .int .i64 c] w fun e w' => e = .returned (.bool true) ∧ Below w.heap.size w w' := by
  obtain ⟨c0, c1⟩ := bounds_i64 w1
  obtain ⟨a, s, a0, a1, hs, hM⟩ := make_any m c c0 c1
  by_cases h : a < 0
  · exact walk_at m c a (-a) s w htab hs (by omega) (by omega) (Or.inl ⟨h, rfl⟩) hM
  · exact walk_at m c a a s w htab hs (by omega) a1 (Or.inr ⟨by omega, rfl⟩) hM

theorem own : ownKnob Tryd.prog.godebug = none := by kernel_rfl

theorem table {W : World} (h : laidMetH Tryd.prog Rows.decPartsRow.laid W) : Tab W := by
  rw [MakeChecks.laidMetH_plain _ _ _ (by kernel_rfl)] at h
  obtain ⟨ps, ⟨g0, t0, cs0, f0, p0, q0, hg0, ht0, hv0, hd0, ⟨g1, t1, cs1, f1, p1, q1, hg1, ht1, hv1, hd1, ⟨g2, t2, cs2, f2, p2, q2, hg2, ht2, hv2, hd2, _, _⟩, _⟩, _⟩, _, _⟩ := h
  obtain rfl := Option.some.inj ((show Tryd.prog.globalNamed "internal/strconv.uint64pow10" = some 0 by kernel_rfl).symm.trans hg2)
  obtain rfl := Option.some.inj ((show (Tryd.prog.globals[0]?).map (·.type) = some 54 by kernel_rfl).symm.trans ht2)
  have e : (Rows.laid_internal_strconv_uint64pow10 : DataW Unit) = Lib.tabData .u64 Lib.pow10Tab := by kernel_rfl
  rw [e] at hd2
  unfold Tab Lib.TabIs
  rw [hv2, ← Lib.cells_of_tab Tryd.underlying54 Tryd.underlying47 (by kernel_rfl) (by kernel_rfl) hd2]

set_option maxRecDepth 100000 in
theorem lifted (os : Os) (started : os.Started) (H : Type) (enc : TypeId × Value → H) :
    ReturnsInHanded {} Tryd.checked os 3 .any (fun w args => (Rows.decPartsSpec.pre enc Tryd.prog Tryd.f3 Rows.decPartsRow.domain false w args ∧ laidMetH Tryd.prog Rows.decPartsRow.laid w) ∧ sizedMet enc Tryd.prog Tryd.f3 (OpenSpec.ofChange Rows.decPartsSpec) false w args)
      (Rows.decPartsSpec.post enc Tryd.prog Tryd.f3 false true false false) := by
  refine returnsInHanded_of_change_and (C := Tryd.checked) (X := fun w _ => laidMetH Tryd.prog Rows.decPartsRow.laid w) (fun _ _ _ hh h => h.of_heap hh) own started (by kernel_rfl) Tryd.func3
    (ChangeSpec.witness_shaped (enc := enc) (C := Tryd.checked) (os := os) (X := fun w _ => laidMetH Tryd.prog Rows.decPartsRow.laid w) false (World.laidAll Tryd.prog os Rows.decPartsRow.laid) #[.int .i64 0, .int .i64 0] 8 (World.laidAll_os _ _ _)
      (World.shaped_of_ZipB (by kernel_rfl) (by kernel_rfl)) (by kernel_rfl) (by kernel_rfl) (by kernel_rfl)
      (by rw [MakeChecks.laidMetH_plain _ _ _ (by kernel_rfl)]; exact laidMet_laidAll _ (by kernel_rfl) (by kernel_rfl))) ?_
  intro W base args ds gs before hval0 hW _ _ hL _
  have hval : ∀ (j : Nat) t v, Tryd.f3.params[j]? = some t → args[j]? = some v → Value.okWide Tryd.prog W .any base t v := hval0
  have hW' := hW
  obtain ⟨p, q, hA0, hV, rfl, hfz, hnd⟩ := hW
  have hA : DataW.TrodAll enc Tryd.prog W 0 (fun _ => true) true Tryd.f3.params.toList args.toList ds p := hA0
  rw [Tryd.params3] at hA hval
  obtain ⟨v0, vs0, d0, ds0, p0, q0, hargs, rfl, rfl, h0, r0⟩ := trodAll_cons hA
  obtain ⟨v1, vs1, d1, ds1, p1, q1, rfl, rfl, rfl, h1, r1⟩ := trodAll_cons r0
  obtain ⟨rfl, rfl, rfl⟩ := trodAll_nil r1
  obtain rfl : args = #[v0, v1] := by cases args; simp_all
  obtain ⟨rfl, rfl⟩ := trodVars_none hV
  obtain ⟨a0, rfl, rfl, rfl, w0⟩ := open_int Tryd.underlying3 (hval 0 3 v0 rfl rfl) h0
  obtain ⟨a1, rfl, rfl, rfl, w1⟩ := open_int Tryd.underlying3 (hval 1 3 v1 rfl rfl) h1
  clear hA0 hval0
  refine (walk a0 a1 W w0 w1 (table hL)).mono fun e W' ⟨he, bel⟩ => ?_
  subst he
  exact ⟨_, rfl, _, _, _, [], _, [], hW', trodAll_mk1 (shut_bool Tryd.underlying4 _), (trodAll_cons_mk (shut_int Tryd.underlying3 w0) (trodAll_cons_mk (shut_int Tryd.underlying3 w1) trodAll_mk0)), rfl, bel.frame _, fun h => by cases h⟩

theorem row_holds : Rows.DecPartsSaid :=
  OpenClaim.holds_of_wide 3 Tryd.f3 rfl rfl rfl rfl rfl rfl rfl ⟨rfl, rfl, rfl, rfl, rfl⟩ rfl rfl rfl rfl rfl (by kernel_rfl) Tryd.func3 (by kernel_rfl)
    (of_decide_eq_true (by kernel_rfl)) (by unfold Func.isWrapper; first | (rw [if_pos (by decide +kernel)]; kernel_rfl) | (rw [if_neg (by decide +kernel)]; exact ⟨rfl, rfl⟩))
    (fun os started H enc _ => lifted os started H enc)

theorem decParts_holds : Rows.DecPartsCardSaid :=
  Claim7.holds_tied_plain_at .later [] _ _ _ _ row_holds (fun _ h => by cases h) (by kernel_rfl) (fun _ h => by cases h) decParts_row_tie rfl ⟨rfl, rfl⟩ (by kernel_rfl) rfl
    (fun f fn hf hfn => by
      obtain rfl : f = 3 := Option.some.inj ((show Tryd.prog.funcNamed "interlocutor/interlocutorlaw2.DecParts" = some 3 by kernel_rfl).symm.trans hf) |>.symm
      obtain rfl : fn = Tryd.f3 := (Option.some.inj (Tryd.func3.symm.trans hfn)).symm
      exact ⟨by kernel_rfl, fun j t ht => by
        rw [Tryd.params3] at ht
        have hm : t ∈ [3] := by simpa using Array.mem_of_getElem? ht
        have hall : ([3].all fun u => !Tryd.prog.wantsStandIn u) = true := by kernel_rfl
        exact (show Tryd.prog.wantsStandIn t = false by simpa using List.all_eq_true.1 hall t hm)⟩)
    (by kernel_rfl)

end Go.Proofs.YtoklknioeoodbabDoor
