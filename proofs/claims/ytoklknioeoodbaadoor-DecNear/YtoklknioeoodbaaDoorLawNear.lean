/- DecNear answers true of every two ints: of the decimal that they stand for, decimals that differ in the last digit alone are apart, and by one nought more behind they are one. The library's tables read as their text lays them. -/
import Derived.Test.YtoklknioeoodbaaDoorCards
import Derived.Test.YtoklknioeoodbaaDoorTie
import Derived.Test.YtoklknioeoodbaaDoorBase
import Derived.ProofKit
import Derived.OpenShut
import Derived.Lay
import Derived.SevenTiedAt
import Derived.Stop.Joined
import Derived.Lib.LaidTab
namespace Go.Proofs.YtoklknioeoodbaaDoor
open Go.ChangeShapes Go.WideShapes Go.ChangeAt Go.RowKit

theorem near_facts (a : Int) (s : Nat) (hs : s ≤ 15) :
    Dc.cmp a s (a + 1) s = -1 ∧ Dc.cmp (a + 1) s a s = 1 ∧ Dc.cmp (10 * a) (s + 1) a s = 0 ∧ Dc.cmp (10 * a + 1) (s + 1) a s = 1 := by
  rw [Dc.cmp_val _ _ _ _ (by omega) (by omega), Dc.cmp_val _ _ _ _ (by omega) (by omega), Dc.cmp_val _ _ _ _ (by omega) (by omega), Dc.cmp_val _ _ _ _ (by omega) (by omega)]
  unfold Dc.val
  have e : Dc.ten (18 - s) = 10 * Dc.ten (18 - (s + 1)) := by rw [show 18 - s = (18 - (s + 1)) + 1 by omega, Dc.tenS]
  have hp := Dc.ten_pos (18 - (s + 1))
  rw [e, Int.add_mul, Int.add_mul, Int.one_mul, Int.one_mul, Int.mul_assoc 10 a, Int.mul_left_comm a 10]
  generalize a * Dc.ten (18 - (s + 1)) = x
  generalize Dc.ten (18 - (s + 1)) = y at *
  exact ⟨Dc.ord_lt (by omega), Dc.ord_gt (by omega), by rw [Dc.ord_self], Dc.ord_gt (by omega)⟩

set_option maxHeartbeats 2000000 in
theorem walk (m c : Int) (w : World) (_w0 : (Lit.int .i64 m).wf = true) (_w1 : (Lit.int .i64 c).wf = true) (htab : Tab w) :
    Calls Tryd.prog 7 #[.int .i64 m, .int .i64 c] w fun e w' => e = .returned (.bool true) ∧ Below w.heap.size w w' := by
  have HK := hid (known_any w htab)
  obtain ⟨a, ha⟩ : ∃ a, a = m % 1125899906842624 - 562949953421312 := ⟨_, rfl⟩
  obtain ⟨s, hs⟩ : ∃ s : Nat, (s : Int) = c % 16 := ⟨(c % 16).toNat, by omega⟩
  have hs15 : s ≤ 15 := by omega
  have a0 : -562949953421312 ≤ a := by omega
  have a1 : a < 562949953421312 := by omega
  obtain ⟨n1, n2, n3, n4⟩ := near_facts a s hs15
  have H1 : Hid (∀ w, Calls Tryd.prog 14 #[.int .i64 m, .int .i64 1125899906842624] w fun e w' => e = .returned (.int .i64 (a + 562949953421312)) ∧ w' = w) := fun w => by
    rw [show a + 562949953421312 = m % 1125899906842624 by omega]; exact lwithin_any m _ w (by omega) (by omega)
  have H2 : Hid (∀ w, Calls Tryd.prog 14 #[.int .i64 c, .int .i64 16] w fun e w' => e = .returned (.int .i64 s) ∧ w' = w) := fun w => by
    rw [hs]; exact lwithin_any c _ w (by omega) (by omega)
  have C1 : Hid (∀ w, Calls Tryd.prog 13 #[.int .i64 a, .int .i64 s, .int .i64 (a + 1), .int .i64 s] w fun e w' => e = .returned (.int .i64 (-1)) ∧ Below w.heap.size w w') := fun w => by
    have h := cmp_any a s (a + 1) s w (by omega) (by omega) (by omega) (by omega) (by omega) (by omega)
    rw [n1] at h; exact h
  have C2 : Hid (∀ w, Calls Tryd.prog 13 #[.int .i64 (a + 1), .int .i64 s, .int .i64 a, .int .i64 s] w fun e w' => e = .returned (.int .i64 1) ∧ Below w.heap.size w w') := fun w => by
    have h := cmp_any (a + 1) s a s w (by omega) (by omega) (by omega) (by omega) (by omega) (by omega)
    rw [n2] at h; exact h
  have C3 : Hid (∀ w, Calls Tryd.prog 13 #[.int .i64 (10 * a), .int .i64 ((s : Int) + 1), .int .i64 a, .int .i64 s] w fun e w' => e = .returned (.int .i64 0) ∧ Below w.heap.size w w') := fun w => by
    have h := cmp_any (10 * a) (s + 1) a s w (by omega) (by omega) (by omega) (by omega) (by omega) (by omega)
    rw [n3] at h; exact h
  have C4 : Hid (∀ w, Calls Tryd.prog 13 #[.int .i64 (10 * a + 1), .int .i64 ((s : Int) + 1), .int .i64 a, .int .i64 s] w fun e w' => e = .returned (.int .i64 1) ∧ Below w.heap.size w w') := fun w => by
    have h := cmp_any (10 * a + 1) (s + 1) a s w (by omega) (by omega) (by omega) (by omega) (by omega) (by omega)
    rw [n4] at h; exact h
  clear ha hs n1 n2 n3 n4
  go_enter Tryd.func7, Tryd.ntmps7
  go_wp2_with fail
  refine HK.out.mono ?_
  rintro e w1 ⟨rfl, b1⟩
  go_wp2_with fail
  refine (H1.out _).mono ?_
  rintro e w2 ⟨rfl, rfl⟩
  go_wp2_with fail
  refine (H2.out _).mono ?_
  rintro e w2 ⟨rfl, rfl⟩
  go_wp2_with fail
  refine (C1.out _).mono ?_
  rintro e w3 ⟨rfl, b3⟩
  go_wp2_with fail
  refine (C2.out _).mono ?_
  rintro e w4 ⟨rfl, b4⟩
  go_wp2_with fail
  refine (C3.out _).mono ?_
  rintro e w5 ⟨rfl, b5⟩
  go_wp2_with fail
  refine (C4.out _).mono ?_
  rintro e w6 ⟨rfl, b6⟩
  go_wp2
  go_ret
  exact ⟨rfl, up_trans (up_trans (up_trans (up_trans b1 b3) b4) b5) b6⟩

theorem own : ownKnob Tryd.prog.godebug = none := by kernel_rfl

theorem table {W : World} (h : laidMetH Tryd.prog Rows.decNearRow.laid W) : Tab W := by
  rw [MakeChecks.laidMetH_plain _ _ _ (by kernel_rfl)] at h
  obtain ⟨ps, ⟨g0, t0, cs0, f0, p0, q0, hg0, ht0, hv0, hd0, ⟨g1, t1, cs1, f1, p1, q1, hg1, ht1, hv1, hd1, ⟨g2, t2, cs2, f2, p2, q2, hg2, ht2, hv2, hd2, _, _⟩, _⟩, _⟩, _, _⟩ := h
  obtain rfl := Option.some.inj ((show Tryd.prog.globalNamed "internal/strconv.uint64pow10" = some 0 by kernel_rfl).symm.trans hg2)
  obtain rfl := Option.some.inj ((show (Tryd.prog.globals[0]?).map (·.type) = some 53 by kernel_rfl).symm.trans ht2)
  have e : (Rows.laid_internal_strconv_uint64pow10 : DataW Unit) = Lib.tabData .u64 Lib.pow10Tab := by kernel_rfl
  rw [e] at hd2
  unfold Tab Lib.TabIs
  rw [hv2, ← Lib.cells_of_tab Tryd.underlying53 Tryd.underlying47 (by kernel_rfl) (by kernel_rfl) hd2]

set_option maxRecDepth 100000 in
theorem lifted (os : Os) (started : os.Started) (H : Type) (enc : TypeId × Value → H) :
    ReturnsInHanded {} Tryd.checked os 7 .any (fun w args => (Rows.decNearSpec.pre enc Tryd.prog Tryd.f7 Rows.decNearRow.domain false w args ∧ laidMetH Tryd.prog Rows.decNearRow.laid w) ∧ sizedMet enc Tryd.prog Tryd.f7 (OpenSpec.ofChange Rows.decNearSpec) false w args)
      (Rows.decNearSpec.post enc Tryd.prog Tryd.f7 false true false false) := by
  refine returnsInHanded_of_change_and (C := Tryd.checked) (X := fun w _ => laidMetH Tryd.prog Rows.decNearRow.laid w) (fun _ _ _ hh h => h.of_heap hh) own started (by kernel_rfl) Tryd.func7
    (ChangeSpec.witness_shaped (enc := enc) (C := Tryd.checked) (os := os) (X := fun w _ => laidMetH Tryd.prog Rows.decNearRow.laid w) false (World.laidAll Tryd.prog os Rows.decNearRow.laid) #[.int .i64 0, .int .i64 0] 8 (World.laidAll_os _ _ _)
      (World.shaped_of_ZipB (by kernel_rfl) (by kernel_rfl)) (by kernel_rfl) (by kernel_rfl) (by kernel_rfl)
      (by rw [MakeChecks.laidMetH_plain _ _ _ (by kernel_rfl)]; exact laidMet_laidAll _ (by kernel_rfl) (by kernel_rfl))) ?_
  intro W base args ds gs before hval0 hW _ _ hL _
  have hval : ∀ (j : Nat) t v, Tryd.f7.params[j]? = some t → args[j]? = some v → Value.okWide Tryd.prog W .any base t v := hval0
  have hW' := hW
  obtain ⟨p, q, hA0, hV, rfl, hfz, hnd⟩ := hW
  have hA : DataW.TrodAll enc Tryd.prog W 0 (fun _ => true) true Tryd.f7.params.toList args.toList ds p := hA0
  rw [Tryd.params7] at hA hval
  obtain ⟨v0, vs0, d0, ds0, p0, q0, hargs, rfl, rfl, h0, r0⟩ := trodAll_cons hA
  obtain ⟨v1, vs1, d1, ds1, p1, q1, rfl, rfl, rfl, h1, r1⟩ := trodAll_cons r0
  obtain ⟨rfl, rfl, rfl⟩ := trodAll_nil r1
  obtain rfl : args = #[v0, v1] := by cases args; simp_all
  obtain ⟨rfl, rfl⟩ := trodVars_none hV
  obtain ⟨a0, rfl, rfl, rfl, w0⟩ := open_int Tryd.underlying3 (hval 0 3 v0 rfl rfl) h0
  obtain ⟨a1, rfl, rfl, rfl, w1⟩ := open_int Tryd.underlying3 (hval 1 3 v1 rfl rfl) h1
  clear hA0 hval0
  refine (walk a0 a1 W w0 w1 (table hL)).mono fun e W' ⟨he, bel⟩ => ?_
  subst he
  exact ⟨_, rfl, _, _, _, [], _, [], hW', trodAll_mk1 (shut_bool Tryd.underlying4 _), (trodAll_cons_mk (shut_int Tryd.underlying3 w0) (trodAll_cons_mk (shut_int Tryd.underlying3 w1) trodAll_mk0)), rfl, bel.frame _, fun h => by cases h⟩

theorem row_holds : Rows.DecNearSaid :=
  OpenClaim.holds_of_wide 7 Tryd.f7 rfl rfl rfl rfl rfl rfl rfl ⟨rfl, rfl, rfl, rfl, rfl⟩ rfl rfl rfl rfl rfl (by kernel_rfl) Tryd.func7 (by kernel_rfl)
    (of_decide_eq_true (by kernel_rfl)) (by unfold Func.isWrapper; first | (rw [if_pos (by decide +kernel)]; kernel_rfl) | (rw [if_neg (by decide +kernel)]; exact ⟨rfl, rfl⟩))
    (fun os started H enc _ => lifted os started H enc)

theorem decNear_holds : Rows.DecNearCardSaid :=
  Claim7.holds_tied_plain_at .later [] _ _ _ _ row_holds (fun _ h => by cases h) (by kernel_rfl) (fun _ h => by cases h) decNear_row_tie rfl ⟨rfl, rfl⟩ (by kernel_rfl) rfl
    (fun f fn hf hfn => by
      obtain rfl : f = 7 := Option.some.inj ((show Tryd.prog.funcNamed "interlocutor/interlocutorlaw2.DecNear" = some 7 by kernel_rfl).symm.trans hf) |>.symm
      obtain rfl : fn = Tryd.f7 := (Option.some.inj (Tryd.func7.symm.trans hfn)).symm
      exact ⟨by kernel_rfl, fun j t ht => by
        rw [Tryd.params7] at ht
        have hm : t ∈ [3] := by simpa using Array.mem_of_getElem? ht
        have hall : ([3].all fun u => !Tryd.prog.wantsStandIn u) = true := by kernel_rfl
        exact (show Tryd.prog.wantsStandIn t = false by simpa using List.all_eq_true.1 hall t hm)⟩)
    (by kernel_rfl)

end Go.Proofs.YtoklknioeoodbaaDoor
