/- DecWhole answers true of every two ints: the whole number that they stand for in the scale that they stand for is as much, and is normed to itself. The library's tables read as their text lays them. -/
import Derived.Test.YtoklknioeoodbaaDoorCards
import Derived.Test.YtoklknioeoodbaaDoorTie
import Derived.Test.YtoklknioeoodbaaDoorBase
import Derived.Test.YtoklknioeoodbaaDoorRef
import Derived.ProofKit
import Derived.OpenShut
import Derived.Lay
import Derived.SevenTiedAt
import Derived.Stop.Joined
import Derived.Lib.LaidTab
namespace Go.Proofs.YtoklknioeoodbaaDoor
open Go.ChangeShapes Go.WideShapes Go.ChangeAt Go.RowKit

theorem whole_norm : ∀ (s : Nat) (k : Int), Dc.norm (k * Dc.ten s) s = (k, 0)
  | 0, k => by rw [Dc.ten0, Int.mul_one]; rfl
  | s + 1, k => by
    have e : k * Dc.ten (s + 1) = 10 * (k * Dc.ten s) := by rw [Dc.tenS, Int.mul_left_comm]
    rw [e, norm_step _ _ (by omega) (by omega), show 10 * (k * Dc.ten s) / 10 = k * Dc.ten s by omega]
    exact whole_norm s k

set_option maxHeartbeats 4000000 in
theorem walk (m c : Int) (w : World) (_w0 : (Lit.int .i64 m).wf = true) (_w1 : (Lit.int .i64 c).wf = true) (htab : Tab w) :
    Calls Tryd.prog 8 #[.int .i64 m, .int .i64 c] w fun e w' => e = .returned (.bool true) ∧ Below w.heap.size w w' := by
  have HK := hid (known_any w htab)
  obtain ⟨k, hk⟩ : ∃ k : Int, k = m % 1000000 := ⟨_, rfl⟩
  obtain ⟨s, hs⟩ : ∃ s : Nat, (s : Int) = c % 12 := ⟨(c % 12).toNat, by omega⟩
  have hs11 : s ≤ 11 := by omega
  have k0 : 0 ≤ k := by omega
  have k1 : k < 1000000 := by omega
  have H1 : Hid (∀ w, Calls Tryd.prog 14 #[.int .i64 m, .int .i64 1000000] w fun e w' => e = .returned (.int .i64 k) ∧ w' = w) := fun w => by
    rw [hk]; exact lwithin_any m _ w (by omega) (by omega)
  have H2 : Hid (∀ w, Calls Tryd.prog 14 #[.int .i64 c, .int .i64 12] w fun e w' => e = .returned (.int .i64 s) ∧ w' = w) := fun w => by
    rw [hs]; exact lwithin_any c _ w (by omega) (by omega)
  have HT : Hid (∀ w, Calls Tryd.prog 20 #[.int .i64 s] w fun e w' => e = .returned (.int .i64 (Dc.ten s)) ∧ w' = w) := fun w => rten_any s w (by omega)
  have t0 := Dc.ten_pos s
  have t1 : Dc.ten s ≤ 100000000000 := by
    have h := Dc.ten_le hs11
    rwa [show Dc.ten 11 = 100000000000 by decide] at h
  have x0 : 0 ≤ k * Dc.ten s := Int.mul_nonneg k0 (by omega)
  have x1 : k * Dc.ten s < 1000000000000000000 := by
    have h := Int.mul_le_mul_of_nonneg_left t1 k0
    omega
  have HN : Hid (∀ w, Calls Tryd.prog 11 #[.int .i64 (k * Dc.ten s), .int .i64 s] w fun e w' => e = .returned (.tuple #[.int .i64 k, .int .i64 0]) ∧ Below w.heap.size w w') := fun w => by
    have h := norm_any (k * Dc.ten s) s w (by omega) (by omega) x1
    rw [whole_norm] at h; exact h
  have HC : Hid (∀ w, Calls Tryd.prog 13 #[.int .i64 (k * Dc.ten s), .int .i64 s, .int .i64 k, .int .i64 0] w fun e w' => e = .returned (.int .i64 0) ∧ Below w.heap.size w w') := fun w => by
    have h := cmp_any (k * Dc.ten s) s k 0 w (by omega) (by omega) (by omega) x1 (by omega) (by omega)
    rw [Dc.cmp_val _ _ _ _ (by omega) (by omega), show Dc.val (k * Dc.ten s) s = Dc.val k 0 by unfold Dc.val; rw [Int.mul_assoc, ← Dc.ten_add, show s + (18 - s) = 18 - 0 by omega], Dc.ord_self] at h
    exact h
  have HX : Hid (∀ w, Tab w → Calls Tryd.prog 17 #[.int .i64 k, .int .i64 0] w fun e w' => e = .returned (.string ⟨(Dc.text k 0).toArray⟩) ∧ Below w.heap.size w w') := fun w ht => text_any k 0 w (by omega) (by omega) (by omega) ht
  have e0 : s = 0 → k * Dc.ten s = k := fun h => by subst h; rw [Dc.ten0, Int.mul_one]
  clear hk hs
  by_cases hz : s = 0
  · subst hz
    rw [Dc.ten0] at *
    rw [Int.mul_one] at *
    clear e0
    go_enter Tryd.func8, Tryd.ntmps8
    go_wp2_with fail
    refine HK.out.mono ?_
    rintro e w1 ⟨rfl, b1⟩
    go_wp2_with fail
    refine (H1.out _).mono ?_
    rintro e w2 ⟨rfl, rfl⟩
    go_wp2_with fail
    refine (H2.out _).mono ?_
    rintro e w2 ⟨rfl, rfl⟩
    go_wp2_with fail
    refine (HT.out _).mono ?_
    rintro e w2 ⟨rfl, rfl⟩
    go_wp2_with fail
    refine (HN.out _).mono ?_
    rintro e w3 ⟨rfl, b3⟩
    go_wp2_with fail
    refine (HC.out _).mono ?_
    rintro e w4 ⟨rfl, b4⟩
    have T4 := hid (htab.on (up_trans (up_trans b1 b3) b4))
    go_wp2_with fail
    refine (HX.out _ T4.out).mono ?_
    rintro e w5 ⟨rfl, b5⟩
    have T5 := hid (T4.out.on b5)
    go_wp2_with fail
    refine (HX.out _ T5.out).mono ?_
    rintro e w6 ⟨rfl, b6⟩
    go_wp2
    go_ret
    exact ⟨rfl, up_trans (up_trans (up_trans (up_trans b1 b3) b4) b5) b6⟩
  · have hz' : decide (0 < (s : Int)) = true := by simp; omega
    clear e0
    generalize Dc.ten s = p at *
    have hw : wrap64 (k * p) = k * p := IntWalk.wrap64_in _ (by omega)
    go_enter Tryd.func8, Tryd.ntmps8
    go_wp2_with fail
    refine HK.out.mono ?_
    rintro e w1 ⟨rfl, b1⟩
    go_wp2_with fail
    refine (H1.out _).mono ?_
    rintro e w2 ⟨rfl, rfl⟩
    go_wp2_with fail
    refine (H2.out _).mono ?_
    rintro e w2 ⟨rfl, rfl⟩
    go_wp2_with fail
    refine (HT.out _).mono ?_
    rintro e w2 ⟨rfl, rfl⟩
    go_wp2_with fail
    refine (HN.out _).mono ?_
    rintro e w3 ⟨rfl, b3⟩
    go_wp2_with fail
    refine (HC.out _).mono ?_
    rintro e w4 ⟨rfl, b4⟩
    go_wp2
    go_ret
    exact ⟨rfl, up_trans (up_trans b1 b3) b4⟩

theorem own : ownKnob Tryd.prog.godebug = none := by kernel_rfl

theorem table {W : World} (h : laidMetH Tryd.prog Rows.decWholeRow.laid W) : Tab W := by
  rw [MakeChecks.laidMetH_plain _ _ _ (by kernel_rfl)] at h
  obtain ⟨ps, ⟨g0, t0, cs0, f0, p0, q0, hg0, ht0, hv0, hd0, ⟨g1, t1, cs1, f1, p1, q1, hg1, ht1, hv1, hd1, ⟨g2, t2, cs2, f2, p2, q2, hg2, ht2, hv2, hd2, _, _⟩, _⟩, _⟩, _, _⟩ := h
  obtain rfl := Option.some.inj ((show Tryd.prog.globalNamed "internal/strconv.uint64pow10" = some 0 by kernel_rfl).symm.trans hg2)
  obtain rfl := Option.some.inj ((show (Tryd.prog.globals[0]?).map (·.type) = some 53 by kernel_rfl).symm.trans ht2)
  have e : (Rows.laid_internal_strconv_uint64pow10 : DataW Unit) = Lib.tabData .u64 Lib.pow10Tab := by kernel_rfl
  rw [e] at hd2
  unfold Tab Lib.TabIs
  rw [hv2, ← Lib.cells_of_tab Tryd.underlying53 Tryd.underlying47 (by kernel_rfl) (by kernel_rfl) hd2]

set_option maxRecDepth 100000 in
theorem lifted (os : Os) (started : os.Started) (H : Type) (enc : TypeId × Value → H) :
    ReturnsInHanded {} Tryd.checked os 8 .any (fun w args => (Rows.decWholeSpec.pre enc Tryd.prog Tryd.f8 Rows.decWholeRow.domain false w args ∧ laidMetH Tryd.prog Rows.decWholeRow.laid w) ∧ sizedMet enc Tryd.prog Tryd.f8 (OpenSpec.ofChange Rows.decWholeSpec) false w args)
      (Rows.decWholeSpec.post enc Tryd.prog Tryd.f8 false true false false) := by
  refine returnsInHanded_of_change_and (C := Tryd.checked) (X := fun w _ => laidMetH Tryd.prog Rows.decWholeRow.laid w) (fun _ _ _ hh h => h.of_heap hh) own started (by kernel_rfl) Tryd.func8
    (ChangeSpec.witness_shaped (enc := enc) (C := Tryd.checked) (os := os) (X := fun w _ => laidMetH Tryd.prog Rows.decWholeRow.laid w) false (World.laidAll Tryd.prog os Rows.decWholeRow.laid) #[.int .i64 0, .int .i64 0] 8 (World.laidAll_os _ _ _)
      (World.shaped_of_ZipB (by kernel_rfl) (by kernel_rfl)) (by kernel_rfl) (by kernel_rfl) (by kernel_rfl)
      (by rw [MakeChecks.laidMetH_plain _ _ _ (by kernel_rfl)]; exact laidMet_laidAll _ (by kernel_rfl) (by kernel_rfl))) ?_
  intro W base args ds gs before hval0 hW _ _ hL _
  have hval : ∀ (j : Nat) t v, Tryd.f8.params[j]? = some t → args[j]? = some v → Value.okWide Tryd.prog W .any base t v := hval0
  have hW' := hW
  obtain ⟨p, q, hA0, hV, rfl, hfz, hnd⟩ := hW
  have hA : DataW.TrodAll enc Tryd.prog W 0 (fun _ => true) true Tryd.f8.params.toList args.toList ds p := hA0
  rw [Tryd.params8] at hA hval
  obtain ⟨v0, vs0, d0, ds0, p0, q0, hargs, rfl, rfl, h0, r0⟩ := trodAll_cons hA
  obtain ⟨v1, vs1, d1, ds1, p1, q1, rfl, rfl, rfl, h1, r1⟩ := trodAll_cons r0
  obtain ⟨rfl, rfl, rfl⟩ := trodAll_nil r1
  obtain rfl : args = #[v0, v1] := by cases args; simp_all
  obtain ⟨rfl, rfl⟩ := trodVars_none hV
  obtain ⟨a0, rfl, rfl, rfl, w0⟩ := open_int Tryd.underlying3 (hval 0 3 v0 rfl rfl) h0
  obtain ⟨a1, rfl, rfl, rfl, w1⟩ := open_int Tryd.underlying3 (hval 1 3 v1 rfl rfl) h1
  clear hA0 hval0
  refine (walk a0 a1 W w0 w1 (table hL)).mono fun e W' ⟨he, bel⟩ => ?_
  subst he
  exact ⟨_, rfl, _, _, _, [], _, [], hW', trodAll_mk1 (shut_bool Tryd.underlying4 _), (trodAll_cons_mk (shut_int Tryd.underlying3 w0) (trodAll_cons_mk (shut_int Tryd.underlying3 w1) trodAll_mk0)), rfl, bel.frame _, fun h => by cases h⟩

theorem row_holds : Rows.DecWholeSaid :=
  OpenClaim.holds_of_wide 8 Tryd.f8 rfl rfl rfl rfl rfl rfl rfl ⟨rfl, rfl, rfl, rfl, rfl⟩ rfl rfl rfl rfl rfl (by kernel_rfl) Tryd.func8 (by kernel_rfl)
    (of_decide_eq_true (by kernel_rfl)) (by unfold Func.isWrapper; first | (rw [if_pos (by decide +kernel)]; kernel_rfl) | (rw [if_neg (by decide +kernel)]; exact ⟨rfl, rfl⟩))
    (fun os started H enc _ => lifted os started H enc)

theorem decWhole_holds : Rows.DecWholeCardSaid :=
  Claim7.holds_tied_plain_at .later [] _ _ _ _ row_holds (fun _ h => by cases h) (by kernel_rfl) (fun _ h => by cases h) decWhole_row_tie rfl ⟨rfl, rfl⟩ (by kernel_rfl) rfl
    (fun f fn hf hfn => by
      obtain rfl : f = 8 := Option.some.inj ((show Tryd.prog.funcNamed "interlocutor/interlocutorlaw2.DecWhole" = some 8 by kernel_rfl).symm.trans hf) |>.symm
      obtain rfl : fn = Tryd.f8 := (Option.some.inj (Tryd.func8.symm.trans hfn)).symm
      exact ⟨by kernel_rfl, fun j t ht => by
        rw [Tryd.params8] at ht
        have hm : t ∈ [3] := by simpa using Array.mem_of_getElem? ht
        have hall : ([3].all fun u => !Tryd.prog.wantsStandIn u) = true := by kernel_rfl
        exact (show Tryd.prog.wantsStandIn t = false by simpa using List.all_eq_true.1 hall t hm)⟩)
    (by kernel_rfl)

end Go.Proofs.YtoklknioeoodbaaDoor
