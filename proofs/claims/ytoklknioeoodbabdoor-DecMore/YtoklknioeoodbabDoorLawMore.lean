/- DecMore answers true of every four ints: the decimal that they stand for and one that is more by a step are in that order, in any scales that hold them. The library's tables read as their text lays them. -/
import Derived.Test.YtoklknioeoodbabDoorCards
import Derived.Test.YtoklknioeoodbabDoorTie
import Derived.Test.YtoklknioeoodbabDoorBase
import Derived.ProofKit
import Derived.OpenShut
import Derived.Lay
import Derived.SevenTiedAt
import Derived.Stop.Joined
import Derived.Lib.LaidTab
namespace Go.Proofs.YtoklknioeoodbabDoor
open Go.ChangeShapes Go.WideShapes Go.ChangeAt Go.RowKit

theorem more_facts (a k : Int) (s j : Nat) (hk : 0 < k) (hs : s + j ≤ 18) :
    Dc.cmp a s ((a + k) * Dc.ten j) (s + j) = -1 ∧ Dc.cmp ((a + k) * Dc.ten j) (s + j) a s = 1 := by
  rw [Dc.cmp_val _ _ _ _ (by omega) (by omega), Dc.cmp_val _ _ _ _ (by omega) (by omega)]
  unfold Dc.val
  have e : (a + k) * Dc.ten j * Dc.ten (18 - (s + j)) = (a + k) * Dc.ten (18 - s) := by rw [Int.mul_assoc, ← Dc.ten_add, show j + (18 - (s + j)) = 18 - s by omega]
  rw [e]
  have hp := Dc.ten_pos (18 - s)
  have := Int.mul_lt_mul_of_pos_right (show a < a + k by omega) hp
  exact ⟨Dc.ord_lt this, Dc.ord_gt this⟩

set_option maxHeartbeats 2000000 in
theorem walk (m n c d : Int) (w : World) (_w0 : (Lit.int .i64 m).wf = true) (_w1 : (Lit.int .i64 n).wf = true) (_w2 : (Lit.int .i64 c).wf = true) (_w3 : (Lit.int .i64 d).wf = true) (htab : Tab w) :
    Calls Tryd.prog 5 #[.int .i64 m, .int .i64 n, .int .i64 c, .int .i64 d] w fun e w' => e = .returned (.bool true) ∧ Below w.heap.size w w' := by
  have HK := hid (known_any w htab)
  obtain ⟨a, ha⟩ : ∃ a, a = m % 1073741824 - 536870912 := ⟨_, rfl⟩
  obtain ⟨k, hk⟩ : ∃ k, k = 1 + n % 1000 := ⟨_, rfl⟩
  obtain ⟨s, hs⟩ : ∃ s : Nat, (s : Int) = c % 8 := ⟨(c % 8).toNat, by omega⟩
  obtain ⟨j, hj⟩ : ∃ j : Nat, (j : Int) = d % 8 := ⟨(d % 8).toNat, by omega⟩
  have a0 : -536870912 ≤ a := by omega
  have a1 : a < 536870912 := by omega
  have k0 : 1 ≤ k := by omega
  have k1 : k ≤ 1000 := by omega
  have s7 : s ≤ 7 := by omega
  have j7 : j ≤ 7 := by omega
  obtain ⟨n1, n2⟩ := more_facts a k s j (by omega) (by omega)
  have H1 : Hid (∀ w, Calls Tryd.prog 13 #[.int .i64 m, .int .i64 1073741824] w fun e w' => e = .returned (.int .i64 (a + 536870912)) ∧ w' = w) := fun w => by
    rw [show a + 536870912 = m % 1073741824 by omega]; exact lwithin_any m _ w (by omega) (by omega)
  have H2 : Hid (∀ w, Calls Tryd.prog 13 #[.int .i64 n, .int .i64 1000] w fun e w' => e = .returned (.int .i64 (k - 1)) ∧ w' = w) := fun w => by
    rw [show k - 1 = n % 1000 by omega]; exact lwithin_any n _ w (by omega) (by omega)
  have H3 : Hid (∀ w, Calls Tryd.prog 13 #[.int .i64 c, .int .i64 8] w fun e w' => e = .returned (.int .i64 s) ∧ w' = w) := fun w => by
    rw [hs]; exact lwithin_any c _ w (by omega) (by omega)
  have H4 : Hid (∀ w, Calls Tryd.prog 13 #[.int .i64 d, .int .i64 8] w fun e w' => e = .returned (.int .i64 j) ∧ w' = w) := fun w => by
    rw [hj]; exact lwithin_any d _ w (by omega) (by omega)
  have HT : Hid (∀ w, Calls Tryd.prog 9 #[.int .i64 j] w fun e w' => e = .returned (.int .i64 (Dc.ten j)) ∧ w' = w) := fun w => rten_any j w (by omega)
  have t0 := Dc.ten_pos j
  have t1 : Dc.ten j ≤ 10000000 := by
    have h := Dc.ten_le j7
    rwa [show Dc.ten 7 = 10000000 by decide] at h
  have x : -1000000000000000000 < (a + k) * Dc.ten j ∧ (a + k) * Dc.ten j < 1000000000000000000 := by
    by_cases hp : 0 ≤ a + k
    · have h := Int.mul_le_mul_of_nonneg_left t1 hp
      have h' := Int.mul_nonneg hp (show 0 ≤ Dc.ten j by omega)
      omega
    · have h := Int.mul_le_mul_of_nonneg_left t1 (show 0 ≤ -(a + k) by omega)
      have h' := Int.mul_nonneg (show 0 ≤ -(a + k) by omega) (show 0 ≤ Dc.ten j by omega)
      rw [Int.neg_mul] at h h'
      omega
  have C1 : Hid (∀ w, Calls Tryd.prog 15 #[.int .i64 a, .int .i64 s, .int .i64 ((a + k) * Dc.ten j), .int .i64 ((s : Int) + (j : Int))] w fun e w' => e = .returned (.int .i64 (-1)) ∧ Below w.heap.size w w') := fun w => by
    have h := cmp_any a s ((a + k) * Dc.ten j) (s + j) w (by omega) (by omega) (by omega) (by omega) x.1 x.2
    rw [n1, Int.natCast_add] at h; exact h
  have C2 : Hid (∀ w, Calls Tryd.prog 15 #[.int .i64 ((a + k) * Dc.ten j), .int .i64 ((s : Int) + (j : Int)), .int .i64 a, .int .i64 s] w fun e w' => e = .returned (.int .i64 1) ∧ Below w.heap.size w w') := fun w => by
    have h := cmp_any ((a + k) * Dc.ten j) (s + j) a s w (by omega) (by omega) x.1 x.2 (by omega) (by omega)
    rw [n2, Int.natCast_add] at h; exact h
  clear ha hk hs hj n1 n2
  generalize Dc.ten j = p at *
  obtain ⟨x0, x1⟩ := x
  have ek : 1 + (k - 1) = k := by omega
  have hw : wrap64 ((a + k) * p) = (a + k) * p := IntWalk.wrap64_in _ (by omega)
  go_enter Tryd.func5, Tryd.ntmps5
  go_wp2_with fail
  refine HK.out.mono ?_
  rintro e w1 ⟨rfl, b1⟩
  go_wp2_with fail
  refine (H1.out _).mono ?_
  rintro e w2 ⟨rfl, rfl⟩
  go_wp2_with fail
  refine (H2.out _).mono ?_
  rintro e w2 ⟨rfl, rfl⟩
  go_wp2_with fail
  refine (H3.out _).mono ?_
  rintro e w2 ⟨rfl, rfl⟩
  go_wp2_with fail
  refine (H4.out _).mono ?_
  rintro e w2 ⟨rfl, rfl⟩
  go_wp2_with fail
  refine (HT.out _).mono ?_
  rintro e w2 ⟨rfl, rfl⟩
  go_wp2_with fail
  refine (C1.out _).mono ?_
  rintro e w3 ⟨rfl, b3⟩
  go_wp2_with fail
  refine (C2.out _).mono ?_
  rintro e w4 ⟨rfl, b4⟩
  go_wp2
  go_ret
  exact ⟨rfl, up_trans (up_trans b1 b3) b4⟩

theorem own : ownKnob Tryd.prog.godebug = none := by kernel_rfl

theorem table {W : World} (h : laidMetH Tryd.prog Rows.decMoreRow.laid W) : Tab W := by
  rw [MakeChecks.laidMetH_plain _ _ _ (by kernel_rfl)] at h
  obtain ⟨ps, ⟨g0, t0, cs0, f0, p0, q0, hg0, ht0, hv0, hd0, ⟨g1, t1, cs1, f1, p1, q1, hg1, ht1, hv1, hd1, ⟨g2, t2, cs2, f2, p2, q2, hg2, ht2, hv2, hd2, _, _⟩, _⟩, _⟩, _, _⟩ := h
  obtain rfl := Option.some.inj ((show Tryd.prog.globalNamed "internal/strconv.uint64pow10" = some 0 by kernel_rfl).symm.trans hg2)
  obtain rfl := Option.some.inj ((show (Tryd.prog.globals[0]?).map (·.type) = some 54 by kernel_rfl).symm.trans ht2)
  have e : (Rows.laid_internal_strconv_uint64pow10 : DataW Unit) = Lib.tabData .u64 Lib.pow10Tab := by kernel_rfl
  rw [e] at hd2
  unfold Tab Lib.TabIs
  rw [hv2, ← Lib.cells_of_tab Tryd.underlying54 Tryd.underlying47 (by kernel_rfl) (by kernel_rfl) hd2]

set_option maxRecDepth 100000 in
theorem lifted (os : Os) (started : os.Started) (H : Type) (enc : TypeId × Value → H) :
    ReturnsInHanded {} Tryd.checked os 5 .any (fun w args => (Rows.decMoreSpec.pre enc Tryd.prog Tryd.f5 Rows.decMoreRow.domain false w args ∧ laidMetH Tryd.prog Rows.decMoreRow.laid w) ∧ sizedMet enc Tryd.prog Tryd.f5 (OpenSpec.ofChange Rows.decMoreSpec) false w args)
      (Rows.decMoreSpec.post enc Tryd.prog Tryd.f5 false true false false) := by
  refine returnsInHanded_of_change_and (C := Tryd.checked) (X := fun w _ => laidMetH Tryd.prog Rows.decMoreRow.laid w) (fun _ _ _ hh h => h.of_heap hh) own started (by kernel_rfl) Tryd.func5
    (ChangeSpec.witness_shaped (enc := enc) (C := Tryd.checked) (os := os) (X := fun w _ => laidMetH Tryd.prog Rows.decMoreRow.laid w) false (World.laidAll Tryd.prog os Rows.decMoreRow.laid) #[.int .i64 0, .int .i64 0, .int .i64 0, .int .i64 0] 8 (World.laidAll_os _ _ _)
      (World.shaped_of_ZipB (by kernel_rfl) (by kernel_rfl)) (by kernel_rfl) (by kernel_rfl) (by kernel_rfl)
      (by rw [MakeChecks.laidMetH_plain _ _ _ (by kernel_rfl)]; exact laidMet_laidAll _ (by kernel_rfl) (by kernel_rfl))) ?_
  intro W base args ds gs before hval0 hW _ _ hL _
  have hval : ∀ (j : Nat) t v, Tryd.f5.params[j]? = some t → args[j]? = some v → Value.okWide Tryd.prog W .any base t v := hval0
  have hW' := hW
  obtain ⟨p, q, hA0, hV, rfl, hfz, hnd⟩ := hW
  have hA : DataW.TrodAll enc Tryd.prog W 0 (fun _ => true) true Tryd.f5.params.toList args.toList ds p := hA0
  rw [Tryd.params5] at hA hval
  obtain ⟨v0, vs0, d0, ds0, p0, q0, hargs, rfl, rfl, h0, r0⟩ := trodAll_cons hA
  obtain ⟨v1, vs1, d1, ds1, p1, q1, rfl, rfl, rfl, h1, r1⟩ := trodAll_cons r0
  obtain ⟨v2, vs2, d2, ds2, p2, q2, rfl, rfl, rfl, h2, r2⟩ := trodAll_cons r1
  obtain ⟨v3, vs3, d3, ds3, p3, q3, rfl, rfl, rfl, h3, r3⟩ := trodAll_cons r2
  obtain ⟨rfl, rfl, rfl⟩ := trodAll_nil r3
  obtain rfl : args = #[v0, v1, v2, v3] := by cases args; simp_all
  obtain ⟨rfl, rfl⟩ := trodVars_none hV
  obtain ⟨a0, rfl, rfl, rfl, w0⟩ := open_int Tryd.underlying3 (hval 0 3 v0 rfl rfl) h0
  obtain ⟨a1, rfl, rfl, rfl, w1⟩ := open_int Tryd.underlying3 (hval 1 3 v1 rfl rfl) h1
  obtain ⟨a2, rfl, rfl, rfl, w2⟩ := open_int Tryd.underlying3 (hval 2 3 v2 rfl rfl) h2
  obtain ⟨a3, rfl, rfl, rfl, w3⟩ := open_int Tryd.underlying3 (hval 3 3 v3 rfl rfl) h3
  clear hA0 hval0
  refine (walk a0 a1 a2 a3 W w0 w1 w2 w3 (table hL)).mono fun e W' ⟨he, bel⟩ => ?_
  subst he
  exact ⟨_, rfl, _, _, _, [], _, [], hW', trodAll_mk1 (shut_bool Tryd.underlying4 _), (trodAll_cons_mk (shut_int Tryd.underlying3 w0) (trodAll_cons_mk (shut_int Tryd.underlying3 w1) (trodAll_cons_mk (shut_int Tryd.underlying3 w2) (trodAll_cons_mk (shut_int Tryd.underlying3 w3) trodAll_mk0)))), rfl, bel.frame _, fun h => by cases h⟩

theorem row_holds : Rows.DecMoreSaid :=
  OpenClaim.holds_of_wide 5 Tryd.f5 rfl rfl rfl rfl rfl rfl rfl ⟨rfl, rfl, rfl, rfl, rfl⟩ rfl rfl rfl rfl rfl (by kernel_rfl) Tryd.func5 (by kernel_rfl)
    (of_decide_eq_true (by kernel_rfl)) (by unfold Func.isWrapper; first | (rw [if_pos (by decide +kernel)]; kernel_rfl) | (rw [if_neg (by decide +kernel)]; exact ⟨rfl, rfl⟩))
    (fun os started H enc _ => lifted os started H enc)

theorem decMore_holds : Rows.DecMoreCardSaid :=
  Claim7.holds_tied_plain_at .later [] _ _ _ _ row_holds (fun _ h => by cases h) (by kernel_rfl) (fun _ h => by cases h) decMore_row_tie rfl ⟨rfl, rfl⟩ (by kernel_rfl) rfl
    (fun f fn hf hfn => by
      obtain rfl : f = 5 := Option.some.inj ((show Tryd.prog.funcNamed "interlocutor/interlocutorlaw2.DecMore" = some 5 by kernel_rfl).symm.trans hf) |>.symm
      obtain rfl : fn = Tryd.f5 := (Option.some.inj (Tryd.func5.symm.trans hfn)).symm
      exact ⟨by kernel_rfl, fun j t ht => by
        rw [Tryd.params5] at ht
        have hm : t ∈ [3] := by simpa using Array.mem_of_getElem? ht
        have hall : ([3].all fun u => !Tryd.prog.wantsStandIn u) = true := by kernel_rfl
        exact (show Tryd.prog.wantsStandIn t = false by simpa using List.all_eq_true.1 hall t hm)⟩)
    (by kernel_rfl)

end Go.Proofs.YtoklknioeoodbabDoor
