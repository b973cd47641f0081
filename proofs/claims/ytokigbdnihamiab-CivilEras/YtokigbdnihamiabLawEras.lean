/- CivilEras answers true of every two ints: four hundred years on, up to nineteen times, civil.Days of a day is 146097 more each time and civil.Weekday is the same. No condition. -/
import Derived.Test.YtokigbdnihamiabRows
import Derived.Test.YtokigbdnihamiabAddMore
import Derived.ProofKit
import Derived.OpenShut
import Derived.Below
namespace Go.Proofs.Ytokigbdnihamiab
open Go.ChangeShapes Go.WideShapes Go.ChangeAt Go.RowKit

set_option maxHeartbeats 1000000 in
theorem walk (n k : Int) (w : World) (w0 : (Lit.int .i64 n).wf = true) (_w1 : (Lit.int .i64 k).wf = true) :
    Calls Try.prog 6 #[.int .i64 n, .int .i64 k] w fun e w' => e = .returned (.bool true) ∧ Below w.heap.size w w' := by
  obtain ⟨n0, n1⟩ := bounds_i64 w0
  clear w0 _w1
  have HK : Hid (∀ w, Calls Try.prog 8 #[] w fun e w' => e = .returned (.bool true) ∧ Below w.heap.size w w') := known_any
  have HY : Hid (∀ w, Calls Try.prog 9 #[.int .i64 n, .bool false] w fun e w' => e = .returned (.tuple #[.int .i64 (dayY n false), .int .i64 (dayM n), .int .i64 (dayD n false)]) ∧ w' = w) := fun w => day_any n false w n0 n1
  have HW : Hid (∀ w, Calls Try.prog 10 #[.int .i64 k, .int .i64 20] w fun e w' => e = .returned (.int .i64 (k % 20)) ∧ w' = w) := fun w => lwithin_any k 20 w (by omega) (by omega)
  have hj : 0 ≤ k % 20 ∧ k % 20 < 20 := by omega
  have hv := day_vld n false
  have hy := dayY_narrow n
  clear n0 n1
  generalize k % 20 = j at *
  generalize dayY n false = y at *
  generalize dayM n = m at *
  generalize dayD n false = d at *
  obtain ⟨v1, v2, v3, v4⟩ := (Civ.vld_iff _ _ _).1 hv
  have hl := len_le y m
  have nb := num_bd y m d (by omega) (by omega) v1 v2 v3 (by omega)
  have H1 : Hid (∀ w, Calls Try.prog 15 #[.int .i64 (y + 400 * j), .int .i64 m, .int .i64 d] w fun e w' => e = .returned (.int .i64 (Civ.num y m d + 146097 * j)) ∧ Below w.heap.size w w') := fun w => by
    rw [← era_num]; exact days_in _ m d w (by rw [era_vld]; exact hv) (by omega) (by omega)
  have H2 : Hid (∀ w, Calls Try.prog 15 #[.int .i64 y, .int .i64 m, .int .i64 d] w fun e w' => e = .returned (.int .i64 (Civ.num y m d)) ∧ Below w.heap.size w w') := fun w => days_in y m d w hv (by omega) (by omega)
  have H3 : Hid (∀ w, Calls Try.prog 16 #[.int .i64 (y + 400 * j), .int .i64 m, .int .i64 d] w fun e w' => e = .returned (.int .i64 ((Civ.num y m d + 3) % 7)) ∧ Below w.heap.size w w') := fun w => by
    have := wday_in (y + 400 * j) m d w (by rw [era_vld]; exact hv) (by omega) (by omega)
    rw [era_num, show (Civ.num y m d + 146097 * j + 3) % 7 = (Civ.num y m d + 3) % 7 by omega] at this
    exact this
  have H4 : Hid (∀ w, Calls Try.prog 16 #[.int .i64 y, .int .i64 m, .int .i64 d] w fun e w' => e = .returned (.int .i64 ((Civ.num y m d + 3) % 7)) ∧ Below w.heap.size w w') := fun w => wday_in y m d w hv (by omega) (by omega)
  generalize (Civ.num y m d + 3) % 7 = wd at *
  generalize Civ.num y m d = q at *
  clear hv v1 v2 v3 v4 hl
  go_enter Try.func6, Try.ntmps6
  go_wp2_with fail
  refine (HK.out _).mono ?_
  rintro e w1 ⟨rfl, b1⟩
  go_wp2_with fail
  refine (HY.out _).mono ?_
  rintro e w2 ⟨rfl, rfl⟩
  go_wp2_with fail
  refine (HW.out _).mono ?_
  rintro e w2 ⟨rfl, rfl⟩
  go_wp2_with fail
  refine (H1.out _).mono ?_
  rintro e w3 ⟨rfl, b3⟩
  go_wp2_with fail
  refine (H2.out _).mono ?_
  rintro e w4 ⟨rfl, b4⟩
  go_wp2_with fail
  refine (H3.out _).mono ?_
  rintro e w5 ⟨rfl, b5⟩
  go_wp2_with fail
  refine (H4.out _).mono ?_
  rintro e w6 ⟨rfl, b6⟩
  go_wp2
  go_ret
  exact ⟨rfl, up_trans (up_trans (up_trans (up_trans b1 b3) b4) b5) b6⟩

theorem own : ownKnob Try.prog.godebug = none := by kernel_rfl

set_option maxRecDepth 100000 in
theorem lifted (os : Os) (started : os.Started) (H : Type) (enc : TypeId × Value → H) :
    ReturnsInHanded {} Try.checked os 6 .any (Rows.civilErasSpec.pre6 enc Try.prog Try.f6 Rows.civilErasRow.domain false) (Rows.civilErasSpec.post enc Try.prog Try.f6 false true false false) := by
  refine returnsInHanded_of_change (C := Try.checked) own started (by kernel_rfl) Try.func6
    (ChangeSpec.witness6 (enc := enc) (C := Try.checked) false ⟨#[], #[.int .i64 0, .int .i64 0], []⟩ 8 (by kernel_rfl) (by kernel_rfl) (by kernel_rfl) (by kernel_rfl)) ?_
  intro W base args ds gs before hval0 hW hcnd _
  have hval : ∀ (j : Nat) t v, Try.f6.params[j]? = some t → args[j]? = some v → Value.okWide Try.prog W .any base t v := hval0
  have hW' := hW
  obtain ⟨p, q, hA0, hV, rfl, hfz, hnd⟩ := hW
  have hA : DataW.TrodAll enc Try.prog W 0 (fun _ => true) true Try.f6.params.toList args.toList ds p := hA0
  rw [Try.params6] at hA hval
  obtain ⟨v0, vs0, d0, ds0, p0, q0, hargs, rfl, rfl, h0, r0⟩ := trodAll_cons hA
  obtain ⟨v1, vs1, d1, ds1, p1, q1, rfl, rfl, rfl, h1, r1⟩ := trodAll_cons r0
  obtain ⟨rfl, rfl, rfl⟩ := trodAll_nil r1
  obtain rfl : args = #[v0, v1] := by cases args; simp_all
  obtain ⟨rfl, rfl⟩ := trodVars_none hV
  obtain ⟨a0, rfl, rfl, rfl, w0⟩ := open_int Try.underlying3 (hval 0 3 v0 rfl rfl) h0
  obtain ⟨a1, rfl, rfl, rfl, w1⟩ := open_int Try.underlying3 (hval 1 3 v1 rfl rfl) h1
  clear hA0 hval0
  refine (walk a0 a1 W w0 w1).mono fun e W' ⟨he, bel⟩ => ?_
  subst he
  exact ⟨_, rfl, _, _, _, [], _, [], hW', trodAll_mk1 (shut_bool Try.underlying4 _), (trodAll_cons_mk (shut_int Try.underlying3 w0) (trodAll_cons_mk (shut_int Try.underlying3 w1) trodAll_mk0)), rfl, bel.frame _, fun h => by cases h⟩

theorem civilEras_holds : Rows.CivilErasSaid :=
  OpenClaim.holds_of_wide 6 Try.f6 rfl rfl rfl rfl rfl rfl rfl ⟨rfl, rfl, rfl, rfl, rfl⟩ rfl rfl rfl rfl rfl (by kernel_rfl) Try.func6 (by kernel_rfl)
    (of_decide_eq_true (by kernel_rfl)) (by unfold Func.isWrapper; first | (rw [if_pos (by decide +kernel)]; kernel_rfl) | (rw [if_neg (by decide +kernel)]; exact ⟨rfl, rfl⟩))
    (fun os started H enc _ => lifted os started H enc)

end Go.Proofs.Ytokigbdnihamiab
