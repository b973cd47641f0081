/- CivilMonths answers true of every two ints: up to 599 months on and back by civil.Add is the same day where the day is the 28th at most and the way ends among the years 1 to 9999. No condition. -/
import Derived.Test.YtokigbdnihamiabRows
import Derived.Test.YtokigbdnihamiabAddMore
import Derived.ProofKit
import Derived.OpenShut
import Derived.Below
namespace Go.Proofs.Ytokigbdnihamiab
open Go.ChangeShapes Go.WideShapes Go.ChangeAt Go.RowKit

set_option maxHeartbeats 1000000 in
theorem walk (n k0 : Int) (w : World) (w0 : (Lit.int .i64 n).wf = true) (_w1 : (Lit.int .i64 k0).wf = true) :
    Calls Try.prog 3 #[.int .i64 n, .int .i64 k0] w fun e w' => e = .returned (.bool true) ∧ Below w.heap.size w w' := by
  obtain ⟨n0, n1⟩ := bounds_i64 w0
  clear w0 _w1
  have HK : Hid (∀ w, Calls Try.prog 8 #[] w fun e w' => e = .returned (.bool true) ∧ Below w.heap.size w w') := known_any
  have HY : Hid (∀ w, Calls Try.prog 9 #[.int .i64 n, .bool false] w fun e w' => e = .returned (.tuple #[.int .i64 (dayY n false), .int .i64 (dayM n), .int .i64 (dayD n false)]) ∧ w' = w) := fun w => day_any n false w n0 n1
  have HW : Hid (∀ w, Calls Try.prog 10 #[.int .i64 k0, .int .i64 600] w fun e w' => e = .returned (.int .i64 (k0 % 600)) ∧ w' = w) := fun w => lwithin_any k0 600 w (by omega) (by omega)
  have hj : 0 ≤ k0 % 600 ∧ k0 % 600 < 600 := by omega
  have hv := day_vld n false
  have hy := dayY_narrow n
  clear n0 n1
  generalize k0 % 600 = k at *
  generalize dayY n false = y at *
  generalize dayM n = m at *
  generalize dayD n false = d at *
  obtain ⟨v1, v2, v3, v4⟩ := (Civ.vld_iff _ _ _).1 hv
  have hl := len_le y m
  have ha := add_months y m d k hv hy.1 hy.2 (by omega) (by omega)
  have hA := fun w => add_any y m d k 0 w hv hy.1 hy.2
  rw [ha] at hA
  obtain ⟨o1, o2, o3, o4⟩ := on_bd y m d k hv hy.1 hy.2 (by omega) (by omega)
  cases hb : inB (onY y m k) 1 9999
  · rw [hb] at hA
    have HA : Hid (∀ w, Calls Try.prog 11 #[.int .i64 y, .int .i64 m, .int .i64 d, .int .i64 k, .int .i64 0] w fun e w' => e = .returned (.tuple #[.int .i64 0, .int .i64 0, .int .i64 0, .bool false]) ∧ Below w.heap.size w w') := hA
    clear hA ha hb o1 o2 o3 o4 hv
    go_enter Try.func3, Try.ntmps3
    go_wp2_with fail
    refine (HK.out _).mono ?_
    rintro e w1 ⟨rfl, b1⟩
    go_wp2_with fail
    refine (HY.out _).mono ?_
    rintro e w2 ⟨rfl, rfl⟩
    go_wp2_with fail
    refine (HW.out _).mono ?_
    rintro e w3 ⟨rfl, rfl⟩
    go_wp2_with fail
    refine (HA.out _).mono ?_
    rintro e w4 ⟨rfl, b4⟩
    go_wp2
    go_ret
    exact ⟨rfl, (up_trans b1 b4)⟩
  · rw [hb] at hA
    have HA : Hid (∀ w, Calls Try.prog 11 #[.int .i64 y, .int .i64 m, .int .i64 d, .int .i64 k, .int .i64 0] w fun e w' => e = .returned (.tuple #[.int .i64 (onY y m k), .int .i64 (onM y m k), .int .i64 (onD y m d k), .bool true]) ∧ Below w.heap.size w w') := hA
    clear hA ha
    by_cases hd : 28 < d
    · clear hb o1 o2 o3 o4 hv
      go_enter Try.func3, Try.ntmps3
      go_wp2_with fail
      refine (HK.out _).mono ?_
      rintro e w1 ⟨rfl, b1⟩
      go_wp2_with fail
      refine (HY.out _).mono ?_
      rintro e w2 ⟨rfl, rfl⟩
      go_wp2_with fail
      refine (HW.out _).mono ?_
      rintro e w3 ⟨rfl, rfl⟩
      go_wp2_with fail
      refine (HA.out _).mono ?_
      rintro e w4 ⟨rfl, b4⟩
      go_wp2
      go_ret
      exact ⟨rfl, (up_trans b1 b4)⟩
    · have eD : onD y m d k = d := by have := len_le (onY y m k) (onM y m k); unfold onD; split <;> omega
      rw [eD] at HA o4
      obtain ⟨q0, q1⟩ := inB_iff.1 hb
      obtain ⟨e1, e2⟩ := on_back y m k v1 v2
      have e12 : 12 * onY y m k + onM y m k = 12 * y + m + k := by unfold onM; omega
      have e3 : onD (onY y m k) (onM y m k) d (-k) = d := by unfold onD; rw [e1, e2]; split <;> omega
      have hB := fun w => add_any (onY y m k) (onM y m k) d (-k) 0 w o4 q0 q1
      rw [add_months (onY y m k) (onM y m k) d (-k) o4 q0 q1 (by omega) (by omega), e1, e2, e3, inB_true hy.1 hy.2] at hB
      have HB : Hid (∀ w, Calls Try.prog 11 #[.int .i64 (onY y m k), .int .i64 (onM y m k), .int .i64 d, .int .i64 (-k), .int .i64 0] w fun e w' => e = .returned (.tuple #[.int .i64 y, .int .i64 m, .int .i64 d, .bool true]) ∧ Below w.heap.size w w') := hB
      clear hB hb o3 o4 hv e1 e2 e3 eD
      generalize onY y m k = a at *
      generalize onM y m k = b at *
      have E := hid e12
      clear e12
      go_enter Try.func3, Try.ntmps3
      go_wp2_with fail
      refine (HK.out _).mono ?_
      rintro e w1 ⟨rfl, b1⟩
      go_wp2_with fail
      refine (HY.out _).mono ?_
      rintro e w2 ⟨rfl, rfl⟩
      go_wp2_with fail
      refine (HW.out _).mono ?_
      rintro e w3 ⟨rfl, rfl⟩
      go_wp2_with fail
      refine (HA.out _).mono ?_
      rintro e w4 ⟨rfl, b4⟩
      go_wp2_with fail
      refine (HB.out _).mono ?_
      rintro e w5 ⟨rfl, b5⟩
      go_wp2
      go_ret
      exact ⟨ret_bool (beq_iff_eq.2 E.out), (up_trans (up_trans b1 b4) b5)⟩

theorem own : ownKnob Try.prog.godebug = none := by kernel_rfl

set_option maxRecDepth 100000 in
theorem lifted (os : Os) (started : os.Started) (H : Type) (enc : TypeId × Value → H) :
    ReturnsInHanded {} Try.checked os 3 .any (Rows.civilMonthsSpec.pre6 enc Try.prog Try.f3 Rows.civilMonthsRow.domain false) (Rows.civilMonthsSpec.post enc Try.prog Try.f3 false true false false) := by
  refine returnsInHanded_of_change (C := Try.checked) own started (by kernel_rfl) Try.func3
    (ChangeSpec.witness6 (enc := enc) (C := Try.checked) false ⟨#[], #[.int .i64 0, .int .i64 0], []⟩ 8 (by kernel_rfl) (by kernel_rfl) (by kernel_rfl) (by kernel_rfl)) ?_
  intro W base args ds gs before hval0 hW hcnd _
  have hval : ∀ (j : Nat) t v, Try.f3.params[j]? = some t → args[j]? = some v → Value.okWide Try.prog W .any base t v := hval0
  have hW' := hW
  obtain ⟨p, q, hA0, hV, rfl, hfz, hnd⟩ := hW
  have hA : DataW.TrodAll enc Try.prog W 0 (fun _ => true) true Try.f3.params.toList args.toList ds p := hA0
  rw [Try.params3] at hA hval
  obtain ⟨v0, vs0, d0, ds0, p0, q0, hargs, rfl, rfl, h0, r0⟩ := trodAll_cons hA
  obtain ⟨v1, vs1, d1, ds1, p1, q1, rfl, rfl, rfl, h1, r1⟩ := trodAll_cons r0
  obtain ⟨rfl, rfl, rfl⟩ := trodAll_nil r1
  obtain rfl : args = #[v0, v1] := by cases args; simp_all
  obtain ⟨rfl, rfl⟩ := trodVars_none hV
  obtain ⟨a0, rfl, rfl, rfl, w0⟩ := open_int Try.underlying3 (hval 0 3 v0 rfl rfl) h0
  obtain ⟨a1, rfl, rfl, rfl, w1⟩ := open_int Try.underlying3 (hval 1 3 v1 rfl rfl) h1
  clear hA0 hval0
  refine (walk a0 a1 W w0 w1).mono fun e W' ⟨he, bel⟩ => ?_
  subst he
  exact ⟨_, rfl, _, _, _, [], _, [], hW', trodAll_mk1 (shut_bool Try.underlying4 _), (trodAll_cons_mk (shut_int Try.underlying3 w0) (trodAll_cons_mk (shut_int Try.underlying3 w1) trodAll_mk0)), rfl, bel.frame _, fun h => by cases h⟩

theorem civilMonths_holds : Rows.CivilMonthsSaid :=
  OpenClaim.holds_of_wide 3 Try.f3 rfl rfl rfl rfl rfl rfl rfl ⟨rfl, rfl, rfl, rfl, rfl⟩ rfl rfl rfl rfl rfl (by kernel_rfl) Try.func3 (by kernel_rfl)
    (of_decide_eq_true (by kernel_rfl)) (by unfold Func.isWrapper; first | (rw [if_pos (by decide +kernel)]; kernel_rfl) | (rw [if_neg (by decide +kernel)]; exact ⟨rfl, rfl⟩))
    (fun os started H enc _ => lifted os started H enc)

end Go.Proofs.Ytokigbdnihamiab
