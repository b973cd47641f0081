/- CivilEnds answers true of every two ints: up to ninety-nine months on from a month's last day civil.Add tells the earlier of that day and the last one of the month that is come to, where there is one among the years 1 to 9999. No condition. -/
import Derived.Test.YtokigbdnihamiabRows
import Derived.Test.YtokigbdnihamiabAddMore
import Derived.ProofKit
import Derived.OpenShut
import Derived.Below
namespace Go.Proofs.Ytokigbdnihamiab
open Go.ChangeShapes Go.WideShapes Go.ChangeAt Go.RowKit

theorem last_vld (y m : Int) (h1 : 1 ≤ m) (h2 : m ≤ 12) : Civ.vld y m (Civ.len y m) = true :=
  (Civ.vld_iff _ _ _).2 ⟨h1, h2, by have := len_le y m; omega, by omega⟩

set_option maxHeartbeats 1000000 in
theorem walk (n k0 : Int) (w : World) (w0 : (Lit.int .i64 n).wf = true) (_w1 : (Lit.int .i64 k0).wf = true) :
    Calls Try.prog 5 #[.int .i64 n, .int .i64 k0] w fun e w' => e = .returned (.bool true) ∧ Below w.heap.size w w' := by
  obtain ⟨n0, n1⟩ := bounds_i64 w0
  clear w0 _w1
  have HK : Hid (∀ w, Calls Try.prog 8 #[] w fun e w' => e = .returned (.bool true) ∧ Below w.heap.size w w') := known_any
  have HY : Hid (∀ w, Calls Try.prog 9 #[.int .i64 n, .bool false] w fun e w' => e = .returned (.tuple #[.int .i64 (dayY n false), .int .i64 (dayM n), .int .i64 (dayD n false)]) ∧ w' = w) := fun w => day_any n false w n0 n1
  have HW : Hid (∀ w, Calls Try.prog 10 #[.int .i64 k0, .int .i64 100] w fun e w' => e = .returned (.int .i64 (k0 % 100)) ∧ w' = w) := fun w => lwithin_any k0 100 w (by omega) (by omega)
  have hj : 0 ≤ k0 % 100 ∧ k0 % 100 < 100 := by omega
  have hv0 := day_vld n false
  have hy := dayY_narrow n
  clear n0 n1
  generalize k0 % 100 = k at *
  generalize dayY n false = y at *
  generalize dayM n = m at *
  generalize dayD n false = d0 at *
  obtain ⟨v1, v2, v3, v4⟩ := (Civ.vld_iff _ _ _).1 hv0
  have hv := last_vld y m v1 v2
  have HL : Hid (∀ w, Calls Try.prog 13 #[.int .i64 y, .int .i64 m] w fun e w' => e = .returned (.int .i64 (Civ.len y m)) ∧ w' = w) := fun w => rlen_any y m w
  have hl := len_le y m
  have hA := fun w => add_any y m (Civ.len y m) k 0 w hv hy.1 hy.2
  rw [add_months y m (Civ.len y m) k hv hy.1 hy.2 (by omega) (by omega)] at hA
  obtain ⟨o1, o2, o3, o4⟩ := on_bd y m (Civ.len y m) k hv hy.1 hy.2 (by omega) (by omega)
  cases hb : inB (onY y m k) 1 9999
  · rw [hb] at hA
    have HA : Hid (∀ w, Calls Try.prog 11 #[.int .i64 y, .int .i64 m, .int .i64 (Civ.len y m), .int .i64 k, .int .i64 0] w fun e w' => e = .returned (.tuple #[.int .i64 0, .int .i64 0, .int .i64 0, .bool false]) ∧ Below w.heap.size w w') := hA
    clear hA hb o1 o2 o3 o4 hv hv0 v3 v4
    go_enter Try.func5, Try.ntmps5
    go_wp2_with fail
    refine (HK.out _).mono ?_
    rintro e w1 ⟨rfl, b1⟩
    go_wp2_with fail
    refine (HY.out _).mono ?_
    rintro e w2 ⟨rfl, rfl⟩
    go_wp2_with fail
    refine (HL.out _).mono ?_
    rintro e w3 ⟨rfl, rfl⟩
    go_wp2_with fail
    refine (HW.out _).mono ?_
    rintro e w4 ⟨rfl, rfl⟩
    go_wp2_with fail
    refine (HA.out _).mono ?_
    rintro e w5 ⟨rfl, b5⟩
    go_wp2
    go_ret
    exact ⟨rfl, (up_trans b1 b5)⟩
  · rw [hb] at hA
    have HA : Hid (∀ w, Calls Try.prog 11 #[.int .i64 y, .int .i64 m, .int .i64 (Civ.len y m), .int .i64 k, .int .i64 0] w fun e w' => e = .returned (.tuple #[.int .i64 (onY y m k), .int .i64 (onM y m k), .int .i64 (onD y m (Civ.len y m) k), .bool true]) ∧ Below w.heap.size w w') := hA
    obtain ⟨q0, q1⟩ := inB_iff.1 hb
    have HC : Hid (∀ w, Calls Try.prog 14 #[.int .i64 (onY y m k), .int .i64 (onM y m k)] w fun e w' => e = .returned (.int .i64 (Civ.len (onY y m k) (onM y m k))) ∧ w' = w) := fun w => length_in _ _ w (by omega) (by omega) o2.1 o2.2
    have hD : (Civ.len (onY y m k) (onM y m k) < Civ.len y m ∧ onD y m (Civ.len y m) k = Civ.len (onY y m k) (onM y m k)) ∨ (¬ Civ.len (onY y m k) (onM y m k) < Civ.len y m ∧ onD y m (Civ.len y m) k = Civ.len y m) := by
      unfold onD; split
      · exact Or.inl ⟨‹_›, rfl⟩
      · exact Or.inr ⟨‹_›, rfl⟩
    clear hA hb o1 o2 o3 o4 hv hv0 v3 v4 q0 q1
    generalize Civ.len (onY y m k) (onM y m k) = l2 at *
    generalize onY y m k = a at *
    generalize onM y m k = b at *
    rcases hD with ⟨hD, eD⟩ | ⟨hD, eD⟩
    all_goals
      rw [eD] at HA
      clear eD
      go_enter Try.func5, Try.ntmps5
      go_wp2_with fail
      refine (HK.out _).mono ?_
      rintro e w1 ⟨rfl, b1⟩
      go_wp2_with fail
      refine (HY.out _).mono ?_
      rintro e w2 ⟨rfl, rfl⟩
      go_wp2_with fail
      refine (HL.out _).mono ?_
      rintro e w3 ⟨rfl, rfl⟩
      go_wp2_with fail
      refine (HW.out _).mono ?_
      rintro e w4 ⟨rfl, rfl⟩
      go_wp2_with fail
      refine (HA.out _).mono ?_
      rintro e w5 ⟨rfl, b5⟩
      go_wp2_with fail
      refine (HC.out _).mono ?_
      rintro e w6 ⟨rfl, rfl⟩
      go_wp2
      go_ret
      exact ⟨ret_bool (by first | rfl | (simp; omega)), (up_trans b1 b5)⟩

theorem own : ownKnob Try.prog.godebug = none := by kernel_rfl

set_option maxRecDepth 100000 in
theorem lifted (os : Os) (started : os.Started) (H : Type) (enc : TypeId × Value → H) :
    ReturnsInHanded {} Try.checked os 5 .any (Rows.civilEndsSpec.pre6 enc Try.prog Try.f5 Rows.civilEndsRow.domain false) (Rows.civilEndsSpec.post enc Try.prog Try.f5 false true false false) := by
  refine returnsInHanded_of_change (C := Try.checked) own started (by kernel_rfl) Try.func5
    (ChangeSpec.witness6 (enc := enc) (C := Try.checked) false ⟨#[], #[.int .i64 0, .int .i64 0], []⟩ 8 (by kernel_rfl) (by kernel_rfl) (by kernel_rfl) (by kernel_rfl)) ?_
  intro W base args ds gs before hval0 hW hcnd _
  have hval : ∀ (j : Nat) t v, Try.f5.params[j]? = some t → args[j]? = some v → Value.okWide Try.prog W .any base t v := hval0
  have hW' := hW
  obtain ⟨p, q, hA0, hV, rfl, hfz, hnd⟩ := hW
  have hA : DataW.TrodAll enc Try.prog W 0 (fun _ => true) true Try.f5.params.toList args.toList ds p := hA0
  rw [Try.params5] at hA hval
  obtain ⟨v0, vs0, d0, ds0, p0, q0, hargs, rfl, rfl, h0, r0⟩ := trodAll_cons hA
  obtain ⟨v1, vs1, d1, ds1, p1, q1, rfl, rfl, rfl, h1, r1⟩ := trodAll_cons r0
  obtain ⟨rfl, rfl, rfl⟩ := trodAll_nil r1
  obtain rfl : args = #[v0, v1] := by cases args; simp_all
  obtain ⟨rfl, rfl⟩ := trodVars_none hV
  obtain ⟨a0, rfl, rfl, rfl, w0⟩ := open_int Try.underlying3 (hval 0 3 v0 rfl rfl) h0
  obtain ⟨a1, rfl, rfl, rfl, w1⟩ := open_int Try.underlying3 (hval 1 3 v1 rfl rfl) h1
  clear hA0 hval0
  refine (walk a0 a1 W w0 w1).mono fun e W' ⟨he, bel⟩ => ?_
  subst he
  exact ⟨_, rfl, _, _, _, [], _, [], hW', trodAll_mk1 (shut_bool Try.underlying4 _), (trodAll_cons_mk (shut_int Try.underlying3 w0) (trodAll_cons_mk (shut_int Try.underlying3 w1) trodAll_mk0)), rfl, bel.frame _, fun h => by cases h⟩

theorem civilEnds_holds : Rows.CivilEndsSaid :=
  OpenClaim.holds_of_wide 5 Try.f5 rfl rfl rfl rfl rfl rfl rfl ⟨rfl, rfl, rfl, rfl, rfl⟩ rfl rfl rfl rfl rfl (by kernel_rfl) Try.func5 (by kernel_rfl)
    (of_decide_eq_true (by kernel_rfl)) (by unfold Func.isWrapper; first | (rw [if_pos (by decide +kernel)]; kernel_rfl) | (rw [if_neg (by decide +kernel)]; exact ⟨rfl, rfl⟩))
    (fun os started H enc _ => lifted os started H enc)

end Go.Proofs.Ytokigbdnihamiab
