/- CivilOrder answers true of every two ints: of two days of the years -10000 to 20000 civil.Days is less just where the one is earlier by year, month, day, and the same just where they are one day. No condition. -/
import Derived.Test.YtokigbdnihamiabRows
import Derived.Test.YtokigbdnihamiabAddMore
import Derived.ProofKit
import Derived.OpenShut
import Derived.Below
namespace Go.Proofs.Ytokigbdnihamiab
open Go.ChangeShapes Go.WideShapes Go.ChangeAt Go.RowKit

set_option maxHeartbeats 4000000 in
theorem walk (n n' : Int) (w : World) (w0 : (Lit.int .i64 n).wf = true) (w1 : (Lit.int .i64 n').wf = true) :
    Calls Try.prog 7 #[.int .i64 n, .int .i64 n'] w fun e w' => e = .returned (.bool true) ∧ Below w.heap.size w w' := by
  obtain ⟨n0, n1⟩ := bounds_i64 w0
  obtain ⟨n2, n3⟩ := bounds_i64 w1
  clear w0 w1
  have HK : Hid (∀ w, Calls Try.prog 8 #[] w fun e w' => e = .returned (.bool true) ∧ Below w.heap.size w w') := known_any
  have HY : Hid (∀ w, Calls Try.prog 9 #[.int .i64 n, .bool true] w fun e w' => e = .returned (.tuple #[.int .i64 (dayY n true), .int .i64 (dayM n), .int .i64 (dayD n true)]) ∧ w' = w) := fun w => day_any n true w n0 n1
  have HZ : Hid (∀ w, Calls Try.prog 9 #[.int .i64 n', .bool true] w fun e w' => e = .returned (.tuple #[.int .i64 (dayY n' true), .int .i64 (dayM n'), .int .i64 (dayD n' true)]) ∧ w' = w) := fun w => day_any n' true w n2 n3
  have hv := day_vld n true
  have hv' := day_vld n' true
  have hy := dayY_bd n true
  have hy' := dayY_bd n' true
  clear n0 n1 n2 n3
  generalize dayY n true = a at *
  generalize dayM n = b at *
  generalize dayD n true = c at *
  generalize dayY n' true = x at *
  generalize dayM n' = y at *
  generalize dayD n' true = z at *
  have H1 : Hid (∀ w, Calls Try.prog 15 #[.int .i64 a, .int .i64 b, .int .i64 c] w fun e w' => e = .returned (.int .i64 (Civ.num a b c)) ∧ Below w.heap.size w w') := fun w => days_in a b c w hv hy.1 hy.2
  have H2 : Hid (∀ w, Calls Try.prog 15 #[.int .i64 x, .int .i64 y, .int .i64 z] w fun e w' => e = .returned (.int .i64 (Civ.num x y z)) ∧ Below w.heap.size w w') := fun w => days_in x y z w hv' hy'.1 hy'.2
  have ho := Civ.num_order a b c x y z hv hv'
  have hi := Civ.num_inj a b c x y z hv hv'
  have he : a = x ∧ b = y ∧ c = z → Civ.num a b c = Civ.num x y z := by rintro ⟨rfl, rfl, rfl⟩; rfl
  clear hv hv' hy hy'
  generalize Civ.num a b c = p at *
  generalize Civ.num x y z = q at *
  have hcase : (a < x ∧ p < q) ∨ (a = x ∧ b < y ∧ p < q) ∨ (a = x ∧ b = y ∧ c < z ∧ p < q) ∨ (a = x ∧ b = y ∧ c = z ∧ p = q) ∨ (a = x ∧ b = y ∧ z < c ∧ q < p) ∨ (a = x ∧ y < b ∧ q < p) ∨ (x < a ∧ q < p) := by
    omega
  clear ho hi he
  rcases hcase with ⟨h1, h2⟩ | ⟨h0, h1, h2⟩ | ⟨h0, h0', h1, h2⟩ | ⟨h0, h0', h0'', h2⟩ | ⟨h0, h0', h1, h2⟩ | ⟨h0, h1, h2⟩ | ⟨h1, h2⟩
  · have e1 : (p == q) = false := beq_eq_false_iff_ne.2 (by omega)
    have e2 : (a == x) = false := beq_eq_false_iff_ne.2 (by omega)
    go_enter Try.func7, Try.ntmps7
    go_wp2_with fail
    refine (HK.out _).mono ?_
    rintro e w1 ⟨rfl, b1⟩
    go_wp2_with fail
    refine (HY.out _).mono ?_
    rintro e w2 ⟨rfl, rfl⟩
    go_wp2_with fail
    refine (HZ.out _).mono ?_
    rintro e w3 ⟨rfl, rfl⟩
    go_wp2_with fail
    refine (H1.out _).mono ?_
    rintro e w4 ⟨rfl, b4⟩
    go_wp2_with fail
    refine (H2.out _).mono ?_
    rintro e w5 ⟨rfl, b5⟩
    go_wp2
    go_ret
    exact ⟨rfl, (up_trans (up_trans b1 b4) b5)⟩
  · subst h0
    have e1 : (p == q) = false := beq_eq_false_iff_ne.2 (by omega)
    have e2 : (b == y) = false := beq_eq_false_iff_ne.2 (by omega)
    go_enter Try.func7, Try.ntmps7
    go_wp2_with fail
    refine (HK.out _).mono ?_
    rintro e w1 ⟨rfl, b1⟩
    go_wp2_with fail
    refine (HY.out _).mono ?_
    rintro e w2 ⟨rfl, rfl⟩
    go_wp2_with fail
    refine (HZ.out _).mono ?_
    rintro e w3 ⟨rfl, rfl⟩
    go_wp2_with fail
    refine (H1.out _).mono ?_
    rintro e w4 ⟨rfl, b4⟩
    go_wp2_with fail
    refine (H2.out _).mono ?_
    rintro e w5 ⟨rfl, b5⟩
    go_wp2
    go_ret
    exact ⟨rfl, (up_trans (up_trans b1 b4) b5)⟩
  · subst h0
    subst h0'
    have e1 : (p == q) = false := beq_eq_false_iff_ne.2 (by omega)
    have e2 : (c == z) = false := beq_eq_false_iff_ne.2 (by omega)
    go_enter Try.func7, Try.ntmps7
    go_wp2_with fail
    refine (HK.out _).mono ?_
    rintro e w1 ⟨rfl, b1⟩
    go_wp2_with fail
    refine (HY.out _).mono ?_
    rintro e w2 ⟨rfl, rfl⟩
    go_wp2_with fail
    refine (HZ.out _).mono ?_
    rintro e w3 ⟨rfl, rfl⟩
    go_wp2_with fail
    refine (H1.out _).mono ?_
    rintro e w4 ⟨rfl, b4⟩
    go_wp2_with fail
    refine (H2.out _).mono ?_
    rintro e w5 ⟨rfl, b5⟩
    go_wp2
    go_ret
    exact ⟨rfl, (up_trans (up_trans b1 b4) b5)⟩
  · subst h0
    subst h0'
    subst h0''
    subst h2
    go_enter Try.func7, Try.ntmps7
    go_wp2_with fail
    refine (HK.out _).mono ?_
    rintro e w1 ⟨rfl, b1⟩
    go_wp2_with fail
    refine (HY.out _).mono ?_
    rintro e w2 ⟨rfl, rfl⟩
    go_wp2_with fail
    refine (HZ.out _).mono ?_
    rintro e w3 ⟨rfl, rfl⟩
    go_wp2_with fail
    refine (H1.out _).mono ?_
    rintro e w4 ⟨rfl, b4⟩
    go_wp2_with fail
    refine (H2.out _).mono ?_
    rintro e w5 ⟨rfl, b5⟩
    go_wp2
    go_ret
    exact ⟨rfl, (up_trans (up_trans b1 b4) b5)⟩
  · subst h0
    subst h0'
    have e1 : (p == q) = false := beq_eq_false_iff_ne.2 (by omega)
    have e2 : (c == z) = false := beq_eq_false_iff_ne.2 (by omega)
    go_enter Try.func7, Try.ntmps7
    go_wp2_with fail
    refine (HK.out _).mono ?_
    rintro e w1 ⟨rfl, b1⟩
    go_wp2_with fail
    refine (HY.out _).mono ?_
    rintro e w2 ⟨rfl, rfl⟩
    go_wp2_with fail
    refine (HZ.out _).mono ?_
    rintro e w3 ⟨rfl, rfl⟩
    go_wp2_with fail
    refine (H1.out _).mono ?_
    rintro e w4 ⟨rfl, b4⟩
    go_wp2_with fail
    refine (H2.out _).mono ?_
    rintro e w5 ⟨rfl, b5⟩
    go_wp2
    go_ret
    exact ⟨rfl, (up_trans (up_trans b1 b4) b5)⟩
  · subst h0
    have e1 : (p == q) = false := beq_eq_false_iff_ne.2 (by omega)
    have e2 : (b == y) = false := beq_eq_false_iff_ne.2 (by omega)
    go_enter Try.func7, Try.ntmps7
    go_wp2_with fail
    refine (HK.out _).mono ?_
    rintro e w1 ⟨rfl, b1⟩
    go_wp2_with fail
    refine (HY.out _).mono ?_
    rintro e w2 ⟨rfl, rfl⟩
    go_wp2_with fail
    refine (HZ.out _).mono ?_
    rintro e w3 ⟨rfl, rfl⟩
    go_wp2_with fail
    refine (H1.out _).mono ?_
    rintro e w4 ⟨rfl, b4⟩
    go_wp2_with fail
    refine (H2.out _).mono ?_
    rintro e w5 ⟨rfl, b5⟩
    go_wp2
    go_ret
    exact ⟨rfl, (up_trans (up_trans b1 b4) b5)⟩
  · have e1 : (p == q) = false := beq_eq_false_iff_ne.2 (by omega)
    have e2 : (a == x) = false := beq_eq_false_iff_ne.2 (by omega)
    go_enter Try.func7, Try.ntmps7
    go_wp2_with fail
    refine (HK.out _).mono ?_
    rintro e w1 ⟨rfl, b1⟩
    go_wp2_with fail
    refine (HY.out _).mono ?_
    rintro e w2 ⟨rfl, rfl⟩
    go_wp2_with fail
    refine (HZ.out _).mono ?_
    rintro e w3 ⟨rfl, rfl⟩
    go_wp2_with fail
    refine (H1.out _).mono ?_
    rintro e w4 ⟨rfl, b4⟩
    go_wp2_with fail
    refine (H2.out _).mono ?_
    rintro e w5 ⟨rfl, b5⟩
    go_wp2
    go_ret
    exact ⟨rfl, (up_trans (up_trans b1 b4) b5)⟩

theorem own : ownKnob Try.prog.godebug = none := by kernel_rfl

set_option maxRecDepth 100000 in
theorem lifted (os : Os) (started : os.Started) (H : Type) (enc : TypeId × Value → H) :
    ReturnsInHanded {} Try.checked os 7 .any (Rows.civilOrderSpec.pre6 enc Try.prog Try.f7 Rows.civilOrderRow.domain false) (Rows.civilOrderSpec.post enc Try.prog Try.f7 false true false false) := by
  refine returnsInHanded_of_change (C := Try.checked) own started (by kernel_rfl) Try.func7
    (ChangeSpec.witness6 (enc := enc) (C := Try.checked) false ⟨#[], #[.int .i64 0, .int .i64 0], []⟩ 8 (by kernel_rfl) (by kernel_rfl) (by kernel_rfl) (by kernel_rfl)) ?_
  intro W base args ds gs before hval0 hW hcnd _
  have hval : ∀ (j : Nat) t v, Try.f7.params[j]? = some t → args[j]? = some v → Value.okWide Try.prog W .any base t v := hval0
  have hW' := hW
  obtain ⟨p, q, hA0, hV, rfl, hfz, hnd⟩ := hW
  have hA : DataW.TrodAll enc Try.prog W 0 (fun _ => true) true Try.f7.params.toList args.toList ds p := hA0
  rw [Try.params7] at hA hval
  obtain ⟨v0, vs0, d0, ds0, p0, q0, hargs, rfl, rfl, h0, r0⟩ := trodAll_cons hA
  obtain ⟨v1, vs1, d1, ds1, p1, q1, rfl, rfl, rfl, h1, r1⟩ := trodAll_cons r0
  obtain ⟨rfl, rfl, rfl⟩ := trodAll_nil r1
  obtain rfl : args = #[v0, v1] := by cases args; simp_all
  obtain ⟨rfl, rfl⟩ := trodVars_none hV
  obtain ⟨a0, rfl, rfl, rfl, w0⟩ := open_int Try.underlying3 (hval 0 3 v0 rfl rfl) h0
  obtain ⟨a1, rfl, rfl, rfl, w1⟩ := open_int Try.underlying3 (hval 1 3 v1 rfl rfl) h1
  clear hA0 hval0
  refine (walk a0 a1 W w0 w1).mono fun e W' ⟨he, bel⟩ => ?_
  subst he
  exact ⟨_, rfl, _, _, _, [], _, [], hW', trodAll_mk1 (shut_bool Try.underlying4 _), (trodAll_cons_mk (shut_int Try.underlying3 w0) (trodAll_cons_mk (shut_int Try.underlying3 w1) trodAll_mk0)), rfl, bel.frame _, fun h => by cases h⟩

theorem civilOrder_holds : Rows.CivilOrderSaid :=
  OpenClaim.holds_of_wide 7 Try.f7 rfl rfl rfl rfl rfl rfl rfl ⟨rfl, rfl, rfl, rfl, rfl⟩ rfl rfl rfl rfl rfl (by kernel_rfl) Try.func7 (by kernel_rfl)
    (of_decide_eq_true (by kernel_rfl)) (by unfold Func.isWrapper; first | (rw [if_pos (by decide +kernel)]; kernel_rfl) | (rw [if_neg (by decide +kernel)]; exact ⟨rfl, rfl⟩))
    (fun os started H enc _ => lifted os started H enc)

end Go.Proofs.Ytokigbdnihamiab
