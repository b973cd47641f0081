/- CivilDaysOn answers true of every two ints: up to fifty thousand days on by civil.Add, either way, are so many in number, and back is the same day; where there is no day on the number is outside the years 1 to 9999. No condition. -/
import Derived.Test.YtokigbdnihamiabRows
import Derived.Test.YtokigbdnihamiabAddMore
import Derived.ProofKit
import Derived.OpenShut
import Derived.Below
namespace Go.Proofs.Ytokigbdnihamiab
open Go.ChangeShapes Go.WideShapes Go.ChangeAt Go.RowKit

theorem below_first (k : Int) (h : Civ.cY k < 1) : k < Civ.num 1 1 1 := by
  obtain ⟨e, v⟩ := Civ.of_num k
  have := Civ.num_lt _ _ _ 1 1 1 v (by decide) (Or.inl h)
  omega
theorem above_last (k : Int) (h : 9999 < Civ.cY k) : Civ.num 9999 12 31 < k := by
  obtain ⟨e, v⟩ := Civ.of_num k
  have := Civ.num_lt 9999 12 31 _ _ _ (by decide) v (Or.inl h)
  omega
theorem num_111 : Civ.num 1 1 1 = -719162 := by decide
theorem num_last : Civ.num 9999 12 31 = 2932896 := by decide

set_option maxHeartbeats 1000000 in
theorem walk (n k0 : Int) (w : World) (w0 : (Lit.int .i64 n).wf = true) (_w1 : (Lit.int .i64 k0).wf = true) :
    Calls Try.prog 4 #[.int .i64 n, .int .i64 k0] w fun e w' => e = .returned (.bool true) ∧ Below w.heap.size w w' := by
  obtain ⟨n0, n1⟩ := bounds_i64 w0
  clear w0 _w1
  have HK : Hid (∀ w, Calls Try.prog 8 #[] w fun e w' => e = .returned (.bool true) ∧ Below w.heap.size w w') := known_any
  have HY : Hid (∀ w, Calls Try.prog 9 #[.int .i64 n, .bool false] w fun e w' => e = .returned (.tuple #[.int .i64 (dayY n false), .int .i64 (dayM n), .int .i64 (dayD n false)]) ∧ w' = w) := fun w => day_any n false w n0 n1
  have HW : Hid (∀ w, Calls Try.prog 10 #[.int .i64 k0, .int .i64 100000] w fun e w' => e = .returned (.int .i64 (k0 % 100000)) ∧ w' = w) := fun w => lwithin_any k0 100000 w (by omega) (by omega)
  have hj : 0 ≤ k0 % 100000 ∧ k0 % 100000 < 100000 := by omega
  have hv := day_vld n false
  have hy := dayY_narrow n
  clear n0 n1
  generalize k0 % 100000 = r at *
  generalize dayY n false = y at *
  generalize dayM n = m at *
  generalize dayD n false = d at *
  obtain ⟨v1, v2, v3, v4⟩ := (Civ.vld_iff _ _ _).1 hv
  have hl := len_le y m
  have nb := num_bd y m d (by omega) (by omega) v1 v2 v3 (by omega)
  have HR : Hid (∀ w, Calls Try.prog 12 #[.int .i64 y, .int .i64 m, .int .i64 d] w fun e w' => e = .returned (.int .i64 (Civ.num y m d)) ∧ w' = w) := fun w => rdays_any y m d w (by omega) (by omega) v1 v2 v3 (by omega)
  have HF : Hid (∀ w, Calls Try.prog 12 #[.int .i64 1, .int .i64 1, .int .i64 1] w fun e w' => e = .returned (.int .i64 (-719162)) ∧ w' = w) := fun w => rdays_any 1 1 1 w (by omega) (by omega) (by omega) (by omega) (by omega) (by omega)
  have HL : Hid (∀ w, Calls Try.prog 12 #[.int .i64 9999, .int .i64 12, .int .i64 31] w fun e w' => e = .returned (.int .i64 2932896) ∧ w' = w) := fun w => rdays_any 9999 12 31 w (by omega) (by omega) (by omega) (by omega) (by omega) (by omega)
  have hA := fun w => add_any y m d 0 (r - 50000) w hv hy.1 hy.2
  rw [add_days y m d (r - 50000) hv (by omega) (by omega)] at hA
  obtain ⟨eN, vN⟩ := Civ.of_num (Civ.num y m d + (r - 50000))
  cases hb : inB (Civ.cY (Civ.num y m d + (r - 50000))) 1 9999
  · rw [hb] at hA
    have HA : Hid (∀ w, Calls Try.prog 11 #[.int .i64 y, .int .i64 m, .int .i64 d, .int .i64 0, .int .i64 (r - 50000)] w fun e w' => e = .returned (.tuple #[.int .i64 0, .int .i64 0, .int .i64 0, .bool false]) ∧ Below w.heap.size w w') := hA
    have hc : Civ.cY (Civ.num y m d + (r - 50000)) < 1 ∨ 9999 < Civ.cY (Civ.num y m d + (r - 50000)) := by
      have h1 : ¬ inB (Civ.cY (Civ.num y m d + (r - 50000))) 1 9999 = true := by rw [hb]; decide
      rw [inB_iff] at h1; omega
    have ht : Civ.num y m d + (r - 50000) < -719162 ∨ 2932896 < Civ.num y m d + (r - 50000) := by
      rcases hc with h | h
      · exact Or.inl (by have := below_first _ h; rw [num_111] at this; exact this)
      · exact Or.inr (by have := above_last _ h; rw [num_last] at this; exact this)
    clear hA hb hc eN vN hv v1 v2 v3 v4 hl
    generalize Civ.num y m d = q at *
    by_cases h1 : q + (r - 50000) < -719162
    · clear ht
      go_enter Try.func4, Try.ntmps4
      go_wp2_with fail
      refine (HK.out _).mono ?_
      rintro e w1 ⟨rfl, b1⟩
      go_wp2_with fail
      refine (HY.out _).mono ?_
      rintro e w2 ⟨rfl, rfl⟩
      go_wp2_with fail
      refine (HW.out _).mono ?_
      rintro e w3 ⟨rfl, rfl⟩
      go_wp2_with fail
      refine (HA.out _).mono ?_
      rintro e w4 ⟨rfl, b4⟩
      go_wp2_with fail
      refine (HR.out _).mono ?_
      rintro e w5 ⟨rfl, rfl⟩
      go_wp2_with fail
      refine (HF.out _).mono ?_
      rintro e w6 ⟨rfl, rfl⟩
      go_wp2
      go_ret
      exact ⟨rfl, (up_trans b1 b4)⟩
    · have h2 : 2932896 < q + (r - 50000) := by omega
      clear ht
      go_enter Try.func4, Try.ntmps4
      go_wp2_with fail
      refine (HK.out _).mono ?_
      rintro e w1 ⟨rfl, b1⟩
      go_wp2_with fail
      refine (HY.out _).mono ?_
      rintro e w2 ⟨rfl, rfl⟩
      go_wp2_with fail
      refine (HW.out _).mono ?_
      rintro e w3 ⟨rfl, rfl⟩
      go_wp2_with fail
      refine (HA.out _).mono ?_
      rintro e w4 ⟨rfl, b4⟩
      go_wp2_with fail
      refine (HR.out _).mono ?_
      rintro e w5 ⟨rfl, rfl⟩
      go_wp2_with fail
      refine (HF.out _).mono ?_
      rintro e w6 ⟨rfl, rfl⟩
      go_wp2_with fail
      refine (HL.out _).mono ?_
      rintro e w7 ⟨rfl, rfl⟩
      go_wp2
      go_ret
      exact ⟨rfl, (up_trans b1 b4)⟩
  · rw [hb] at hA
    have HA : Hid (∀ w, Calls Try.prog 11 #[.int .i64 y, .int .i64 m, .int .i64 d, .int .i64 0, .int .i64 (r - 50000)] w fun e w' => e = .returned (.tuple #[.int .i64 (Civ.cY (Civ.num y m d + (r - 50000))), .int .i64 (Civ.cM (Civ.num y m d + (r - 50000))), .int .i64 (Civ.cD (Civ.num y m d + (r - 50000))), .bool true]) ∧ Below w.heap.size w w') := hA
    clear hA
    obtain ⟨q0, q1⟩ := inB_iff.1 hb
    obtain ⟨u1, u2, u3, u4⟩ := (Civ.vld_iff _ _ _).1 vN
    have ul := len_le (Civ.cY (Civ.num y m d + (r - 50000))) (Civ.cM (Civ.num y m d + (r - 50000)))
    have HS : Hid (∀ w, Calls Try.prog 12 #[.int .i64 (Civ.cY (Civ.num y m d + (r - 50000))), .int .i64 (Civ.cM (Civ.num y m d + (r - 50000))), .int .i64 (Civ.cD (Civ.num y m d + (r - 50000)))] w fun e w' => e = .returned (.int .i64 (Civ.num y m d + (r - 50000))) ∧ w' = w) := fun w => by
      have := rdays_any (Civ.cY (Civ.num y m d + (r - 50000))) (Civ.cM (Civ.num y m d + (r - 50000))) (Civ.cD (Civ.num y m d + (r - 50000))) w (by omega) (by omega) u1 u2 u3 (by omega)
      rw [eN] at this
      exact this
    have hB := fun w => add_any _ _ _ 0 (-(r - 50000)) w vN q0 q1
    rw [add_days _ _ _ (-(r - 50000)) vN (by omega) (by omega), eN, show Civ.num y m d + (r - 50000) + -(r - 50000) = Civ.num y m d by omega] at hB
    obtain ⟨e1, e2, e3⟩ := Civ.of_back y m d hv
    rw [e1, e2, e3, inB_true hy.1 hy.2] at hB
    have HB : Hid (∀ w, Calls Try.prog 11 #[.int .i64 (Civ.cY (Civ.num y m d + (r - 50000))), .int .i64 (Civ.cM (Civ.num y m d + (r - 50000))), .int .i64 (Civ.cD (Civ.num y m d + (r - 50000))), .int .i64 0, .int .i64 (-(r - 50000))] w fun e w' => e = .returned (.tuple #[.int .i64 y, .int .i64 m, .int .i64 d, .bool true]) ∧ Below w.heap.size w w') := hB
    clear hB hb eN vN hv v1 v2 v3 v4 hl u1 u2 u3 u4 ul q0 q1 e1 e2 e3
    generalize Civ.cY (Civ.num y m d + (r - 50000)) = a at *
    generalize Civ.cM (Civ.num y m d + (r - 50000)) = b at *
    generalize Civ.cD (Civ.num y m d + (r - 50000)) = c at *
    generalize Civ.num y m d = q at *
    go_enter Try.func4, Try.ntmps4
    go_wp2_with fail
    refine (HK.out _).mono ?_
    rintro e w1 ⟨rfl, b1⟩
    go_wp2_with fail
    refine (HY.out _).mono ?_
    rintro e w2 ⟨rfl, rfl⟩
    go_wp2_with fail
    refine (HW.out _).mono ?_
    rintro e w3 ⟨rfl, rfl⟩
    go_wp2_with fail
    refine (HA.out _).mono ?_
    rintro e w4 ⟨rfl, b4⟩
    go_wp2_with fail
    refine (HB.out _).mono ?_
    rintro e w5 ⟨rfl, b5⟩
    go_wp2_with fail
    refine (HS.out _).mono ?_
    rintro e w6 ⟨rfl, rfl⟩
    go_wp2_with fail
    refine (HR.out _).mono ?_
    rintro e w7 ⟨rfl, rfl⟩
    go_wp2
    go_ret
    exact ⟨rfl, (up_trans (up_trans b1 b4) b5)⟩

theorem own : ownKnob Try.prog.godebug = none := by kernel_rfl

set_option maxRecDepth 100000 in
theorem lifted (os : Os) (started : os.Started) (H : Type) (enc : TypeId × Value → H) :
    ReturnsInHanded {} Try.checked os 4 .any (Rows.civilDaysOnSpec.pre6 enc Try.prog Try.f4 Rows.civilDaysOnRow.domain false) (Rows.civilDaysOnSpec.post enc Try.prog Try.f4 false true false false) := by
  refine returnsInHanded_of_change (C := Try.checked) own started (by kernel_rfl) Try.func4
    (ChangeSpec.witness6 (enc := enc) (C := Try.checked) false ⟨#[], #[.int .i64 0, .int .i64 0], []⟩ 8 (by kernel_rfl) (by kernel_rfl) (by kernel_rfl) (by kernel_rfl)) ?_
  intro W base args ds gs before hval0 hW hcnd _
  have hval : ∀ (j : Nat) t v, Try.f4.params[j]? = some t → args[j]? = some v → Value.okWide Try.prog W .any base t v := hval0
  have hW' := hW
  obtain ⟨p, q, hA0, hV, rfl, hfz, hnd⟩ := hW
  have hA : DataW.TrodAll enc Try.prog W 0 (fun _ => true) true Try.f4.params.toList args.toList ds p := hA0
  rw [Try.params4] at hA hval
  obtain ⟨v0, vs0, d0, ds0, p0, q0, hargs, rfl, rfl, h0, r0⟩ := trodAll_cons hA
  obtain ⟨v1, vs1, d1, ds1, p1, q1, rfl, rfl, rfl, h1, r1⟩ := trodAll_cons r0
  obtain ⟨rfl, rfl, rfl⟩ := trodAll_nil r1
  obtain rfl : args = #[v0, v1] := by cases args; simp_all
  obtain ⟨rfl, rfl⟩ := trodVars_none hV
  obtain ⟨a0, rfl, rfl, rfl, w0⟩ := open_int Try.underlying3 (hval 0 3 v0 rfl rfl) h0
  obtain ⟨a1, rfl, rfl, rfl, w1⟩ := open_int Try.underlying3 (hval 1 3 v1 rfl rfl) h1
  clear hA0 hval0
  refine (walk a0 a1 W w0 w1).mono fun e W' ⟨he, bel⟩ => ?_
  subst he
  exact ⟨_, rfl, _, _, _, [], _, [], hW', trodAll_mk1 (shut_bool Try.underlying4 _), (trodAll_cons_mk (shut_int Try.underlying3 w0) (trodAll_cons_mk (shut_int Try.underlying3 w1) trodAll_mk0)), rfl, bel.frame _, fun h => by cases h⟩

theorem civilDaysOn_holds : Rows.CivilDaysOnSaid :=
  OpenClaim.holds_of_wide 4 Try.f4 rfl rfl rfl rfl rfl rfl rfl ⟨rfl, rfl, rfl, rfl, rfl⟩ rfl rfl rfl rfl rfl (by kernel_rfl) Try.func4 (by kernel_rfl)
    (of_decide_eq_true (by kernel_rfl)) (by unfold Func.isWrapper; first | (rw [if_pos (by decide +kernel)]; kernel_rfl) | (rw [if_neg (by decide +kernel)]; exact ⟨rfl, rfl⟩))
    (fun os started H enc _ => lifted os started H enc)

end Go.Proofs.Ytokigbdnihamiab
