/- CivilNext answers true of every int: from the day that the number stands for to the next one civil.Days rises by one and civil.Weekday goes round, where civil.Length tells the month's end. No condition. -/
import Derived.Test.YtokigbdnihamiaaRows
import Derived.Test.YtokigbdnihamiaaBase
import Derived.ProofKit
import Derived.OpenShut
import Derived.Below
namespace Go.Proofs.Ytokigbdnihamiaa
open Go.ChangeShapes Go.WideShapes Go.ChangeAt Go.RowKit

theorem next_d (y m d : Int) : Civ.num y m (d + 1) = Civ.num y m d + 1 := by unfold Civ.num; omega
theorem next_m (y m : Int) (h1 : 1 ≤ m) (h2 : m < 12) : Civ.num y (m + 1) 1 = Civ.num y m (Civ.len y m) + 1 := by
  rw [Civ.num_G, Civ.num_G]
  rcases Civ.len_mar y m h1 (by omega) with ⟨a, b⟩ | ⟨a, b, c⟩
  · have e1 : Civ.mM (m + 1) = Civ.mM m + 1 := by unfold Civ.mM at *; omega
    have e2 : Civ.mY y (m + 1) = Civ.mY y m := by unfold Civ.mM at a; unfold Civ.mY; omega
    rw [e1, e2]; omega
  · subst a
    have g := Civ.G_succ (y - 1)
    rw [show y - 1 + 1 = y by omega] at g
    rw [c, b, show Civ.mY y (2 + 1) = y from rfl, show Civ.mY y 2 = y - 1 from rfl, show Civ.aM (Civ.mM (2 + 1)) = 0 by decide, g]
    split <;> omega
theorem next_y (y : Int) : Civ.num (y + 1) 1 1 = Civ.num y 12 31 + 1 := by
  rw [Civ.num_G, Civ.num_G, show Civ.mY (y + 1) 1 = y by unfold Civ.mY; simp, show Civ.mY y 12 = y from rfl, show Civ.aM (Civ.mM 1) = 306 by decide, show Civ.aM (Civ.mM 12) = 275 by decide]
  omega

set_option maxHeartbeats 1000000 in
theorem walk_to (y m d a b c : Int) (n : Int) (w : World) (n0 : -9223372036854775808 ≤ n) (n1 : n ≤ 9223372036854775807)
    (hY : dayY n true = y) (hM : dayM n = m) (hD : dayD n true = d) (hy : y ≤ 19990)
    (hn : Civ.vld a b c = true ∧ y ≤ a ∧ a ≤ y + 1 ∧ Civ.num a b c = Civ.num y m d + 1)
    (hc : (d + 1 ≤ Civ.len y m ∧ a = y ∧ b = m ∧ c = d + 1) ∨ (Civ.len y m < d + 1 ∧ m + 1 ≤ 12 ∧ a = y ∧ b = m + 1 ∧ c = 1) ∨ (Civ.len y m < d + 1 ∧ 12 < m + 1 ∧ a = y + 1 ∧ b = 1 ∧ c = 1)) :
    Calls Try.prog 4 #[.int .i64 n] w fun e w' => e = .returned (.bool true) ∧ Below w.heap.size w w' := by
  have HK : Hid (∀ w, Calls Try.prog 9 #[] w fun e w' => e = .returned (.bool true) ∧ Below w.heap.size w w') := known_any
  have HY : Hid (∀ w, Calls Try.prog 10 #[.int .i64 n, .bool true] w fun e w' => e = .returned (.tuple #[.int .i64 y, .int .i64 m, .int .i64 d]) ∧ w' = w) := fun w => by
    rw [← hY, ← hM, ← hD]; exact day_any n true w n0 n1
  have hv : Civ.vld y m d = true := by rw [← hY, ← hM, ← hD]; exact day_vld n true
  have hb : -10000 ≤ y ∧ y ≤ 20000 := by rw [← hY]; exact dayY_bd n true
  clear hY hM hD n0 n1
  obtain ⟨v1, v2, v3, v4⟩ := (Civ.vld_iff _ _ _).1 hv
  have hl := len_le y m
  have nb := num_bd y m d (by omega) (by omega) v1 v2 v3 (by omega)
  obtain ⟨hv', a0, a1, hk⟩ := hn
  have H1 : Hid (∀ w, Calls Try.prog 11 #[.int .i64 y, .int .i64 m, .int .i64 d] w fun e w' => e = .returned (.int .i64 (Civ.num y m d)) ∧ Below w.heap.size w w') := fun w => days_in y m d w hv hb.1 hb.2
  have H2 : Hid (∀ w, Calls Try.prog 16 #[.int .i64 y, .int .i64 m] w fun e w' => e = .returned (.int .i64 (Civ.len y m)) ∧ w' = w) := fun w => length_in y m w hb.1 hb.2 v1 v2
  have H3 : Hid (∀ w, Calls Try.prog 11 #[.int .i64 a, .int .i64 b, .int .i64 c] w fun e w' => e = .returned (.int .i64 (Civ.num y m d + 1)) ∧ Below w.heap.size w w') := fun w => by
    rw [← hk]; exact days_in a b c w hv' (by omega) (by omega)
  have H4 : Hid (∀ w, Calls Try.prog 14 #[.int .i64 y, .int .i64 m, .int .i64 d] w fun e w' => e = .returned (.int .i64 ((Civ.num y m d + 3) % 7)) ∧ Below w.heap.size w w') := fun w => wday_in y m d w hv hb.1 hb.2
  have H5 : Hid (∀ w, Calls Try.prog 14 #[.int .i64 a, .int .i64 b, .int .i64 c] w fun e w' => e = .returned (.int .i64 (((Civ.num y m d + 3) % 7 + 1) % 7)) ∧ Below w.heap.size w w') := fun w => by
    have := wday_in a b c w hv' (by omega) (by omega)
    rw [hk, show (Civ.num y m d + 1 + 3) % 7 = ((Civ.num y m d + 3) % 7 + 1) % 7 by omega] at this
    exact this
  have k7 : 0 ≤ (Civ.num y m d + 3) % 7 ∧ (Civ.num y m d + 3) % 7 ≤ 6 := by omega
  clear hv' hk hv
  generalize (Civ.num y m d + 3) % 7 = wd at *
  generalize Civ.num y m d = k at *
  rcases hc with ⟨c1, c2, c3, c4⟩ | ⟨c1, c5, c2, c3, c4⟩ | ⟨c1, c5, c2, c3, c4⟩
  all_goals
    rw [c2, c3, c4] at H3 H5
    clear c2 c3 c4 a0 a1
    generalize Civ.len y m = l at *
    go_enter Try.func4, Try.ntmps4
    go_wp2_with fail
    refine (HK.out _).mono ?_
    rintro e w1 ⟨rfl, b1⟩
    go_wp2_with fail
    refine (HY.out _).mono ?_
    rintro e w2 ⟨rfl, rfl⟩
    go_wp2_with fail
    refine (H1.out _).mono ?_
    rintro e w3 ⟨rfl, b3⟩
    go_wp2_with fail
    refine (H2.out _).mono ?_
    rintro e w4 ⟨rfl, rfl⟩
    go_wp2_with fail
    refine (H3.out _).mono ?_
    rintro e w5 ⟨rfl, b5⟩
    go_wp2_with fail
    refine (H5.out _).mono ?_
    rintro e w6 ⟨rfl, b6⟩
    go_wp2_with fail
    refine (H4.out _).mono ?_
    rintro e w7 ⟨rfl, b7⟩
    go_wp2
    go_ret
    exact ⟨rfl, up_trans (up_trans (up_trans (up_trans b1 b3) b5) b6) b7⟩

set_option maxHeartbeats 1000000 in
theorem walk (n : Int) (w : World) (w0 : (Lit.int .i64 n).wf = true) :
    Calls Try.prog 4 #[.int .i64 n] w fun e w' => e = .returned (.bool true) ∧ Below w.heap.size w w' := by
  obtain ⟨n0, n1⟩ := bounds_i64 w0
  clear w0
  by_cases hy : dayY n true ≤ 19990
  · have hv := day_vld n true
    obtain ⟨v1, v2, v3, v4⟩ := (Civ.vld_iff _ _ _).1 hv
    by_cases c1 : dayD n true + 1 ≤ Civ.len (dayY n true) (dayM n)
    · exact walk_to _ _ _ (dayY n true) (dayM n) (dayD n true + 1) n w n0 n1 rfl rfl rfl hy ⟨(Civ.vld_iff _ _ _).2 ⟨v1, v2, by omega, c1⟩, by omega, by omega, next_d _ _ _⟩ (Or.inl ⟨c1, rfl, rfl, rfl⟩)
    · have e : dayD n true = Civ.len (dayY n true) (dayM n) := by omega
      by_cases c2 : dayM n + 1 ≤ 12
      · have hl := len_le (dayY n true) (dayM n + 1)
        exact walk_to _ _ _ (dayY n true) (dayM n + 1) 1 n w n0 n1 rfl rfl rfl hy ⟨(Civ.vld_iff _ _ _).2 ⟨by omega, by omega, by omega, by omega⟩, by omega, by omega, by rw [e]; exact next_m _ _ v1 (by omega)⟩ (Or.inr (Or.inl ⟨by omega, c2, rfl, rfl, rfl⟩))
      · have hl := len_le (dayY n true + 1) 1
        have em : dayM n = 12 := by omega
        refine walk_to _ _ _ (dayY n true + 1) 1 1 n w n0 n1 rfl rfl rfl hy ⟨(Civ.vld_iff _ _ _).2 ⟨by omega, by omega, by omega, by omega⟩, by omega, by omega, ?_⟩ (Or.inr (Or.inr ⟨by omega, by omega, rfl, rfl, rfl⟩))
        rw [e, em]
        exact next_y _
  · have HK : Hid (∀ w, Calls Try.prog 9 #[] w fun e w' => e = .returned (.bool true) ∧ Below w.heap.size w w') := known_any
    have HY : Hid (∀ w, Calls Try.prog 10 #[.int .i64 n, .bool true] w fun e w' => e = .returned (.tuple #[.int .i64 (dayY n true), .int .i64 (dayM n), .int .i64 (dayD n true)]) ∧ w' = w) := fun w => day_any n true w n0 n1
    clear n0 n1
    go_enter Try.func4, Try.ntmps4
    go_wp2_with fail
    refine (HK.out _).mono ?_
    rintro e w1 ⟨rfl, b1⟩
    go_wp2_with fail
    refine (HY.out _).mono ?_
    rintro e w2 ⟨rfl, rfl⟩
    go_wp2
    go_ret
    exact ⟨rfl, b1⟩

theorem own : ownKnob Try.prog.godebug = none := by kernel_rfl

set_option maxRecDepth 100000 in
theorem lifted (os : Os) (started : os.Started) (H : Type) (enc : TypeId × Value → H) :
    ReturnsInHanded {} Try.checked os 4 .any (Rows.civilNextSpec.pre6 enc Try.prog Try.f4 Rows.civilNextRow.domain false) (Rows.civilNextSpec.post enc Try.prog Try.f4 false true false false) := by
  refine returnsInHanded_of_change (C := Try.checked) own started (by kernel_rfl) Try.func4
    (ChangeSpec.witness6 (enc := enc) (C := Try.checked) false ⟨#[], #[.int .i64 0], []⟩ 8 (by kernel_rfl) (by kernel_rfl) (by kernel_rfl) (by kernel_rfl)) ?_
  intro W base args ds gs before hval0 hW hcnd _
  have hval : ∀ (j : Nat) t v, Try.f4.params[j]? = some t → args[j]? = some v → Value.okWide Try.prog W .any base t v := hval0
  have hW' := hW
  obtain ⟨p, q, hA0, hV, rfl, hfz, hnd⟩ := hW
  have hA : DataW.TrodAll enc Try.prog W 0 (fun _ => true) true Try.f4.params.toList args.toList ds p := hA0
  rw [Try.params4] at hA hval
  obtain ⟨v0, vs0, d0, ds0, p0, q0, hargs, rfl, rfl, h0, r0⟩ := trodAll_cons hA
  obtain ⟨rfl, rfl, rfl⟩ := trodAll_nil r0
  obtain rfl : args = #[v0] := by cases args; simp_all
  obtain ⟨rfl, rfl⟩ := trodVars_none hV
  obtain ⟨a0, rfl, rfl, rfl, w0⟩ := open_int Try.underlying3 (hval 0 3 v0 rfl rfl) h0
  clear hA0 hval0
  refine (walk a0 W w0).mono fun e W' ⟨he, bel⟩ => ?_
  subst he
  exact ⟨_, rfl, _, _, _, [], _, [], hW', trodAll_mk1 (shut_bool Try.underlying4 _), (trodAll_cons_mk (shut_int Try.underlying3 w0) trodAll_mk0), rfl, bel.frame _, fun h => by cases h⟩

theorem civilNext_holds : Rows.CivilNextSaid :=
  OpenClaim.holds_of_wide 4 Try.f4 rfl rfl rfl rfl rfl rfl rfl ⟨rfl, rfl, rfl, rfl, rfl⟩ rfl rfl rfl rfl rfl (by kernel_rfl) Try.func4 (by kernel_rfl)
    (of_decide_eq_true (by kernel_rfl)) (by unfold Func.isWrapper; first | (rw [if_pos (by decide +kernel)]; kernel_rfl) | (rw [if_neg (by decide +kernel)]; exact ⟨rfl, rfl⟩))
    (fun os started H enc _ => lifted os started H enc)

end Go.Proofs.Ytokigbdnihamiaa
