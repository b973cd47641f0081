/- CivilLengths answers true of every int: in the year that the number stands for each month's civil.Length is the reference's, together they are the days from that year's first day to the next one's, 366 just in leap years, else 365. No condition. -/
import Derived.Test.YtokigbdnihamiaaRows
import Derived.Test.YtokigbdnihamiaaBase
import Derived.ProofKit
import Derived.OpenShut
import Derived.Below
namespace Go.Proofs.Ytokigbdnihamiaa
open Go.ChangeShapes Go.WideShapes Go.ChangeAt Go.RowKit

def sumL (y : Int) : Nat → Int
  | 0 => 0
  | k + 1 => sumL y k + Civ.len y (k + 1)
theorem sumL_bd (y : Int) (k : Nat) : 0 ≤ sumL y k ∧ sumL y k ≤ 31 * k := by
  induction k with
  | zero => unfold sumL; omega
  | succ k ih => have := len_le y (k + 1); unfold sumL; omega
theorem sumL_12 (y : Int) : sumL y 12 = 365 + if Civ.lp y then 1 else 0 := by
  simp [sumL, Civ.len]
  split <;> rfl
theorem year_len (y : Int) : Civ.num (y + 1) 1 1 - Civ.num y 1 1 = 365 + if Civ.lp y then 1 else 0 := by
  have g := Civ.G_succ (y - 1)
  rw [show y - 1 + 1 = y by omega] at g
  rw [Civ.num_G, Civ.num_G, show Civ.mY (y + 1) 1 = y by unfold Civ.mY; simp, show Civ.mY y 1 = y - 1 from rfl, g]
  omega

set_option maxHeartbeats 1000000 in
theorem walk (n : Int) (w : World) (_w0 : (Lit.int .i64 n).wf = true) :
    Calls Try.prog 5 #[.int .i64 n] w fun e w' => e = .returned (.bool true) ∧ Below w.heap.size w w' := by
  have HK : Hid (∀ w, Calls Try.prog 9 #[] w fun e w' => e = .returned (.bool true) ∧ Below w.heap.size w w') := known_any
  have hy : 0 ≤ n % 30000 ∧ n % 30000 < 30000 := by omega
  have HW : Hid (∀ w, Calls Try.prog 17 #[.int .i64 n, .int .i64 30000] w fun e w' => e = .returned (.int .i64 (n % 30000)) ∧ w' = w) := fun w => lwithin_any n 30000 w (by omega) (by omega)
  generalize n % 30000 = r at *
  have H1 : Hid (∀ w, Calls Try.prog 11 #[.int .i64 (r - 10000), .int .i64 1, .int .i64 1] w fun e w' => e = .returned (.int .i64 (Civ.num (r - 10000) 1 1)) ∧ Below w.heap.size w w') := fun w => days_in _ 1 1 w (by simp [Civ.vld, Civ.len]) (by omega) (by omega)
  have H2 : Hid (∀ w, Calls Try.prog 11 #[.int .i64 (r - 10000 + 1), .int .i64 1, .int .i64 1] w fun e w' => e = .returned (.int .i64 (Civ.num (r - 10000 + 1) 1 1)) ∧ Below w.heap.size w w') := fun w => days_in _ 1 1 w (by simp [Civ.vld, Civ.len]) (by omega) (by omega)
  have nb1 := num_bd (r - 10000) 1 1 (by omega) (by omega) (by omega) (by omega) (by omega) (by omega)
  have nb2 := num_bd (r - 10000 + 1) 1 1 (by omega) (by omega) (by omega) (by omega) (by omega) (by omega)
  have HD : Hid (Civ.num (r - 10000 + 1) 1 1 - Civ.num (r - 10000) 1 1 = sumL (r - 10000) 12) := by rw [sumL_12]; exact year_len _
  have HS := hid (sumL_12 (r - 10000))
  go_enter Try.func5, Try.ntmps5
  go_wp2_with fail
  refine (HK.out _).mono ?_
  rintro e w1 ⟨rfl, b1⟩
  go_wp2_with fail
  refine (HW.out _).mono ?_
  rintro e w2 ⟨rfl, rfl⟩
  go_wp2_with fail
  go_loop [4, 5] (fun s i => ∃ k : Nat, k ≤ 12 ∧ i = .int .i64 (k + 1) ∧ s = .int .i64 (sumL (r - 10000) k)) (fun _ i => (13 - intOf i).toNat)
  case atStart => exact ⟨0, by omega, rfl, rfl⟩
  case round =>
    obtain ⟨k, hk, rfl, rfl⟩ := hrel
    have sb := sumL_bd (r - 10000) k
    by_cases hlt : k < 12
    · have lb := len_le (r - 10000) (k + 1)
      go_wp2_with (first | (go_at_call 16; refine (length_in _ _ _ (by omega) (by omega) (by omega) (by omega)).mono ?_; rintro e w' ⟨rfl, rfl⟩) | (go_at_call 18; refine (rlen_any _ _ _).mono ?_; rintro e w' ⟨rfl, rfl⟩))
      go_round
      case rel => exact ⟨k + 1, by omega, by go_num, rfl⟩
      case measure => simp [intOf]; omega
    · obtain rfl : k = 12 := by omega
      have hs : ∃ x : Bool, Civ.lp (r - 10000) = x ∧ sumL (r - 10000) 12 = (if x then 366 else 365) := ⟨_, rfl, by rw [HS.out]; split <;> rfl⟩
      obtain ⟨x, hx, hs⟩ := hs
      have HL : Hid (∀ w, Calls Try.prog 19 #[.int .i64 (r - 10000)] w fun e w' => e = .returned (.bool x) ∧ w' = w) := fun w => by rw [← hx]; exact rleap_any _ w
      rw [hs] at HD
      rw [hs]
      clear hs hx HS hlt hk sb
      cases x
      all_goals
        simp only [Bool.false_eq_true, if_false, if_true] at HD ⊢
        go_wp2_with fail
        refine (H2.out _).mono ?_
        rintro e w3 ⟨rfl, b3⟩
        go_wp2_with fail
        refine (H1.out _).mono ?_
        rintro e w4 ⟨rfl, b4⟩
        have hd := HD.out
        go_wp2_with fail
        refine (HL.out _).mono ?_
        rintro e w5 ⟨rfl, rfl⟩
        go_wp2
        go_ret
        exact ⟨rfl, up_trans (up_trans b1 b3) b4⟩

theorem own : ownKnob Try.prog.godebug = none := by kernel_rfl

set_option maxRecDepth 100000 in
theorem lifted (os : Os) (started : os.Started) (H : Type) (enc : TypeId × Value → H) :
    ReturnsInHanded {} Try.checked os 5 .any (Rows.civilLengthsSpec.pre6 enc Try.prog Try.f5 Rows.civilLengthsRow.domain false) (Rows.civilLengthsSpec.post enc Try.prog Try.f5 false true false false) := by
  refine returnsInHanded_of_change (C := Try.checked) own started (by kernel_rfl) Try.func5
    (ChangeSpec.witness6 (enc := enc) (C := Try.checked) false ⟨#[], #[.int .i64 0], []⟩ 8 (by kernel_rfl) (by kernel_rfl) (by kernel_rfl) (by kernel_rfl)) ?_
  intro W base args ds gs before hval0 hW hcnd _
  have hval : ∀ (j : Nat) t v, Try.f5.params[j]? = some t → args[j]? = some v → Value.okWide Try.prog W .any base t v := hval0
  have hW' := hW
  obtain ⟨p, q, hA0, hV, rfl, hfz, hnd⟩ := hW
  have hA : DataW.TrodAll enc Try.prog W 0 (fun _ => true) true Try.f5.params.toList args.toList ds p := hA0
  rw [Try.params5] at hA hval
  obtain ⟨v0, vs0, d0, ds0, p0, q0, hargs, rfl, rfl, h0, r0⟩ := trodAll_cons hA
  obtain ⟨rfl, rfl, rfl⟩ := trodAll_nil r0
  obtain rfl : args = #[v0] := by cases args; simp_all
  obtain ⟨rfl, rfl⟩ := trodVars_none hV
  obtain ⟨a0, rfl, rfl, rfl, w0⟩ := open_int Try.underlying3 (hval 0 3 v0 rfl rfl) h0
  clear hA0 hval0
  refine (walk a0 W w0).mono fun e W' ⟨he, bel⟩ => ?_
  subst he
  exact ⟨_, rfl, _, _, _, [], _, [], hW', trodAll_mk1 (shut_bool Try.underlying4 _), (trodAll_cons_mk (shut_int Try.underlying3 w0) trodAll_mk0), rfl, bel.frame _, fun h => by cases h⟩

theorem civilLengths_holds : Rows.CivilLengthsSaid :=
  OpenClaim.holds_of_wide 5 Try.f5 rfl rfl rfl rfl rfl rfl rfl ⟨rfl, rfl, rfl, rfl, rfl⟩ rfl rfl rfl rfl rfl (by kernel_rfl) Try.func5 (by kernel_rfl)
    (of_decide_eq_true (by kernel_rfl)) (by unfold Func.isWrapper; first | (rw [if_pos (by decide +kernel)]; kernel_rfl) | (rw [if_neg (by decide +kernel)]; exact ⟨rfl, rfl⟩))
    (fun os started H enc _ => lifted os started H enc)

end Go.Proofs.Ytokigbdnihamiaa
