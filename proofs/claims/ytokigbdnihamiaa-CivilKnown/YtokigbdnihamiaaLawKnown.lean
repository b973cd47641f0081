/- CivilKnown answers true of every int: of each of the nine days that the number may stand for civil.Days and civil.Weekday are the numbers written beside it. No condition. -/
import Derived.Test.YtokigbdnihamiaaRows
import Derived.Test.YtokigbdnihamiaaBase
import Derived.Test.YtokigbdnihamiaaExt
import Derived.ProofKit
import Derived.OpenShut
import Derived.Below
namespace Go.Proofs.Ytokigbdnihamiaa
open Go.ChangeShapes Go.WideShapes Go.ChangeAt Go.RowKit

/-- the nine days, as the statement's text lists them -/
def Row (j y m d k x : Int) : Prop :=
  (j = 0 ∧ y = 1 ∧ m = 1 ∧ d = 1 ∧ k = -719162 ∧ x = 0) ∨ (j = 1 ∧ y = 1582 ∧ m = 10 ∧ d = 15 ∧ k = -141427 ∧ x = 4) ∨ (j = 2 ∧ y = 1600 ∧ m = 2 ∧ d = 29 ∧ k = -135081 ∧ x = 1) ∨
  (j = 3 ∧ y = 1969 ∧ m = 12 ∧ d = 31 ∧ k = -1 ∧ x = 2) ∨ (j = 4 ∧ y = 2000 ∧ m = 3 ∧ d = 1 ∧ k = 11017 ∧ x = 2) ∨ (j = 5 ∧ y = 2024 ∧ m = 2 ∧ d = 29 ∧ k = 19782 ∧ x = 3) ∨
  (j = 6 ∧ y = 9999 ∧ m = 12 ∧ d = 31 ∧ k = 2932896 ∧ x = 4) ∨ (j = 7 ∧ y = 0 ∧ m = 3 ∧ d = 1 ∧ k = -719468 ∧ x = 2) ∨ (j = 8 ∧ y = 2100 ∧ m = 2 ∧ d = 28 ∧ k = 47540 ∧ x = 6)

set_option maxHeartbeats 4000000 in
theorem walk_at (n y m d k x : Int) (j : Int) (w : World) (hj : n % 9 = j) (hv : Civ.vld y m d = true) (hy0 : -10000 ≤ y) (hy1 : y ≤ 20000) (hk : Civ.num y m d = k) (hx : (k + 3) % 7 = x)
    (hd : Row j y m d k x) :
    Calls Try.prog 8 #[.int .i64 n] w fun e w' => e = .returned (.bool true) ∧ Below w.heap.size w w' := by
  have HK : Hid (∀ w, Calls Try.prog 9 #[] w fun e w' => e = .returned (.bool true) ∧ Below w.heap.size w w') := known_any
  have HW : Hid (∀ w, Calls Try.prog 17 #[.int .i64 n, .int .i64 9] w fun e w' => e = .returned (.int .i64 j) ∧ w' = w) := fun w => by rw [← hj]; exact lwithin_any n 9 w (by omega) (by omega)
  have H1 : Hid (∀ w, Calls Try.prog 11 #[.int .i64 y, .int .i64 m, .int .i64 d] w fun e w' => e = .returned (.int .i64 k) ∧ Below w.heap.size w w') := fun w => by rw [← hk]; exact days_in y m d w hv hy0 hy1
  have H2 : Hid (∀ w, Calls Try.prog 14 #[.int .i64 y, .int .i64 m, .int .i64 d] w fun e w' => e = .returned (.int .i64 x) ∧ Below w.heap.size w w') := fun w => by rw [← hx, ← hk]; exact wday_in y m d w hv hy0 hy1
  clear hj hv hy0 hy1 hk hx
  go_enter Try.func8, Try.ntmps8
  go_wp2_with fail
  refine (HK.out _).mono ?_
  rintro e w1 ⟨rfl, b1⟩
  go_wp2_with fail
  refine (HW.out _).mono ?_
  rintro e w2 ⟨rfl, rfl⟩
  go_wp2_with fail
  rcases hd with ⟨rfl, rfl, rfl, rfl, rfl, rfl⟩ | ⟨rfl, rfl, rfl, rfl, rfl, rfl⟩ | ⟨rfl, rfl, rfl, rfl, rfl, rfl⟩ | ⟨rfl, rfl, rfl, rfl, rfl, rfl⟩ | ⟨rfl, rfl, rfl, rfl, rfl, rfl⟩ | ⟨rfl, rfl, rfl, rfl, rfl, rfl⟩ | ⟨rfl, rfl, rfl, rfl, rfl, rfl⟩ | ⟨rfl, rfl, rfl, rfl, rfl, rfl⟩ | ⟨rfl, rfl, rfl, rfl, rfl, rfl⟩
  all_goals
    refine wp_region_ext2 (by kernel_rfl) (by kernel_rfl) (fun hne hcell => ?_)
    repeat (go_big_quiet_step ((first | (go_at_call 11; exact (H1.out _).mono (fun e w' h => ⟨h.1, Ext.to _ h.2⟩)) | (go_at_call 14; exact (H2.out _).mono (fun e w' h => ⟨h.1, Ext.to _ h.2⟩)))))
    refine wpQuiet_nil ?_
    rintro _ ⟨s, rfl⟩
    go_wp2
    go_ret
    exact ⟨rfl, up_trans (up_trans (up_trans (up_trans (up_trans (up_trans b1 (up_alloc _ _)) (up_alloc _ _)) (up_alloc _ _)) (up_alloc _ _)) (up_alloc _ _)) s.below⟩

theorem walk (n : Int) (w : World) (_w0 : (Lit.int .i64 n).wf = true) :
    Calls Try.prog 8 #[.int .i64 n] w fun e w' => e = .returned (.bool true) ∧ Below w.heap.size w w' := by
  have h : n % 9 = 0 ∨ n % 9 = 1 ∨ n % 9 = 2 ∨ n % 9 = 3 ∨ n % 9 = 4 ∨ n % 9 = 5 ∨ n % 9 = 6 ∨ n % 9 = 7 ∨ n % 9 = 8 := by omega
  rcases h with h | h | h | h | h | h | h | h | h
  · exact walk_at n 1 1 1 (-719162) 0 0 w h (by decide) (by decide) (by decide) (by decide) (by decide) (Or.inl ⟨rfl, rfl, rfl, rfl, rfl, rfl⟩)
  · exact walk_at n 1582 10 15 (-141427) 4 1 w h (by decide) (by decide) (by decide) (by decide) (by decide) (Or.inr (Or.inl ⟨rfl, rfl, rfl, rfl, rfl, rfl⟩))
  · exact walk_at n 1600 2 29 (-135081) 1 2 w h (by decide) (by decide) (by decide) (by decide) (by decide) (Or.inr (Or.inr (Or.inl ⟨rfl, rfl, rfl, rfl, rfl, rfl⟩)))
  · exact walk_at n 1969 12 31 (-1) 2 3 w h (by decide) (by decide) (by decide) (by decide) (by decide) (Or.inr (Or.inr (Or.inr (Or.inl ⟨rfl, rfl, rfl, rfl, rfl, rfl⟩))))
  · exact walk_at n 2000 3 1 11017 2 4 w h (by decide) (by decide) (by decide) (by decide) (by decide) (Or.inr (Or.inr (Or.inr (Or.inr (Or.inl ⟨rfl, rfl, rfl, rfl, rfl, rfl⟩)))))
  · exact walk_at n 2024 2 29 19782 3 5 w h (by decide) (by decide) (by decide) (by decide) (by decide) (Or.inr (Or.inr (Or.inr (Or.inr (Or.inr (Or.inl ⟨rfl, rfl, rfl, rfl, rfl, rfl⟩))))))
  · exact walk_at n 9999 12 31 2932896 4 6 w h (by decide) (by decide) (by decide) (by decide) (by decide) (Or.inr (Or.inr (Or.inr (Or.inr (Or.inr (Or.inr (Or.inl ⟨rfl, rfl, rfl, rfl, rfl, rfl⟩)))))))
  · exact walk_at n 0 3 1 (-719468) 2 7 w h (by decide) (by decide) (by decide) (by decide) (by decide) (Or.inr (Or.inr (Or.inr (Or.inr (Or.inr (Or.inr (Or.inr (Or.inl ⟨rfl, rfl, rfl, rfl, rfl, rfl⟩))))))))
  · exact walk_at n 2100 2 28 47540 6 8 w h (by decide) (by decide) (by decide) (by decide) (by decide) (Or.inr (Or.inr (Or.inr (Or.inr (Or.inr (Or.inr (Or.inr (Or.inr ⟨rfl, rfl, rfl, rfl, rfl, rfl⟩))))))))

theorem own : ownKnob Try.prog.godebug = none := by kernel_rfl

set_option maxRecDepth 100000 in
theorem lifted (os : Os) (started : os.Started) (H : Type) (enc : TypeId × Value → H) :
    ReturnsInHanded {} Try.checked os 8 .any (Rows.civilKnownSpec.pre6 enc Try.prog Try.f8 Rows.civilKnownRow.domain false) (Rows.civilKnownSpec.post enc Try.prog Try.f8 false true false false) := by
  refine returnsInHanded_of_change (C := Try.checked) own started (by kernel_rfl) Try.func8
    (ChangeSpec.witness6 (enc := enc) (C := Try.checked) false ⟨#[], #[.int .i64 0], []⟩ 8 (by kernel_rfl) (by kernel_rfl) (by kernel_rfl) (by kernel_rfl)) ?_
  intro W base args ds gs before hval0 hW hcnd _
  have hval : ∀ (j : Nat) t v, Try.f8.params[j]? = some t → args[j]? = some v → Value.okWide Try.prog W .any base t v := hval0
  have hW' := hW
  obtain ⟨p, q, hA0, hV, rfl, hfz, hnd⟩ := hW
  have hA : DataW.TrodAll enc Try.prog W 0 (fun _ => true) true Try.f8.params.toList args.toList ds p := hA0
  rw [Try.params8] at hA hval
  obtain ⟨v0, vs0, d0, ds0, p0, q0, hargs, rfl, rfl, h0, r0⟩ := trodAll_cons hA
  obtain ⟨rfl, rfl, rfl⟩ := trodAll_nil r0
  obtain rfl : args = #[v0] := by cases args; simp_all
  obtain ⟨rfl, rfl⟩ := trodVars_none hV
  obtain ⟨a0, rfl, rfl, rfl, w0⟩ := open_int Try.underlying3 (hval 0 3 v0 rfl rfl) h0
  clear hA0 hval0
  refine (walk a0 W w0).mono fun e W' ⟨he, bel⟩ => ?_
  subst he
  exact ⟨_, rfl, _, _, _, [], _, [], hW', trodAll_mk1 (shut_bool Try.underlying4 _), (trodAll_cons_mk (shut_int Try.underlying3 w0) trodAll_mk0), rfl, bel.frame _, fun h => by cases h⟩

theorem civilKnown_holds : Rows.CivilKnownSaid :=
  OpenClaim.holds_of_wide 8 Try.f8 rfl rfl rfl rfl rfl rfl rfl ⟨rfl, rfl, rfl, rfl, rfl⟩ rfl rfl rfl rfl rfl (by kernel_rfl) Try.func8 (by kernel_rfl)
    (of_decide_eq_true (by kernel_rfl)) (by unfold Func.isWrapper; first | (rw [if_pos (by decide +kernel)]; kernel_rfl) | (rw [if_neg (by decide +kernel)]; exact ⟨rfl, rfl⟩))
    (fun os started H enc _ => lifted os started H enc)

end Go.Proofs.Ytokigbdnihamiaa
