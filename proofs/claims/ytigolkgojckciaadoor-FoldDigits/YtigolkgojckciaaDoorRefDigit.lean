/- The bytes that the reference writes of a digit of one of the four systems. -/
import Derived.Test.YtigolkgojckciaaDoorRefOne
namespace Go.Proofs.YtigolkgojckciaaDoor
open Go.RowKit

theorem rdigit_walk (k d : Int) (w : World) (hk0 : 0 ≤ k) (hk1 : k < 4) (hd0 : 0 ≤ d) (hd1 : d ≤ 9) : Calls Tryd.prog 20 #[.int .i64 k, .int .i64 d] w fun e w' => e = .returned (.string ⟨(Lib.encodeRune (nought k + d)).toArray⟩) ∧ Below w.heap.size w w' := by
  rcases (show k = 0 ∨ k = 1 ∨ k = 2 ∨ k = 3 by omega) with rfl | rfl | rfl | rfl
  · have H := hid (fun w => one_any (48 + d) w (by omega) (by omega) (by unfold okRune; omega))
    rw [show nought 0 = 48 from rfl]
    generalize Lib.encodeRune (48 + d) = L at *
    go_enter Tryd.func20, Tryd.ntmps20
    go_wp2_with fail
    refine (H.out _).mono ?_
    rintro e w1 ⟨rfl, bel⟩
    go_wp2
    go_ret
    exact ⟨rfl, up_trans (up_alloc _ _) bel⟩
  · have H := hid (fun w => one_any (1632 + d) w (by omega) (by omega) (by unfold okRune; omega))
    rw [show nought 1 = 1632 from rfl]
    generalize Lib.encodeRune (1632 + d) = L at *
    go_enter Tryd.func20, Tryd.ntmps20
    go_wp2_with fail
    refine (H.out _).mono ?_
    rintro e w1 ⟨rfl, bel⟩
    go_wp2
    go_ret
    exact ⟨rfl, up_trans (up_alloc _ _) bel⟩
  · have H := hid (fun w => one_any (1776 + d) w (by omega) (by omega) (by unfold okRune; omega))
    rw [show nought 2 = 1776 from rfl]
    generalize Lib.encodeRune (1776 + d) = L at *
    go_enter Tryd.func20, Tryd.ntmps20
    go_wp2_with fail
    refine (H.out _).mono ?_
    rintro e w1 ⟨rfl, bel⟩
    go_wp2
    go_ret
    exact ⟨rfl, up_trans (up_alloc _ _) bel⟩
  · have H := hid (fun w => one_any (2406 + d) w (by omega) (by omega) (by unfold okRune; omega))
    rw [show nought 3 = 2406 from rfl]
    generalize Lib.encodeRune (2406 + d) = L at *
    go_enter Tryd.func20, Tryd.ntmps20
    go_wp2_with fail
    refine (H.out _).mono ?_
    rintro e w1 ⟨rfl, bel⟩
    go_wp2
    go_ret
    exact ⟨rfl, up_trans (up_alloc _ _) bel⟩

end Go.Proofs.YtigolkgojckciaaDoor
