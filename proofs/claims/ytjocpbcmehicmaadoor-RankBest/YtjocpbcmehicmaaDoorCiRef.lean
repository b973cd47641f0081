/- What the reference's own calls Days, Weekday, Civil, Add answer: the same numbers as package civil's; they leave the world as it is. -/
import Derived.Test.YtjocpbcmehicmaaDoorCiAdd
namespace Go.Proofs.YtjocpbcmehicmaaDoor.Ci
open Go.RowKit

theorem rnum_lo (y m d : Int) (h0 : 1 ≤ m) (h : m ≤ 2) : Civ.num y m d = 146097 * ((y - 1) / 400) + 365 * (y - 1 - 400 * ((y - 1) / 400)) + (y - 1 - 400 * ((y - 1) / 400)) / 4 - (y - 1 - 400 * ((y - 1) / 400)) / 100 + ((153 * ((m + 9) % 12) + 2) / 5 + d - 1) - 719468 := by
  unfold Civ.num Civ.aY Civ.aM Civ.mY Civ.mM
  have e : (m + 9) % 12 = m + 9 := by omega
  rw [if_pos (by omega), if_pos (by omega), e]
  omega
theorem rnum_hi (y m d : Int) (h0 : 2 < m) (h : m ≤ 12) : Civ.num y m d = 146097 * (y / 400) + 365 * (y - 400 * (y / 400)) + (y - 400 * (y / 400)) / 4 - (y - 400 * (y / 400)) / 100 + ((153 * ((m + 9) % 12) + 2) / 5 + d - 1) - 719468 := by
  unfold Civ.num Civ.aY Civ.aM Civ.mY Civ.mM
  have e : (m + 9) % 12 = m - 3 := by omega
  rw [if_neg (by omega), if_neg (by omega), e]
  omega

set_option maxHeartbeats 400000 in
theorem rdays_any (y m d : Int) (w : World) (hy0 : -1000000 ≤ y) (hy1 : y ≤ 1000000) (hm0 : 1 ≤ m) (hm1 : m ≤ 12) (hd0 : 1 ≤ d) (hd1 : d ≤ 31) :
    Calls Tryd.prog 42 #[.int .i64 y, .int .i64 m, .int .i64 d] w fun e w' => e = .returned (.int .i64 (Civ.num y m d)) ∧ w' = w := by
  by_cases h2 : m ≤ 2
  · have HN := hid (rnum_lo y m d hm0 h2)
    go_enter Tryd.func42, Tryd.ntmps42
    go_wp2_with (go_at_call 55; refine (rfloor_any _ _ _ (by omega) (by omega) (by omega) (by omega)).mono ?_; rintro e w' ⟨rfl, rfl⟩)
    go_ret
    exact ⟨ret_int HN.out.symm, rfl⟩
  · have HN := hid (rnum_hi y m d (by omega) hm1)
    go_enter Tryd.func42, Tryd.ntmps42
    go_wp2_with (go_at_call 55; refine (rfloor_any _ _ _ (by omega) (by omega) (by omega) (by omega)).mono ?_; rintro e w' ⟨rfl, rfl⟩)
    go_ret
    exact ⟨ret_int HN.out.symm, rfl⟩
end Go.Proofs.YtjocpbcmehicmaaDoor.Ci
