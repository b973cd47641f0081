/- The statements' own helpers: known holds; Day gives, of any number, a day that is, of a year -10000 to 20000, or 1 to 9999. -/
import Derived.Test.YtjocpbcmehicmaaDoorCiRef
namespace Go.Proofs.YtjocpbcmehicmaaDoor.Ci
open Go.RowKit

def dayY (n : Int) (wide : Bool) : Int := if wide then n.tdiv 400 % 30001 - 10000 else 1 + n.tdiv 400 % 9999
def dayM (n : Int) : Int := 1 + n % 12
def dayD (n : Int) (wide : Bool) : Int := 1 + n.tdiv 12 % Civ.len (dayY n wide) (dayM n)

theorem day_vld (n : Int) (wide : Bool) : Civ.vld (dayY n wide) (dayM n) (dayD n wide) = true := by
  have hl := len_le (dayY n wide) (dayM n)
  rw [Civ.vld_iff]
  have h4 := Int.emod_nonneg (n.tdiv 12) (show Civ.len (dayY n wide) (dayM n) ≠ 0 by omega)
  have h5 := Int.emod_lt_of_pos (n.tdiv 12) (show 0 < Civ.len (dayY n wide) (dayM n) by omega)
  refine ⟨by unfold dayM; omega, by unfold dayM; omega, by unfold dayD; omega, by unfold dayD; omega⟩
theorem dayY_bd (n : Int) (wide : Bool) : -10000 ≤ dayY n wide ∧ dayY n wide ≤ 20000 := by
  unfold dayY; split <;> omega
theorem dayY_narrow (n : Int) : 1 ≤ dayY n false ∧ dayY n false ≤ 9999 := by
  unfold dayY; simp; omega

set_option maxHeartbeats 1000000 in
theorem day_any (n : Int) (wide : Bool) (w : World) (h0 : -9223372036854775808 ≤ n) (h1 : n ≤ 9223372036854775807) :
    Calls Tryd.prog 39 #[.int .i64 n, .bool wide] w fun e w' => e = .returned (.tuple #[.int .i64 (dayY n wide), .int .i64 (dayM n), .int .i64 (dayD n wide)]) ∧ w' = w := by
  have hl := len_le (dayY n wide) (dayM n)
  have h4 := Int.emod_nonneg (n.tdiv 12) (show Civ.len (dayY n wide) (dayM n) ≠ 0 by omega)
  have h5 := Int.emod_lt_of_pos (n.tdiv 12) (show 0 < Civ.len (dayY n wide) (dayM n) by omega)
  have HM : Hid (dayM n = 1 + n % 12) := rfl
  have HD : Hid (dayD n wide = 1 + n.tdiv 12 % Civ.len (dayY n wide) (dayM n)) := rfl
  cases wide
  · have HY : Hid (dayY n false = 1 + n.tdiv 400 % 9999) := rfl
    go_enter Tryd.func39, Tryd.ntmps39
    go_wp2_with (go_at_call 52; refine (lwithin_any _ _ _ (by omega) (by omega)).mono ?_; rintro e w' ⟨rfl, rfl⟩)
    rw [← HY.out, ← HM.out]
    refine (rlen_any _ _ _).mono ?_
    rintro e w' ⟨rfl, rfl⟩
    go_wp2_with (go_at_call 52; refine (lwithin_any _ _ _ (by omega) (by omega)).mono ?_; rintro e w' ⟨rfl, rfl⟩)
    go_ret3
    exact ⟨rfl, rfl⟩
  · have HY : Hid (dayY n true = n.tdiv 400 % 30001 - 10000) := rfl
    go_enter Tryd.func39, Tryd.ntmps39
    go_wp2_with (go_at_call 52; refine (lwithin_any _ _ _ (by omega) (by omega)).mono ?_; rintro e w' ⟨rfl, rfl⟩)
    rw [← HY.out, ← HM.out]
    refine (rlen_any _ _ _).mono ?_
    rintro e w' ⟨rfl, rfl⟩
    go_wp2_with (go_at_call 52; refine (lwithin_any _ _ _ (by omega) (by omega)).mono ?_; rintro e w' ⟨rfl, rfl⟩)
    go_ret3
    exact ⟨rfl, rfl⟩

theorem k11016 : Civ.cY 11016 = 2000 ∧ Civ.cM 11016 = 2 ∧ Civ.cD 11016 = 29 := by decide
theorem kadd : addV 2000 1 31 1 0 = tup 2000 2 29 true := by
  unfold addV
  rw [if_pos (by decide), show Civ.cY (addK 2000 1 31 1 0) = 2000 by decide, show Civ.cM (addK 2000 1 31 1 0) = 2 by decide, show Civ.cD (addK 2000 1 31 1 0) = 29 by decide]

end Go.Proofs.YtjocpbcmehicmaaDoor.Ci
