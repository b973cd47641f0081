/- The statements' own helpers: known holds; Day gives, of any number, a day that is, of a year -10000 to 20000, or 1 to 9999. -/
import Derived.Test.YtokigbdnihamiaaRef
namespace Go.Proofs.Ytokigbdnihamiaa
open Go.RowKit

def dayY (n : Int) (wide : Bool) : Int := if wide then n.tdiv 400 % 30001 - 10000 else 1 + n.tdiv 400 % 9999
def dayM (n : Int) : Int := 1 + n % 12
def dayD (n : Int) (wide : Bool) : Int := 1 + n.tdiv 12 % Civ.len (dayY n wide) (dayM n)

theorem day_vld (n : Int) (wide : Bool) : Civ.vld (dayY n wide) (dayM n) (dayD n wide) = true := by
  have hl := len_le (dayY n wide) (dayM n)
  rw [Civ.vld_iff]
  have h4 := Int.emod_nonneg (n.tdiv 12) (show Civ.len (dayY n wide) (dayM n) ≠ 0 by omega)
  have h5 := Int.emod_lt_of_pos (n.tdiv 12) (show 0 < Civ.len (dayY n wide) (dayM n) by omega)
  refine ⟨by unfold dayM; omega, by unfold dayM; omega, by unfold dayD; omega, by unfold dayD; omega⟩
theorem dayY_bd (n : Int) (wide : Bool) : -10000 ≤ dayY n wide ∧ dayY n wide ≤ 20000 := by
  unfold dayY; split <;> omega
theorem dayY_narrow (n : Int) : 1 ≤ dayY n false ∧ dayY n false ≤ 9999 := by
  unfold dayY; simp; omega

set_option maxHeartbeats 1000000 in
theorem day_any (n : Int) (wide : Bool) (w : World) (h0 : -9223372036854775808 ≤ n) (h1 : n ≤ 9223372036854775807) :
    Calls Try.prog 10 #[.int .i64 n, .bool wide] w fun e w' => e = .returned (.tuple #[.int .i64 (dayY n wide), .int .i64 (dayM n), .int .i64 (dayD n wide)]) ∧ w' = w := by
  have hl := len_le (dayY n wide) (dayM n)
  have h4 := Int.emod_nonneg (n.tdiv 12) (show Civ.len (dayY n wide) (dayM n) ≠ 0 by omega)
  have h5 := Int.emod_lt_of_pos (n.tdiv 12) (show 0 < Civ.len (dayY n wide) (dayM n) by omega)
  have HM : Hid (dayM n = 1 + n % 12) := rfl
  have HD : Hid (dayD n wide = 1 + n.tdiv 12 % Civ.len (dayY n wide) (dayM n)) := rfl
  cases wide
  · have HY : Hid (dayY n false = 1 + n.tdiv 400 % 9999) := rfl
    go_enter Try.func10, Try.ntmps10
    go_wp2_with (go_at_call 17; refine (lwithin_any _ _ _ (by omega) (by omega)).mono ?_; rintro e w' ⟨rfl, rfl⟩)
    rw [← HY.out, ← HM.out]
    refine (rlen_any _ _ _).mono ?_
    rintro e w' ⟨rfl, rfl⟩
    go_wp2_with (go_at_call 17; refine (lwithin_any _ _ _ (by omega) (by omega)).mono ?_; rintro e w' ⟨rfl, rfl⟩)
    go_ret3
    exact ⟨rfl, rfl⟩
  · have HY : Hid (dayY n true = n.tdiv 400 % 30001 - 10000) := rfl
    go_enter Try.func10, Try.ntmps10
    go_wp2_with (go_at_call 17; refine (lwithin_any _ _ _ (by omega) (by omega)).mono ?_; rintro e w' ⟨rfl, rfl⟩)
    rw [← HY.out, ← HM.out]
    refine (rlen_any _ _ _).mono ?_
    rintro e w' ⟨rfl, rfl⟩
    go_wp2_with (go_at_call 17; refine (lwithin_any _ _ _ (by omega) (by omega)).mono ?_; rintro e w' ⟨rfl, rfl⟩)
    go_ret3
    exact ⟨rfl, rfl⟩

theorem k11016 : Civ.cY 11016 = 2000 ∧ Civ.cM 11016 = 2 ∧ Civ.cD 11016 = 29 := by decide
theorem kadd : addV 2000 1 31 1 0 = tup 2000 2 29 true := by
  unfold addV
  rw [if_pos (by decide), show Civ.cY (addK 2000 1 31 1 0) = 2000 by decide, show Civ.cM (addK 2000 1 31 1 0) = 2 by decide, show Civ.cD (addK 2000 1 31 1 0) = 29 by decide]

set_option maxHeartbeats 1000000 in
theorem known_any (w : World) :
    Calls Try.prog 9 #[] w fun e w' => e = .returned (.bool true) ∧ Below w.heap.size w w' := by
  have H1 : Hid (∀ w, Calls Try.prog 12 #[.int .i64 11016] w fun e w' => e = .returned (.tuple #[.int .i64 2000, .int .i64 2, .int .i64 29]) ∧ Below w.heap.size w w') := fun w => by
    have := civil_in 11016 w (by decide) (by decide) (by decide) (by decide)
    rw [k11016.1, k11016.2.1, k11016.2.2] at this
    exact this
  have H2 : Hid (∀ w, Calls Try.prog 22 #[.int .i64 2000, .int .i64 1, .int .i64 31, .int .i64 1, .int .i64 0] w fun e w' => e = .returned (.tuple #[.int .i64 2000, .int .i64 2, .int .i64 29, .bool true]) ∧ Below w.heap.size w w') := fun w => by
    have := add_any 2000 1 31 1 0 w (by decide) (by decide) (by decide)
    rw [kadd] at this
    exact this
  have H3 : Hid (∀ w, Calls Try.prog 11 #[.int .i64 1970, .int .i64 1, .int .i64 2] w fun e w' => e = .returned (.int .i64 1) ∧ Below w.heap.size w w') := fun w => days_in 1970 1 2 w (by decide) (by decide) (by decide)
  have H4 : Hid (∀ w, Calls Try.prog 14 #[.int .i64 1970, .int .i64 1, .int .i64 1] w fun e w' => e = .returned (.int .i64 3) ∧ Below w.heap.size w w') := fun w => wday_in 1970 1 1 w (by decide) (by decide) (by decide)
  have H5 : Hid (∀ w, Calls Try.prog 16 #[.int .i64 1900, .int .i64 2] w fun e w' => e = .returned (.int .i64 28) ∧ w' = w) := fun w => length_in 1900 2 w (by decide) (by decide) (by decide) (by decide)
  go_enter Try.func9, Try.ntmps9
  go_wp2_with fail
  refine (H1.out _).mono ?_
  rintro e w1 ⟨rfl, b1⟩
  go_wp2_with fail
  refine (H2.out _).mono ?_
  rintro e w2 ⟨rfl, b2⟩
  go_wp2_with fail
  refine (H3.out _).mono ?_
  rintro e w3 ⟨rfl, b3⟩
  go_wp2_with fail
  refine (H4.out _).mono ?_
  rintro e w4 ⟨rfl, b4⟩
  go_wp2_with fail
  refine (H5.out _).mono ?_
  rintro e w5 ⟨rfl, rfl⟩
  go_wp2
  go_ret
  exact ⟨rfl, up_trans (up_trans (up_trans b1 b2) b3) b4⟩
end Go.Proofs.Ytokigbdnihamiaa
