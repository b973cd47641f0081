/- What the small functions of package civil and of the reference answer: divisions that round down, days ahead of a year and of a month, leap years, lengths of months, bounds; each for every argument in the stated range, each leaving the world as it is. -/
import Derived.Test.YtjocpbcmehicmaaDoorProg
import Derived.Test.YtjocpbcmehicmaaDoorCiMath
import Derived.WalkKit
import Derived.WalkSpells
namespace Go.Proofs.YtjocpbcmehicmaaDoor.Ci
open Go.RowKit

theorem ret_int {k : IntKind} {a b : Int} (h : a = b) : Ending.returned (.int k a) = .returned (.int k b) := by rw [h]
theorem ret_bool {a b : Bool} (h : a = b) : Ending.returned (.bool a) = .returned (.bool b) := by rw [h]

theorem floor_neg (n d : Int) (hd : 0 < d) (h : n.tmod d < 0) : n.tdiv d - 1 = n / d := by
  rw [Int.tmod_eq_emod] at h
  rw [Int.tdiv_eq_ediv, Int.sign_eq_one_of_pos hd]
  have h4 := Int.emod_nonneg n (show d ≠ 0 by omega)
  split at h
  · omega
  · rename_i hc; rw [if_neg hc]; omega
theorem floor_pos (n d : Int) (hd : 0 < d) (h : 0 ≤ n.tmod d) : n.tdiv d = n / d := by
  rw [Int.tmod_eq_emod] at h
  rw [Int.tdiv_eq_ediv, Int.sign_eq_one_of_pos hd]
  have h5 := Int.emod_lt_of_pos n hd
  split at h
  · rename_i hc; rw [if_pos hc]; omega
  · omega
theorem tmod_neg (n d : Int) (hd : 0 < d) (h : n.tmod d < 0) : n.tmod d + d = n % d := by
  rw [Int.tmod_eq_emod] at *
  have h4 := Int.emod_nonneg n (show d ≠ 0 by omega)
  split at h
  · omega
  · rename_i hc; rw [if_neg hc]; omega
theorem tmod_pos (n d : Int) (hd : 0 < d) (h : 0 ≤ n.tmod d) : n.tmod d = n % d := by
  rw [Int.tmod_eq_emod] at *
  have h5 := Int.emod_lt_of_pos n hd
  split at h
  · rename_i hc; rw [if_pos hc]; omega
  · omega
theorem tm0 (n d : Int) (hd : 0 < d) : n.tmod d = 0 ↔ n % d = 0 := by
  have h4 := Int.emod_nonneg n (show d ≠ 0 by omega)
  have h5 := Int.emod_lt_of_pos n hd
  rw [Int.tmod_eq_emod]
  split
  · omega
  · rename_i hc
    have : ¬ d ∣ n := fun h => hc (Or.inr h)
    have h6 : n % d ≠ 0 := fun h => this (Int.dvd_of_emod_eq_zero h)
    constructor
    · intro h; omega
    · intro h; exact absurd h h6

theorem div_bd (n d : Int) (hd : 2 ≤ d) (h3 : -9223372036854775807 ≤ n) (h4 : n ≤ 9223372036854775807) : -9223372036854775807 ≤ n / d ∧ n / d ≤ 9223372036854775807 := by
  have h1 := Int.emod_nonneg n (show d ≠ 0 by omega)
  have h5 := Int.emod_lt_of_pos n (show 0 < d by omega)
  have h6 := Int.mul_ediv_add_emod n d
  by_cases hq : 0 ≤ n / d
  · have : 2 * (n / d) ≤ d * (n / d) := Int.mul_le_mul_of_nonneg_right hd hq
    omega
  · have : d * (n / d) ≤ 2 * (n / d) := Int.mul_le_mul_of_nonpos_right hd (by omega)
    by_cases hn : 0 ≤ n
    · have := Int.ediv_nonneg hn (show 0 ≤ d by omega); omega
    · have h7 : n ≤ n / d := by
        have : (-n) * 1 ≤ (-n) * d := Int.mul_le_mul_of_nonneg_left (by omega) (by omega)
        exact Int.le_ediv_of_mul_le (by omega) (by rw [Int.neg_mul, Int.neg_mul] at this; omega)
      omega

set_option maxHeartbeats 400000 in
theorem rfloor_any (n d : Int) (w : World) (h1 : 2 ≤ d) (h2 : d ≤ 1000000) (h3 : -9223372036854775807 ≤ n) (h4 : n ≤ 9223372036854775807) :
    Calls Tryd.prog 55 #[.int .i64 n, .int .i64 d] w fun e w' => e = .returned (.int .i64 (n / d)) ∧ w' = w := by
  go_enter Tryd.func55, Tryd.ntmps55
  go_wp2
  · go_ret
    have hb := div_bd n d h1 h3 h4
    refine ⟨ret_int ?_, rfl⟩
    rw [floor_neg n d (by omega) ‹_›]
    exact IntWalk.wrap64_in _ (by omega)
  · go_ret
    exact ⟨ret_int (floor_pos n d (by omega) ‹_›), rfl⟩

set_option maxHeartbeats 400000 in
theorem rleap_any (y : Int) (w : World) :
    Calls Tryd.prog 68 #[.int .i64 y] w fun e w' => e = .returned (.bool (Civ.lp y)) ∧ w' = w := by
  have a4 := tm0 y 4 (by omega)
  have a100 := tm0 y 100 (by omega)
  have a400 := tm0 y 400 (by omega)
  have A : Hid ((y.tmod 4 = 0 ↔ y % 4 = 0) ∧ (y.tmod 100 = 0 ↔ y % 100 = 0) ∧ (y.tmod 400 = 0 ↔ y % 400 = 0)) := ⟨a4, a100, a400⟩
  clear a4 a100 a400
  go_enter Tryd.func68, Tryd.ntmps68
  go_wp2
  all_goals
    go_ret
    obtain ⟨a4, a100, a400⟩ := A.out
    refine ⟨ret_bool (Bool.eq_iff_iff.2 ?_), rfl⟩
    unfold Civ.lp
    simp_all

set_option maxHeartbeats 400000 in
theorem rlen_any (y m : Int) (w : World) :
    Calls Tryd.prog 53 #[.int .i64 y, .int .i64 m] w fun e w' => e = .returned (.int .i64 (Civ.len y m)) ∧ w' = w := by
  by_cases h2 : m = 2
  · subst h2
    cases hl : Civ.lp y
    all_goals
      have L : Hid (Civ.lp y = _) := hl
      have hc := rleap_any y
      rw [hl] at hc
      clear hl
      have HC : Hid (∀ w, Calls Tryd.prog 68 #[.int .i64 y] w fun e w' => e = .returned (.bool _) ∧ w' = w) := hc
      clear hc
      go_enter Tryd.func53, Tryd.ntmps53
      go_wp2_with (go_at_call 68; refine (HC.out _).mono ?_; rintro e w' ⟨rfl, rfl⟩)
      go_ret
      refine ⟨ret_int ?_, rfl⟩
      unfold Civ.len
      rw [L.out]
      rfl
  · have b2 : (m == 2) = false := by simp [h2]
    by_cases h4 : m = 4 ∨ m = 6 ∨ m = 9 ∨ m = 11
    · have e30 : Hid (Civ.len y m = 30) := by unfold Hid Civ.len; rw [if_neg h2, if_pos h4]
      clear h2
      rcases h4 with rfl | rfl | rfl | rfl
      all_goals
        go_enter Tryd.func53, Tryd.ntmps53
        go_wp2
        go_ret
        exact ⟨ret_int e30.out.symm, rfl⟩
    · have e31 : Hid (Civ.len y m = 31) := by unfold Hid Civ.len; rw [if_neg h2, if_neg h4]
      have b4 : (m == 4) = false := by simp; omega
      have b6 : (m == 6) = false := by simp; omega
      have b9 : (m == 9) = false := by simp; omega
      have b11 : (m == 11) = false := by simp; omega
      clear h2 h4
      go_enter Tryd.func53, Tryd.ntmps53
      go_wp2
      go_ret
      exact ⟨ret_int e31.out.symm, rfl⟩

def inB (n a b : Int) : Bool := decide (a ≤ n) && decide (n ≤ b)
theorem inB_true {n a b : Int} (h1 : a ≤ n) (h2 : n ≤ b) : inB n a b = true := by unfold inB; simp [h1, h2]
theorem inB_false {n a b : Int} (h : n < a ∨ b < n) : inB n a b = false := by unfold inB; simp; omega
theorem inB_iff {n a b : Int} : inB n a b = true ↔ a ≤ n ∧ n ≤ b := by unfold inB; simp

set_option maxHeartbeats 400000 in
theorem lwithin_any (n d : Int) (w : World) (h1 : 1 ≤ d) (h2 : d ≤ 100000000) :
    Calls Tryd.prog 52 #[.int .i64 n, .int .i64 d] w fun e w' => e = .returned (.int .i64 (n % d)) ∧ w' = w := by
  go_enter Tryd.func52, Tryd.ntmps52
  go_wp2
  · go_ret
    refine ⟨ret_int ?_, rfl⟩
    rw [tmod_neg n d (by omega) ‹_›]
    have h4 := Int.emod_nonneg n (show d ≠ 0 by omega)
    have h5 := Int.emod_lt_of_pos n (show 0 < d by omega)
    exact IntWalk.wrap64_in _ (by omega)
  · go_ret
    exact ⟨ret_int (tmod_pos n d (by omega) ‹_›), rfl⟩
end Go.Proofs.YtjocpbcmehicmaaDoor.Ci
