/- law2's Make: of any numbers a decimal. -/
import Derived.Test.YtjocpbcmehicmaaDoorDeMath
import Derived.Test.YtjocpbcmehicmaaDoorBase
namespace Go.Proofs.YtjocpbcmehicmaaDoor.De
open Go.RowKit

theorem tm0 (n d : Int) (hd : 0 < d) : n.tmod d = 0 ↔ n % d = 0 := by
  have h4 := Int.emod_nonneg n (show d ≠ 0 by omega)
  have h5 := Int.emod_lt_of_pos n hd
  rw [Int.tmod_eq_emod]
  split
  · omega
  · rename_i hc
    have : ¬ d ∣ n := fun h => hc (Or.inr h)
    have h6 : n % d ≠ 0 := fun h => this (Int.dvd_of_emod_eq_zero h)
    constructor
    · intro h; omega
    · intro h; exact absurd h h6
theorem td0 (n d : Int) (h : n % d = 0) : n.tdiv d = n / d := by
  rw [Int.tdiv_eq_ediv]
  rw [if_pos (Or.inr (Int.dvd_of_emod_eq_zero h))]; omega

theorem norm_step (m : Int) (s : Nat) (hs : 0 < s) (hm : m % 10 = 0) : Dc.norm m s = Dc.norm (m / 10) (s - 1) := by
  obtain ⟨k, rfl⟩ : ∃ k, s = k + 1 := ⟨s - 1, by omega⟩
  rw [Dc.norm, if_pos hm]; rfl
theorem norm_stop (m : Int) (s : Nat) (h : s = 0 ∨ ¬ m % 10 = 0) : Dc.norm m s = (m, s) := by
  cases s with
  | zero => rfl
  | succ k => rw [Dc.norm, if_neg (by omega)]

theorem norm_bd' (m : Int) (s : Nat) (h0 : -1000000000000000000 < m) (h1 : m < 1000000000000000000) : -1000000000000000000 < (Dc.norm m s).1 ∧ (Dc.norm m s).1 < 1000000000000000000 := Dc.norm_bd s m _ h0 h1

theorem tmod_neg (n d : Int) (hd : 0 < d) (h : n.tmod d < 0) : n.tmod d + d = n % d := by
  rw [Int.tmod_eq_emod] at *
  have h4 := Int.emod_nonneg n (show d ≠ 0 by omega)
  split at h
  · omega
  · rename_i hc; rw [if_neg hc]; omega
theorem tmod_pos (n d : Int) (hd : 0 < d) (h : 0 ≤ n.tmod d) : n.tmod d = n % d := by
  rw [Int.tmod_eq_emod] at *
  have h5 := Int.emod_lt_of_pos n hd
  split at h
  · rename_i hc; rw [if_pos hc]; omega
  · omega
theorem tdiv_bd (n d : Int) (hd : 0 < d) (b : Int) (h0 : -b ≤ n) (h1 : n ≤ b) : -b ≤ n.tdiv d ∧ n.tdiv d ≤ b := by
  by_cases hn : 0 ≤ n
  · rw [Int.tdiv_eq_ediv_of_nonneg hn]
    have h2 := Int.ediv_nonneg hn (show 0 ≤ d by omega)
    have h3 := Int.ediv_le_self d hn
    omega
  · have e : n.tdiv d = -((-n).tdiv d) := by rw [Int.neg_tdiv, Int.neg_neg]
    rw [e, Int.tdiv_eq_ediv_of_nonneg (show 0 ≤ -n by omega)]
    have h2 := Int.ediv_nonneg (show 0 ≤ -n by omega) (show 0 ≤ d by omega)
    have h3 := Int.ediv_le_self d (show 0 ≤ -n by omega)
    omega
theorem tdiv_bd' (c : Int) (h0 : -9223372036854775808 ≤ c) (h1 : c ≤ 9223372036854775807) : -9223372036854775807 ≤ c.tdiv 7 ∧ c.tdiv 7 ≤ 9223372036854775807 := by
  by_cases hn : 0 ≤ c
  · rw [Int.tdiv_eq_ediv_of_nonneg hn]; omega
  · have e : c.tdiv 7 = -((-c).tdiv 7) := by rw [Int.neg_tdiv, Int.neg_neg]
    rw [e, Int.tdiv_eq_ediv_of_nonneg (show 0 ≤ -c by omega)]; omega
theorem tmod_bd (n d : Int) (hd : 0 < d) : -d < n.tmod d ∧ n.tmod d < d := by
  have h1 := Int.tmod_lt_of_pos n hd
  have h2 := Int.tmod_lt_of_pos (-n) hd
  rw [Int.neg_tmod] at h2
  omega
theorem tdm_bd (n d : Int) (hd : 0 < d) (b : Int) (h0 : -b ≤ n) (h1 : n ≤ b) : -b ≤ n.tdiv d * d ∧ n.tdiv d * d ≤ b := by
  have e : n.tmod d + d * n.tdiv d = n := Int.tmod_add_mul_tdiv n d
  rw [Int.mul_comm] at e
  by_cases hn : 0 ≤ n
  · have h2 : 0 ≤ n.tmod d := Int.tmod_nonneg _ hn
    have h3 : 0 ≤ n.tdiv d * d := Int.mul_nonneg (Int.tdiv_nonneg hn (by omega)) (by omega)
    omega
  · have h2 : 0 ≤ (-n).tmod d := Int.tmod_nonneg _ (by omega)
    have h3 : 0 ≤ (-n).tdiv d * d := Int.mul_nonneg (Int.tdiv_nonneg (by omega) (by omega)) (by omega)
    rw [Int.neg_tmod] at h2
    rw [Int.neg_tdiv, Int.neg_mul] at h3
    omega

set_option maxHeartbeats 400000 in
theorem lwithin_any (n d : Int) (w : World) (h1 : 1 ≤ d) (h2 : d ≤ 1152921504606846976) :
    Calls Tryd.prog 54 #[.int .i64 n, .int .i64 d] w fun e w' => e = .returned (.int .i64 (n % d)) ∧ w' = w := by
  go_enter Tryd.func54, Tryd.ntmps54
  go_wp2
  · go_ret
    refine ⟨ret_int ?_, rfl⟩
    rw [tmod_neg n d (by omega) ‹_›]
    have h4 := Int.emod_nonneg n (show d ≠ 0 by omega)
    have h5 := Int.emod_lt_of_pos n (show 0 < d by omega)
    exact IntWalk.wrap64_in _ (by omega)
  · go_ret
    exact ⟨ret_int (tmod_pos n d (by omega) ‹_›), rfl⟩

set_option maxHeartbeats 1000000 in
theorem make_at (m c a0 a1 : Int) (p7 p11 : Int) (w : World) (c0 : -9223372036854775808 ≤ c) (c1 : c ≤ 9223372036854775807) (e7 : c % 7 = p7) (e11 : c % 11 = p11)
    (h0 : -1000000000000000000 < a0) (h1 : a0 < 1000000000000000000) (hm : p7 ≠ 0 ∧ a0 = m.tmod 1000000000000000000 ∨ p7 = 0 ∧ a0 = m % 2000 - 1000)
    (hn : p11 ≠ 0 ∧ a1 = a0 ∨ p11 = 0 ∧ a1 = a0.tdiv 1000000 * 1000000) (b0 : -1000000000000000000 < a1) (b1 : a1 < 1000000000000000000) :
    Calls Tryd.prog 41 #[.int .i64 m, .int .i64 c] w fun e w' => e = .returned (.tuple #[.int .i64 a1, .int .i64 (c.tdiv 7 % 19)]) ∧ w' = w := by
  have H7 : Hid (∀ w, Calls Tryd.prog 54 #[.int .i64 c, .int .i64 7] w fun e w' => e = .returned (.int .i64 p7) ∧ w' = w) := fun w => by rw [← e7]; exact lwithin_any c 7 w (by omega) (by omega)
  have H11 : Hid (∀ w, Calls Tryd.prog 54 #[.int .i64 c, .int .i64 11] w fun e w' => e = .returned (.int .i64 p11) ∧ w' = w) := fun w => by rw [← e11]; exact lwithin_any c 11 w (by omega) (by omega)
  have HK : Hid (∀ w, Calls Tryd.prog 54 #[.int .i64 m, .int .i64 2000] w fun e w' => e = .returned (.int .i64 (m % 2000)) ∧ w' = w) := fun w => lwithin_any m 2000 w (by omega) (by omega)
  have HS : Hid (∀ w, Calls Tryd.prog 54 #[.int .i64 (c.tdiv 7), .int .i64 19] w fun e w' => e = .returned (.int .i64 (c.tdiv 7 % 19)) ∧ w' = w) := fun w => lwithin_any _ 19 w (by omega) (by omega)
  have tc := tdiv_bd' c c0 c1
  have td := tdiv_bd a0 1000000 (by decide) 1000000000000000000 (by omega) (by omega)
  generalize c.tdiv 7 % 19 = k at *
  clear e7 e11
  rcases hm with ⟨q7, hm⟩ | ⟨q7, hm⟩ <;> rcases hn with ⟨q11, hn⟩ | ⟨q11, hn⟩
  · have n7 : (p7 == 0) = false := by simpa using q7
    have n11 : (p11 == 0) = false := by simpa using q11
    subst hm hn
    go_enter Tryd.func41, Tryd.ntmps41
    go_wp2_with fail
    refine (H7.out _).mono ?_
    rintro e w1 ⟨rfl, rfl⟩
    go_wp2_with fail
    refine (H11.out _).mono ?_
    rintro e w1 ⟨rfl, rfl⟩
    go_wp2_with fail
    refine (HS.out _).mono ?_
    rintro e w1 ⟨rfl, rfl⟩
    go_wp2
    go_ret2
    exact ⟨rfl, rfl⟩
  · have n7 : (p7 == 0) = false := by simpa using q7
    subst hm hn q11
    go_enter Tryd.func41, Tryd.ntmps41
    go_wp2_with fail
    refine (H7.out _).mono ?_
    rintro e w1 ⟨rfl, rfl⟩
    go_wp2_with fail
    refine (H11.out _).mono ?_
    rintro e w1 ⟨rfl, rfl⟩
    go_wp2_with fail
    refine (HS.out _).mono ?_
    rintro e w1 ⟨rfl, rfl⟩
    go_wp2
    go_ret2
    exact ⟨rfl, rfl⟩
  · have n11 : (p11 == 0) = false := by simpa using q11
    subst hm hn q7
    go_enter Tryd.func41, Tryd.ntmps41
    go_wp2_with fail
    refine (H7.out _).mono ?_
    rintro e w1 ⟨rfl, rfl⟩
    go_wp2_with fail
    refine (HK.out _).mono ?_
    rintro e w1 ⟨rfl, rfl⟩
    go_wp2_with fail
    refine (H11.out _).mono ?_
    rintro e w1 ⟨rfl, rfl⟩
    go_wp2_with fail
    refine (HS.out _).mono ?_
    rintro e w1 ⟨rfl, rfl⟩
    go_wp2
    go_ret2
    exact ⟨rfl, rfl⟩
  · subst hm hn q7 q11
    go_enter Tryd.func41, Tryd.ntmps41
    go_wp2_with fail
    refine (H7.out _).mono ?_
    rintro e w1 ⟨rfl, rfl⟩
    go_wp2_with fail
    refine (HK.out _).mono ?_
    rintro e w1 ⟨rfl, rfl⟩
    go_wp2_with fail
    refine (H11.out _).mono ?_
    rintro e w1 ⟨rfl, rfl⟩
    go_wp2_with fail
    refine (HS.out _).mono ?_
    rintro e w1 ⟨rfl, rfl⟩
    go_wp2
    go_ret2
    exact ⟨rfl, rfl⟩

theorem make_any (m c : Int) (c0 : -9223372036854775808 ≤ c) (c1 : c ≤ 9223372036854775807) : ∃ (a : Int) (s : Nat), -1000000000000000000 < a ∧ a < 1000000000000000000 ∧ s ≤ 18 ∧
    ∀ w, Calls Tryd.prog 41 #[.int .i64 m, .int .i64 c] w fun e w' => e = .returned (.tuple #[.int .i64 a, .int .i64 s]) ∧ w' = w := by
  obtain ⟨a0, h0, h1, hm⟩ : ∃ a0 : Int, -1000000000000000000 < a0 ∧ a0 < 1000000000000000000 ∧ (c % 7 ≠ 0 ∧ a0 = m.tmod 1000000000000000000 ∨ c % 7 = 0 ∧ a0 = m % 2000 - 1000) := by
    have := tmod_bd m 1000000000000000000 (by decide)
    by_cases h : c % 7 = 0
    · exact ⟨m % 2000 - 1000, by omega, by omega, Or.inr ⟨h, rfl⟩⟩
    · exact ⟨m.tmod 1000000000000000000, this.1, this.2, Or.inl ⟨h, rfl⟩⟩
  obtain ⟨a1, b0, b1, hn⟩ : ∃ a1 : Int, -1000000000000000000 < a1 ∧ a1 < 1000000000000000000 ∧ (c % 11 ≠ 0 ∧ a1 = a0 ∨ c % 11 = 0 ∧ a1 = a0.tdiv 1000000 * 1000000) := by
    have := tdm_bd a0 1000000 (by decide) 999999999999999999 (by omega) (by omega)
    by_cases h : c % 11 = 0
    · exact ⟨a0.tdiv 1000000 * 1000000, by omega, by omega, Or.inr ⟨h, rfl⟩⟩
    · exact ⟨a0, h0, h1, Or.inl ⟨h, rfl⟩⟩
  have hs0 : 0 ≤ c.tdiv 7 % 19 := by omega
  refine ⟨a1, (c.tdiv 7 % 19).toNat, b0, b1, by omega, fun w => ?_⟩
  rw [Int.toNat_of_nonneg hs0]
  exact make_at m c a0 a1 _ _ w c0 c1 rfl rfl h0 h1 hm hn b0 b1

end Go.Proofs.YtjocpbcmehicmaaDoor.De
