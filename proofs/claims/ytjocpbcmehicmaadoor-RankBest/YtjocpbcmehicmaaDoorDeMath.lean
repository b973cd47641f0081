/- Plain facts on decimals: norms, scales, parts ahead of the point and behind it, order; no program is spoken of. -/
namespace Go.Proofs.YtjocpbcmehicmaaDoor.De
namespace Dc
def ten (n : Nat) : Int := 10 ^ n
theorem ten0 : ten 0 = 1 := rfl
theorem tenS (n : Nat) : ten (n + 1) = 10 * ten n := by unfold ten; rw [Int.pow_succ, Int.mul_comm]
theorem ten_pos (n : Nat) : 0 < ten n := by unfold ten; exact Int.pow_pos (by decide)
theorem ten_add (a b : Nat) : ten (a + b) = ten a * ten b := by unfold ten; exact Int.pow_add _ _ _
theorem ten_le {a b : Nat} (h : a ≤ b) : ten a ≤ ten b := by
  obtain ⟨c, rfl⟩ := Nat.le.dest h
  rw [ten_add]
  have h1 := ten_pos a
  have h2 := ten_pos c
  have := Int.mul_le_mul_of_nonneg_left (show 1 ≤ ten c by omega) (show 0 ≤ ten a by omega)
  omega
theorem ten18 : ten 18 = 1000000000000000000 := by decide

/-- the normed decimal -/
def norm : Int → Nat → Int × Nat
  | m, 0 => (m, 0)
  | m, s + 1 => if m % 10 = 0 then norm (m / 10) s else (m, s + 1)
theorem norm_le : ∀ (s : Nat) (m : Int), (norm m s).2 ≤ s
  | 0, m => by simp [norm]
  | s + 1, m => by
    unfold norm; split
    · have := norm_le s (m / 10); omega
    · simp
theorem norm_eq : ∀ (s : Nat) (m : Int), m = (norm m s).1 * ten (s - (norm m s).2)
  | 0, m => by simp [norm, ten0]
  | s + 1, m => by
    unfold norm; split
    · have h := norm_eq s (m / 10)
      have hl := norm_le s (m / 10)
      rw [show s + 1 - (norm (m / 10) s).2 = (s - (norm (m / 10) s).2) + 1 by omega, tenS]
      have h2 : m = 10 * (m / 10) := by omega
      rw [← Int.mul_assoc, Int.mul_comm _ 10, Int.mul_assoc, ← h]; exact h2
    · simp [ten0]
theorem norm_short : ∀ (s : Nat) (m : Int), (norm m s).2 = 0 ∨ (norm m s).1 % 10 ≠ 0
  | 0, m => by simp [norm]
  | s + 1, m => by
    unfold norm; split
    · exact norm_short s (m / 10)
    · rename_i h; exact Or.inr h
theorem norm_zero : ∀ (s : Nat), norm 0 s = (0, 0)
  | 0 => rfl
  | s + 1 => by unfold norm; rw [if_pos (by decide)]; exact norm_zero s
theorem norm_neg : ∀ (s : Nat) (m : Int), norm (-m) s = (-(norm m s).1, (norm m s).2)
  | 0, m => rfl
  | s + 1, m => by
    have e : norm m (s + 1) = if m % 10 = 0 then norm (m / 10) s else (m, s + 1) := rfl
    have e' : norm (-m) (s + 1) = if -m % 10 = 0 then norm (-m / 10) s else (-m, s + 1) := rfl
    rw [e, e']
    by_cases h : m % 10 = 0
    · rw [if_pos h, if_pos (by omega), show -m / 10 = -(m / 10) by omega]; exact norm_neg s (m / 10)
    · rw [if_neg h, if_neg (by omega)]
theorem norm_bd (s : Nat) (m : Int) (b : Int) (h0 : -b < m) (h1 : m < b) : -b < (norm m s).1 ∧ (norm m s).1 < b := by
  have h := norm_eq s m
  have hp := ten_pos (s - (norm m s).2)
  generalize ten (s - (norm m s).2) = p at *
  generalize (norm m s).1 = n at *
  by_cases hn : 0 ≤ n
  · have := Int.mul_le_mul_of_nonneg_left (show 1 ≤ p by omega) hn
    omega
  · have := Int.mul_le_mul_of_nonneg_left (show 1 ≤ p by omega) (show 0 ≤ -n by omega)
    rw [Int.neg_mul, Int.neg_mul] at this
    omega

/-- the scale that a normed decimal has is the least one -/
theorem norm_min : ∀ (s : Nat) (m : Int) (t : Nat), t ≤ s → m % ten (s - t) = 0 → (norm m s).2 ≤ t
  | 0, m, t, _, _ => by simp [norm]
  | s + 1, m, t, ht, h => by
    by_cases e : t = s + 1
    · have := norm_le (s + 1) m; omega
    · have h10 : m % 10 = 0 := by
        rw [show s + 1 - t = (s - t) + 1 by omega, tenS] at h
        have := Int.dvd_of_emod_eq_zero h
        exact Int.emod_eq_zero_of_dvd (Int.dvd_trans (Int.dvd_mul_right 10 _) this)
      unfold norm; rw [if_pos h10]
      refine norm_min s (m / 10) t (by omega) ?_
      rw [show s + 1 - t = (s - t) + 1 by omega, tenS] at h
      obtain ⟨k, hk⟩ := Int.dvd_of_emod_eq_zero h
      have : m / 10 = ten (s - t) * k := by rw [Int.mul_assoc] at hk; omega
      rw [this]; exact Int.mul_emod_right _ _

/-- in so many digits behind the point: what the program reckons -/
def up (m : Int) : Nat → Option Int
  | 0 => some m
  | k + 1 => if -99999999999999999 ≤ m ∧ m ≤ 99999999999999999 then up (10 * m) k else none
def down (m : Int) : Nat → Option Int
  | 0 => some m
  | k + 1 => if m % 10 = 0 then down (m / 10) k else none
def scaled (m : Int) (s to : Nat) : Option Int := if to < s then down m (s - to) else up m (to - s)

theorem up_eq : ∀ (k : Nat) (m : Int), -1000000000000000000 < m → m < 1000000000000000000 → up m k = if -1000000000000000000 < m * ten k ∧ m * ten k < 1000000000000000000 then some (m * ten k) else none
  | 0, m, h0, h1 => by simp [up, ten0, h0, h1]
  | k + 1, m, h0, h1 => by
    unfold up
    have hp := ten_pos k
    have e : m * ten (k + 1) = 10 * m * ten k := by rw [tenS, ← Int.mul_assoc, Int.mul_comm m 10]
    rw [e]
    by_cases h : -99999999999999999 ≤ m ∧ m ≤ 99999999999999999
    · rw [if_pos h, up_eq k (10 * m) (by omega) (by omega)]
    · rw [if_neg h, if_neg]
      intro hc
      by_cases hm : 0 ≤ m
      · have := Int.mul_le_mul_of_nonneg_left (show 1 ≤ ten k by omega) (show 0 ≤ 10 * m by omega)
        omega
      · have := Int.mul_le_mul_of_nonneg_left (show 1 ≤ ten k by omega) (show 0 ≤ 10 * (-m) by omega)
        rw [Int.mul_neg, Int.neg_mul, Int.neg_mul] at this
        omega
theorem down_eq : ∀ (k : Nat) (m : Int), down m k = if m % ten k = 0 then some (m / ten k) else none
  | 0, m => by simp [down, ten0, Int.emod_one]
  | k + 1, m => by
    unfold down
    have hp := ten_pos k
    rw [tenS]
    by_cases h : m % 10 = 0
    · rw [if_pos h, down_eq k]
      obtain ⟨j, rfl⟩ := Int.dvd_of_emod_eq_zero h
      rw [Int.mul_ediv_cancel_left _ (by decide), Int.mul_emod_mul_of_pos _ _ (by decide), Int.mul_ediv_mul_of_pos _ _ (by decide)]
      by_cases h2 : j % ten k = 0
      · rw [if_pos h2, if_pos (by omega)]
      · rw [if_neg h2, if_neg (by omega)]
    · rw [if_neg h, if_neg]
      intro hc
      have := Int.dvd_of_emod_eq_zero hc
      exact h (Int.emod_eq_zero_of_dvd (Int.dvd_trans (Int.dvd_mul_right 10 _) this))

/-- what the reference reckons -/
def rscaled (m : Int) (s to : Nat) : Option Int :=
  if to < (norm m s).2 then none else
  if 999999999999999999 / ten (to - (norm m s).2) < (norm m s).1 ∨ 999999999999999999 / ten (to - (norm m s).2) < -(norm m s).1 then none else some ((norm m s).1 * ten (to - (norm m s).2))

theorem le_div (n p : Int) (hp : 0 < p) : (999999999999999999 / p < n) ↔ 1000000000000000000 ≤ n * p := by
  constructor
  · intro h
    have := (Int.ediv_lt_iff_lt_mul hp).1 h
    omega
  · intro h
    exact (Int.ediv_lt_iff_lt_mul hp).2 (by omega)

theorem scaled_eq (m : Int) (s to : Nat) (h0 : -1000000000000000000 < m) (h1 : m < 1000000000000000000) : scaled m s to = rscaled m s to := by
  have hl := norm_le s m
  have he := norm_eq s m
  have hmin := norm_min s m to
  unfold scaled rscaled
  generalize (norm m s).2 = t at *
  generalize (norm m s).1 = n at *
  have hp := ten_pos (to - t)
  have b1 := le_div n (ten (to - t)) hp
  have b2 := le_div (-n) (ten (to - t)) hp
  rw [Int.neg_mul] at b2
  by_cases hts : to < s
  · rw [if_pos hts, down_eq]
    by_cases htt : to < t
    · rw [if_pos htt, if_neg]
      intro hc
      have := hmin (by omega) hc
      omega
    · rw [if_neg htt]
      have e : m = n * ten (to - t) * ten (s - to) := by
        rw [Int.mul_assoc, ← ten_add, show to - t + (s - to) = s - t by omega]; exact he
      have hq := ten_pos (s - to)
      have hbd : -1000000000000000000 < n * ten (to - t) ∧ n * ten (to - t) < 1000000000000000000 := by
        generalize n * ten (to - t) = x at *
        generalize ten (s - to) = y at *
        by_cases hx : 0 ≤ x
        · have := Int.mul_le_mul_of_nonneg_left (show 1 ≤ y by omega) hx
          omega
        · have := Int.mul_le_mul_of_nonneg_left (show 1 ≤ y by omega) (show 0 ≤ -x by omega)
          rw [Int.neg_mul, Int.neg_mul] at this
          omega
      rw [if_pos (show m % ten (s - to) = 0 by rw [e]; exact Int.mul_emod_left _ _), if_neg (by omega)]
      conv => lhs; rw [e]
      rw [Int.mul_ediv_cancel _ (by omega)]
  · rw [if_neg hts, if_neg (by omega), up_eq _ _ h0 h1]
    have e : m * ten (to - s) = n * ten (to - t) := by
      conv => lhs; rw [he]
      rw [Int.mul_assoc, ← ten_add, show s - t + (to - s) = to - t by omega]
    rw [e]
    by_cases hb : -1000000000000000000 < n * ten (to - t) ∧ n * ten (to - t) < 1000000000000000000
    · rw [if_pos hb, if_neg (by omega)]
    · rw [if_neg hb, if_pos (by omega)]

theorem scaled_val (m : Int) (s to : Nat) (v : Int) (h : scaled m s to = some v) (h0 : -1000000000000000000 < m) (h1 : m < 1000000000000000000) (hs : s ≤ 18) (ht : to ≤ 18) :
    v * ten (18 - to) = m * ten (18 - s) ∧ -1000000000000000000 < v ∧ v < 1000000000000000000 := by
  unfold scaled at h
  by_cases hts : to < s
  · rw [if_pos hts, down_eq] at h
    split at h
    · rename_i hd
      obtain ⟨k, hk⟩ := Int.dvd_of_emod_eq_zero hd
      have hp := ten_pos (s - to)
      rw [hk, Int.mul_ediv_cancel_left _ (by omega)] at h
      obtain rfl : k = v := by simpa using h
      refine ⟨?_, ?_⟩
      · rw [hk, show 18 - to = (s - to) + (18 - s) by omega, ten_add, Int.mul_comm (ten (s - to)) k, Int.mul_assoc]
      · generalize ten (s - to) = y at *
        by_cases hx : 0 ≤ k
        · have := Int.mul_le_mul_of_nonneg_right (show 1 ≤ y by omega) hx
          omega
        · have := Int.mul_le_mul_of_nonneg_right (show 1 ≤ y by omega) (show 0 ≤ -k by omega)
          rw [Int.mul_neg, Int.mul_neg] at this
          omega
    · cases h
  · rw [if_neg hts, up_eq _ _ h0 h1] at h
    split at h
    · rename_i hb
      obtain rfl := Option.some.inj h
      exact ⟨by rw [Int.mul_assoc, ← ten_add, show to - s + (18 - to) = 18 - s by omega], hb⟩
    · cases h

theorem up_neg : ∀ (k : Nat) (m : Int), up (-m) k = (up m k).map (fun x => -x)
  | 0, m => rfl
  | k + 1, m => by
    unfold up
    by_cases h : -99999999999999999 ≤ m ∧ m ≤ 99999999999999999
    · rw [if_pos h, if_pos (by omega), Int.mul_neg]; exact up_neg k (10 * m)
    · rw [if_neg h, if_neg (by omega)]; rfl
theorem down_neg : ∀ (k : Nat) (m : Int), down (-m) k = (down m k).map (fun x => -x)
  | 0, m => rfl
  | k + 1, m => by
    unfold down
    by_cases h : m % 10 = 0
    · rw [if_pos h, if_pos (by omega), show -m / 10 = -(m / 10) by omega]; exact down_neg k (m / 10)
    · rw [if_neg h, if_neg (by omega)]; rfl
theorem scaled_neg (m : Int) (s to : Nat) : scaled (-m) s to = (scaled m s to).map (fun x => -x) := by
  unfold scaled; split
  · exact down_neg _ _
  · exact up_neg _ _

/-- order -/
def ord (a b : Int) : Int := if a < b then -1 else if b < a then 1 else 0
def hi (m : Int) (s : Nat) : Int := m.tdiv (ten s)
def lo (m : Int) (s : Nat) : Int := m.tmod (ten s) * ten (18 - s)
def cmp (m : Int) (s : Nat) (n : Int) (t : Nat) : Int := if ord (hi m s) (hi n t) ≠ 0 then ord (hi m s) (hi n t) else ord (lo m s) (lo n t)
def val (m : Int) (s : Nat) : Int := m * ten (18 - s)

theorem parts (m : Int) (s : Nat) (hs : s ≤ 18) : val m s = hi m s * 1000000000000000000 + lo m s ∧ -1000000000000000000 < lo m s ∧ lo m s < 1000000000000000000 ∧ (0 < hi m s → 0 ≤ lo m s) ∧ (hi m s < 0 → lo m s ≤ 0) := by
  have hp := ten_pos s
  have hq := ten_pos (18 - s)
  have e18 : ten s * ten (18 - s) = 1000000000000000000 := by rw [← ten_add, show s + (18 - s) = 18 by omega, ten18]
  have h : m.tmod (ten s) + ten s * m.tdiv (ten s) = m := Int.tmod_add_mul_tdiv m (ten s)
  unfold val hi lo
  have l0 : 0 ≤ m → 0 ≤ m.tmod (ten s) := fun h => Int.tmod_nonneg _ h
  have l1 : m < 0 → m.tmod (ten s) ≤ 0 := fun h => by
    have := Int.tmod_nonneg (a := -m) (ten s) (by omega)
    rw [Int.neg_tmod] at this; omega
  have q0 : 0 ≤ m → 0 ≤ m.tdiv (ten s) := fun h => Int.tdiv_nonneg h (by omega)
  have q1 : m < 0 → m.tdiv (ten s) ≤ 0 := fun h => by
    have := Int.tdiv_nonneg (a := -m) (b := ten s) (by omega) (by omega)
    rw [Int.neg_tdiv] at this; omega
  have a1 := Int.tmod_lt_of_pos m hp
  have a2 : -ten s < m.tmod (ten s) := by
    have := Int.tmod_lt_of_pos (-m) hp
    rw [Int.neg_tmod] at this; omega
  generalize m.tmod (ten s) = r at *
  generalize m.tdiv (ten s) = q at *
  generalize ten (18 - s) = y at *
  generalize ten s = x at *
  refine ⟨?_, ?_, ?_, ?_, ?_⟩
  · rw [← h, Int.add_mul, Int.mul_comm x q, Int.mul_assoc, e18]; omega
  · have := Int.mul_lt_mul_of_pos_right a2 hq
    rw [Int.neg_mul, e18] at this; omega
  · have := Int.mul_lt_mul_of_pos_right a1 hq
    rw [e18] at this; omega
  · intro hq0
    by_cases hm : 0 ≤ m
    · exact Int.mul_nonneg (l0 hm) (by omega)
    · have := q1 (by omega); omega
  · intro hq0
    by_cases hm : 0 ≤ m
    · have := q0 hm; omega
    · have := Int.mul_le_mul_of_nonneg_right (l1 (by omega)) (show 0 ≤ y by omega)
      omega

theorem cmp_val (m : Int) (s : Nat) (n : Int) (t : Nat) (hs : s ≤ 18) (ht : t ≤ 18) : cmp m s n t = ord (val m s) (val n t) := by
  obtain ⟨a1, a2, a3, a4, a5⟩ := parts m s hs
  obtain ⟨b1, b2, b3, b4, b5⟩ := parts n t ht
  unfold cmp
  generalize val m s = x at *
  generalize val n t = y at *
  generalize hi m s = p at *
  generalize hi n t = q at *
  generalize lo m s = u at *
  generalize lo n t = v at *
  unfold ord
  by_cases h1 : p < q
  · rw [if_pos h1, if_pos (by decide), if_pos (by omega)]
  · by_cases h2 : q < p
    · rw [if_neg h1, if_pos h2, if_pos (by decide), if_neg (by omega), if_pos (by omega)]
    · rw [if_neg h1, if_neg h2, if_neg (by decide)]
      by_cases h3 : u < v
      · rw [if_pos h3, if_pos (by omega)]
      · by_cases h4 : v < u
        · rw [if_neg h3, if_pos h4, if_neg (by omega), if_pos (by omega)]
        · rw [if_neg h3, if_neg h4, if_neg (by omega), if_neg (by omega)]
theorem ord_self (a : Int) : ord a a = 0 := by unfold ord; rw [if_neg (by omega), if_neg (by omega)]
theorem ord_lt {a b : Int} (h : a < b) : ord a b = -1 := by unfold ord; rw [if_pos h]
theorem ord_gt {a b : Int} (h : b < a) : ord a b = 1 := by unfold ord; rw [if_neg (by omega), if_pos h]
theorem ord_turn (a b : Int) : ord b a = 0 - ord a b := by
  unfold ord
  by_cases h1 : a < b
  · rw [if_pos h1, if_neg (by omega), if_pos h1]; rfl
  · by_cases h2 : b < a
    · rw [if_pos h2, if_neg h1, if_pos h2]; rfl
    · rw [if_neg h2, if_neg h1, if_neg h1, if_neg h2]; rfl
theorem ord_pos {a b : Int} : 0 < ord a b ↔ b < a := by
  unfold ord; split
  · omega
  · split <;> omega
theorem ord_bd (a b : Int) : -1 ≤ ord a b ∧ ord a b ≤ 1 := by
  unfold ord; split
  · omega
  · split <;> omega
theorem val_norm (m : Int) (s : Nat) (hs : s ≤ 18) : val (norm m s).1 (norm m s).2 = val m s := by
  have h := norm_eq s m
  have hl := norm_le s m
  unfold val
  conv => rhs; rw [h]
  rw [Int.mul_assoc, ← ten_add, show s - (norm m s).2 + (18 - s) = 18 - (norm m s).2 by omega]
end Dc
end Go.Proofs.YtjocpbcmehicmaaDoor.De
