/- Plain facts on the text of a decimal: numerals, digits behind the point, what the digits are worth; no program is spoken of. -/
import Derived.Test.YtoklknioeoodbabDoorMath
import Derived.Lib.ItoaNum
import Derived.Lib.ItoaMem
namespace Go.Proofs.YtoklknioeoodbabDoor
namespace Dc
open Go.Lib (decDigits nDigits)

/-- a number's last k digits -/
def pad : Nat → Nat → List UInt8
  | _, 0 => []
  | n, k + 1 => pad (n / 10) k ++ [UInt8.ofNat (48 + n % 10)]
theorem pad_length : ∀ (k n : Nat), (pad n k).length = k
  | 0, _ => rfl
  | k + 1, n => by simp [pad, pad_length k]
/-- from the other end -/
theorem pad_front : ∀ (k n : Nat), pad n (k + 1) = UInt8.ofNat (48 + n / 10 ^ k % 10) :: pad n k
  | 0, n => by simp [pad]
  | k + 1, n => by
    rw [pad, pad_front k (n / 10), pad, List.cons_append, Nat.div_div_eq_div_mul, show 10 * 10 ^ k = 10 ^ (k + 1) by rw [Nat.pow_succ, Nat.mul_comm]]
theorem dec_one : ∀ (s r : Nat), r < 10 ^ s → decDigits (10 ^ s + r) = 49 :: pad r s
  | 0, r, h => by
    obtain rfl : r = 0 := by simp at h; exact h
    rw [Lib.decDigits_one (by decide)]; rfl
  | s + 1, r, h => by
    have hp : 1 ≤ 10 ^ s := Nat.one_le_pow _ _ (by decide)
    rw [Nat.pow_succ] at h
    rw [decDigits, dif_neg (by rw [Nat.pow_succ]; omega), show (10 ^ (s + 1) + r) / 10 = 10 ^ s + r / 10 by rw [Nat.pow_succ]; omega, show (10 ^ (s + 1) + r) % 10 = r % 10 by rw [Nat.pow_succ]; omega, dec_one s (r / 10) (by omega)]
    rfl
theorem dec_pad (u : Nat) : decDigits u = pad u (nDigits u) := by
  induction u using Nat.strongRecOn with
  | _ u ih =>
    by_cases h : u < 10
    · rw [Lib.decDigits_one h, Lib.nDigits_small h]; simp [pad, Nat.mod_eq_of_lt h]
    · rw [decDigits, dif_neg h, Lib.nDigits_big h, ih (u / 10) (by omega)]; rfl
theorem nDigits_low (u : Nat) (k : Nat) (h : k < nDigits u) : k = 0 ∨ 10 ^ k ≤ u := by
  induction u using Nat.strongRecOn generalizing k with
  | _ u ih =>
    by_cases hu : u < 10
    · rw [Lib.nDigits_small hu] at h; omega
    · rw [Lib.nDigits_big hu] at h
      cases k with
      | zero => exact Or.inl rfl
      | succ k =>
        right
        rw [Nat.pow_succ]
        rcases ih (u / 10) (by omega) k (by omega) with h | h
        · subst h; simp; omega
        · omega

/-- the sign -/
def sgn (m : Int) : List UInt8 := if m < 0 then [45] else []
/-- the text of a decimal -/
def text (m : Int) (s : Nat) : List UInt8 := sgn m ++ decDigits (m.natAbs / 10 ^ s) ++ (if s = 0 then [] else 46 :: pad (m.natAbs % 10 ^ s) s)

/-- what the digits of a text are worth, read on from n -/
def worth : Int → List UInt8 → Int
  | n, [] => n
  | n, c :: l => worth (if 48 ≤ c.toNat ∧ c.toNat ≤ 57 then 10 * n + (c.toNat - 48) else n) l
def points : Int → List UInt8 → Int
  | n, [] => n
  | n, c :: l => points (if c.toNat = 46 then n + 1 else n) l
theorem worth_append : ∀ (l r : List UInt8) (n : Int), worth n (l ++ r) = worth (worth n l) r
  | [], _, _ => rfl
  | c :: l, r, n => by simp only [List.cons_append, worth]; exact worth_append l r _
theorem points_append : ∀ (l r : List UInt8) (n : Int), points n (l ++ r) = points (points n l) r
  | [], _, _ => rfl
  | c :: l, r, n => by simp only [List.cons_append, points]; exact points_append l r _
theorem worth_mono : ∀ (l : List UInt8) (n : Int), 0 ≤ n → n ≤ worth n l
  | [], n, _ => Int.le_refl _
  | c :: l, n, h => by
    simp only [worth]
    split
    · have := worth_mono l (10 * n + (c.toNat - 48)) (by omega); omega
    · exact worth_mono l n h
theorem dig (n : Nat) : (UInt8.ofNat (48 + n % 10)).toNat = 48 + n % 10 := by
  rw [UInt8.toNat_ofNat']; omega
theorem worth_pad : ∀ (k n : Nat) (a : Int), worth a (pad n k) = a * (10 ^ k : Nat) + (n % 10 ^ k : Nat)
  | 0, n, a => by simp [pad, worth, Nat.mod_one]
  | k + 1, n, a => by
    rw [pad, worth_append, worth_pad k (n / 10) a]
    simp only [worth, dig]
    rw [if_pos (by omega)]
    have e : n % 10 ^ (k + 1) = 10 * (n / 10 % 10 ^ k) + n % 10 := by
      rw [Nat.pow_succ, Nat.mul_comm, Nat.mod_mul]; omega
    rw [e, Nat.pow_succ]
    generalize n / 10 % 10 ^ k = x
    generalize 10 ^ k = y
    simp only [Int.natCast_mul, Int.natCast_add, Int.mul_add]
    rw [← Int.mul_assoc a]
    omega
theorem points_pad : ∀ (k n : Nat) (a : Int), points a (pad n k) = a
  | 0, n, a => rfl
  | k + 1, n, a => by
    rw [pad, points_append, points_pad k (n / 10) a]
    simp only [points, dig]
    rw [if_neg (by omega)]
theorem worth_sgn (m : Int) (a : Int) : worth a (sgn m) = a := by
  unfold sgn; split
  · rfl
  · rfl
theorem points_sgn (m : Int) (a : Int) : points a (sgn m) = a := by
  unfold sgn; split
  · rfl
  · rfl
theorem worth_dec (u : Nat) : worth 0 (decDigits u) = u := by
  rw [dec_pad, worth_pad, Nat.mod_eq_of_lt (Lib.lt_pow_nDigits u)]; omega
theorem points_dec (u : Nat) (a : Int) : points a (decDigits u) = a := by
  rw [dec_pad, points_pad]
theorem worth_text (m : Int) (s : Nat) : worth 0 (text m s) = (m.natAbs : Int) := by
  unfold text
  rw [worth_append, worth_append, worth_sgn, worth_dec]
  by_cases h : s = 0
  · subst h; simp [worth]
  · rw [if_neg h]
    simp only [worth]
    rw [if_neg (by decide), worth_pad, Nat.mod_mod]
    have := Nat.div_add_mod m.natAbs (10 ^ s)
    rw [← Int.natCast_mul, ← Int.natCast_add, Nat.mul_comm]; omega
theorem points_text (m : Int) (s : Nat) : points 0 (text m s) = if s = 0 then 0 else 1 := by
  unfold text
  rw [points_append, points_append, points_sgn, points_dec]
  by_cases h : s = 0
  · subst h; rfl
  · rw [if_neg h, if_neg h]
    simp only [points]
    rw [if_pos (by decide), points_pad]; rfl
theorem text_neg (m : Int) (s : Nat) (h : 0 < m) : text (-m) s = 45 :: text m s := by
  unfold text sgn
  rw [if_pos (show -m < 0 by omega), if_neg (show ¬ m < 0 by omega), Int.natAbs_neg]; rfl
end Dc
end Go.Proofs.YtoklknioeoodbabDoor
