/- What the statements' own helpers answer: a number brought into a range, a digit of one of the four systems, and the chapter's example, which holds. -/
import Derived.Test.YtohgaknojkdohaaGreatDoorFoFold
namespace Go.Proofs.YtohgaknojkdohaaGreatDoor.Fo
open Go.RowKit

theorem tmod_neg (n d : Int) (hd : 0 < d) (h : n.tmod d < 0) : n.tmod d + d = n % d := by
  rw [Int.tmod_eq_emod] at *
  have h4 := Int.emod_nonneg n (show d ≠ 0 by omega)
  split at h
  · omega
  · rename_i hc; rw [if_neg hc]; omega
theorem tmod_pos (n d : Int) (hd : 0 < d) (h : 0 ≤ n.tmod d) : n.tmod d = n % d := by
  rw [Int.tmod_eq_emod] at *
  have h5 := Int.emod_lt_of_pos n hd
  split at h
  · rename_i hc; rw [if_pos hc]; omega
  · omega

theorem encode_eq (r : Int) (h : okRune r) : Utf8.encode r = ⟨(Lib.encodeRune r).toArray⟩ := by
  obtain ⟨n, rfl⟩ : ∃ n : Nat, r = (n : Int) := ⟨r.toNat, by unfold okRune at h; omega⟩
  unfold okRune at h
  have hv : Utf8.valid (n : Int) = true := by
    unfold Utf8.valid
    simp only [Bool.or_eq_true, Bool.and_eq_true, decide_eq_true_eq]
    omega
  unfold Utf8.encode
  simp only [hv, if_true, Int.toNat_natCast]
  have hc : ∀ (x : Int) (m : Nat), x = (m : Int) → x.toNat.toUInt8 = UInt8.ofNat m := by
    intro x m e
    subst e
    rfl
  by_cases h1 : n ≤ 127
  · rw [if_pos (by omega)]
    have e : Lib.encodeRune n = [(n : Int).toNat.toUInt8] := by simp [Lib.encodeRune, Lib.encodeRuneZ_one (r := (n : Int)) (by omega) (by omega)]
    rw [e, hc _ n rfl]
  · rw [if_neg (by omega)]
    by_cases h2 : n ≤ 2047
    · rw [if_pos (by omega)]
      have e : Lib.encodeRune n = [(192 + (n : Int) / 64).toNat.toUInt8, (128 + (n : Int) % 64).toNat.toUInt8] := by simp [Lib.encodeRune, Lib.encodeRuneZ_two (r := (n : Int)) (by omega) (by omega)]
      rw [e, hc _ (192 + n / 64) (by omega), hc _ (128 + n % 64) (by omega)]
    · rw [if_neg (by omega)]
      by_cases h3 : n ≤ 65535
      · rw [if_pos (by omega)]
        have e : Lib.encodeRune n = [(224 + (n : Int) / 4096).toNat.toUInt8, (128 + (n : Int) / 64 % 64).toNat.toUInt8, (128 + (n : Int) % 64).toNat.toUInt8] := by simp [Lib.encodeRune, Lib.encodeRuneZ_three (r := (n : Int)) (by omega)]
        rw [e, hc _ (224 + n / 4096) (by omega), hc _ (128 + n / 64 % 64) (by omega), hc _ (128 + n % 64) (by omega)]
      · rw [if_neg (by omega)]
        have e : Lib.encodeRune n = [(240 + (n : Int) / 262144).toNat.toUInt8, (128 + (n : Int) / 4096 % 64).toNat.toUInt8, (128 + (n : Int) / 64 % 64).toNat.toUInt8, (128 + (n : Int) % 64).toNat.toUInt8] := by simp [Lib.encodeRune, Lib.encodeRuneZ_four (r := (n : Int)) (by omega) (by omega)]
        rw [e, hc _ (240 + n / 262144) (by omega), hc _ (128 + n / 4096 % 64) (by omega), hc _ (128 + n / 64 % 64) (by omega), hc _ (128 + n % 64) (by omega)]

/-- The systems' noughts. -/
def nought (k : Int) : Int := if k = 0 then 48 else if k = 1 then 1632 else if k = 2 then 1776 else 2406

theorem text_at (l t : List UInt8) (ht : textOf l = t) (hl : l.length ≤ 1000000) (w : World) (hT : Tab w) :
    Calls Tryz.prog 137 #[.string ⟨l.toArray⟩] w fun e w' => e = .returned (.string ⟨t.toArray⟩) ∧ Below w.heap.size w w' := by
  have h := text_walk ⟨l.toArray⟩ w (by simpa [ByteArray.size] using hl) hT
  subst ht
  simpa using h

theorem Holds.at {w : World} {g o : Nat} {xs : List Int} (h : Holds w g o xs) (j : Nat) (x : Int) (hj : xs[j]? = some x) : w.cell? ⟨g, o + j, none⟩ = some (.int .i64 x) := by
  have hl : j < xs.length := (List.getElem?_eq_some_iff.1 hj).1
  rw [h j hl]
  simp [List.getD, hj]

end Go.Proofs.YtohgaknojkdohaaGreatDoor.Fo
