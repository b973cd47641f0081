/- The reference's next answers, of every string that is not empty, the sign that it begins with and its width, as the model's own decoder tells them. -/
import Derived.Test.YtncklgdchmhoiaaGreatDoorFoNext
import Derived.Test.YtncklgdchmhoiaaGreatDoorFoDecMath
namespace Go.Proofs.YtncklgdchmhoiaaGreatDoor.Fo
open Go.RowKit

theorem begins (s : ByteArray) (h0 : 0 < s.size) (h1 : s.size ≤ 1000000) : Begins s s.size (s.get! 0).toNat (s.get! 1).toNat (s.get! 2).toNat (s.get! 3).toNat := by
  have key : ∀ (i : Nat) (h : i < s.size), (s[i]'h).toNat = (s.get! i).toNat := by
    intro i h
    cases s with
    | mk d =>
      have : d[i]! = d[i]'h := getElem!_pos d i h
      show (d[i]'h).toNat = (d[i]!).toNat
      rw [this]
  exact ⟨rfl, h0, h1, ⟨UInt8.toNat_lt _, UInt8.toNat_lt _, UInt8.toNat_lt _, UInt8.toNat_lt _⟩, key 0, key 1, key 2, key 3⟩

theorem next_any (s : ByteArray) (w : World) (h0 : 0 < s.size) (h1 : s.size ≤ 1000000) :
    Calls Tryz.prog 89 #[.string s] w fun e w' => e = .returned (.tuple #[.int .i64 ((Utf8.decode s 0).1 : Int), .int .i64 ((Utf8.decode s 0).2 : Int)]) ∧ w' = w := by
  have hB := begins s h0 h1
  rw [Lib.decode_at, Nat.sub_zero, Nat.zero_add, Nat.zero_add, Nat.zero_add]
  obtain ⟨l0, l1, l2, l3⟩ := hB.bytes
  generalize (s.get! 0).toNat = b0 at *
  generalize (s.get! 1).toNat = b1 at *
  generalize (s.get! 2).toNat = b2 at *
  generalize (s.get! 3).toNat = b3 at *
  generalize hn : s.size = n at *
  have cast2 : ((b0 % 32 * 64 + b1 % 64 : Nat) : Int) = (b0 : Int) % 32 * 64 + (b1 : Int) % 64 := by omega
  have cast3 : (((b0 % 16 * 64 + b1 % 64) * 64 + b2 % 64 : Nat) : Int) = ((b0 : Int) % 16 * 64 + (b1 : Int) % 64) * 64 + (b2 : Int) % 64 := by omega
  have cast4 : ((((b0 % 8 * 64 + b1 % 64) * 64 + b2 % 64) * 64 + b3 % 64 : Nat) : Int) = (((b0 : Int) % 8 * 64 + (b1 : Int) % 64) * 64 + (b2 : Int) % 64) * 64 + (b3 : Int) % 64 := by omega
  by_cases k1 : b0 < 128
  · rw [dec_1 n b0 b1 b2 b3 k1]; exact next_1 s n b0 b1 b2 b3 w hB k1
  by_cases k0 : (128 ≤ b0 ∧ b0 < 194) ∨ 244 < b0
  · rw [dec_0 n b0 b1 b2 b3 l0 k0]; exact next_0 s n b0 b1 b2 b3 w hB k0
  by_cases k2 : b0 ≤ 223
  · by_cases hs : n < 2
    · rw [dec_short n b0 b1 b2 b3 (by omega)]; exact next_short2 s n b0 b1 b2 b3 w hB (by omega) hs
    by_cases c1 : b1 < 128
    · rw [dec_bad n b0 b1 b2 b3 l1 l2 l3 (by omega)]; exact next_2bad1lo s n b0 b1 b2 b3 w hB (by omega) (by omega) c1
    by_cases d1 : 191 < b1
    · rw [dec_bad n b0 b1 b2 b3 l1 l2 l3 (by omega)]; exact next_2bad1hi s n b0 b1 b2 b3 w hB (by omega) (by omega) d1
    rw [dec_2 n b0 b1 b2 b3 (by omega) (by omega) (by omega)]
    simp only
    rw [cast2]
    exact next_2ok s n b0 b1 b2 b3 w hB (by omega) (by omega) (by omega) _ rfl
  by_cases k3 : b0 ≤ 239
  · by_cases hs : n < 3
    · rw [dec_short n b0 b1 b2 b3 (by omega)]; exact next_short3 s n b0 b1 b2 b3 w hB (by omega) hs
    by_cases c1 : b1 < 128
    · rw [dec_bad n b0 b1 b2 b3 l1 l2 l3 (by omega)]; exact next_3bad1lo s n b0 b1 b2 b3 w hB (by omega) (by omega) c1
    by_cases d1 : 191 < b1
    · rw [dec_bad n b0 b1 b2 b3 l1 l2 l3 (by omega)]; exact next_3bad1hi s n b0 b1 b2 b3 w hB (by omega) (by omega) d1
    by_cases c2 : b2 < 128
    · rw [dec_bad n b0 b1 b2 b3 l1 l2 l3 (by omega)]; exact next_3bad2lo s n b0 b1 b2 b3 w hB (by omega) (by omega) (by omega) c2 _ rfl
    by_cases d2 : 191 < b2
    · rw [dec_bad n b0 b1 b2 b3 l1 l2 l3 (by omega)]; exact next_3bad2hi s n b0 b1 b2 b3 w hB (by omega) (by omega) (by omega) d2 _ rfl
    by_cases g1 : (b0 % 16 * 64 + b1 % 64) * 64 + b2 % 64 < 2048
    · rw [dec_3bad n b0 b1 b2 b3 (by omega) (by omega) (by omega) (by omega) (Or.inl g1)]; exact next_3low s n b0 b1 b2 b3 w hB (by omega) (by omega) (by omega) (by omega) _ rfl _ rfl (by omega)
    by_cases g2 : 55296 ≤ (b0 % 16 * 64 + b1 % 64) * 64 + b2 % 64 ∧ (b0 % 16 * 64 + b1 % 64) * 64 + b2 % 64 ≤ 57343
    · rw [dec_3bad n b0 b1 b2 b3 (by omega) (by omega) (by omega) (by omega) (Or.inr g2)]; exact next_3sur s n b0 b1 b2 b3 w hB (by omega) (by omega) (by omega) (by omega) _ rfl _ rfl (by omega)
    rw [dec_3 n b0 b1 b2 b3 (by omega) (by omega) (by omega) (by omega) (by omega) g2]
    simp only
    rw [cast3]
    exact next_3ok s n b0 b1 b2 b3 w hB (by omega) (by omega) (by omega) (by omega) _ rfl _ rfl (by omega) (by omega)
  · by_cases hs : n < 4
    · rw [dec_short n b0 b1 b2 b3 (by omega)]; exact next_short4 s n b0 b1 b2 b3 w hB (by omega) hs
    by_cases c1 : b1 < 128
    · rw [dec_bad n b0 b1 b2 b3 l1 l2 l3 (by omega)]; exact next_4bad1lo s n b0 b1 b2 b3 w hB (by omega) (by omega) c1
    by_cases d1 : 191 < b1
    · rw [dec_bad n b0 b1 b2 b3 l1 l2 l3 (by omega)]; exact next_4bad1hi s n b0 b1 b2 b3 w hB (by omega) (by omega) d1
    by_cases c2 : b2 < 128
    · rw [dec_bad n b0 b1 b2 b3 l1 l2 l3 (by omega)]; exact next_4bad2lo s n b0 b1 b2 b3 w hB (by omega) (by omega) (by omega) c2 _ rfl
    by_cases d2 : 191 < b2
    · rw [dec_bad n b0 b1 b2 b3 l1 l2 l3 (by omega)]; exact next_4bad2hi s n b0 b1 b2 b3 w hB (by omega) (by omega) (by omega) d2 _ rfl
    by_cases c3 : b3 < 128
    · rw [dec_bad n b0 b1 b2 b3 l1 l2 l3 (by omega)]; exact next_4bad3lo s n b0 b1 b2 b3 w hB (by omega) (by omega) (by omega) (by omega) c3 _ rfl _ rfl
    by_cases d3 : 191 < b3
    · rw [dec_bad n b0 b1 b2 b3 l1 l2 l3 (by omega)]; exact next_4bad3hi s n b0 b1 b2 b3 w hB (by omega) (by omega) (by omega) (by omega) d3 _ rfl _ rfl
    by_cases g1 : ((b0 % 8 * 64 + b1 % 64) * 64 + b2 % 64) * 64 + b3 % 64 < 65536
    · rw [dec_4bad n b0 b1 b2 b3 (by omega) (by omega) (by omega) (by omega) (by omega) (Or.inl g1)]; exact next_4low s n b0 b1 b2 b3 w hB (by omega) (by omega) (by omega) (by omega) (by omega) _ rfl _ rfl _ rfl (by omega)
    by_cases g2 : 1114111 < ((b0 % 8 * 64 + b1 % 64) * 64 + b2 % 64) * 64 + b3 % 64
    · rw [dec_4bad n b0 b1 b2 b3 (by omega) (by omega) (by omega) (by omega) (by omega) (Or.inr g2)]; exact next_4high s n b0 b1 b2 b3 w hB (by omega) (by omega) (by omega) (by omega) (by omega) _ rfl _ rfl _ rfl (by omega)
    rw [dec_4 n b0 b1 b2 b3 (by omega) (by omega) (by omega) (by omega) (by omega) (by omega) (by omega)]
    simp only
    rw [cast4]
    exact next_4ok s n b0 b1 b2 b3 w hB (by omega) (by omega) (by omega) (by omega) (by omega) _ rfl _ rfl _ rfl (by omega) (by omega)

end Go.Proofs.YtncklgdchmhoiaaGreatDoor.Fo
