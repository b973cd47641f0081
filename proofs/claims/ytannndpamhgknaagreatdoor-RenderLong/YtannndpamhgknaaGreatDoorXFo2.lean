/- FoDecMath, FoNextAll, FoInts, FoRefFold, FoRefText: these texts, one behind the other. -/
import Derived.Test.YtannndpamhgknaaGreatDoorXFo0
import Derived.Test.YtannndpamhgknaaGreatDoorMFoNext
import Derived.Deep.AppendLies
/- The model's own decoder, way by way: what it answers of bytes that begin so. -/
namespace Go.Proofs.YtannndpamhgknaaGreatDoor.Fo
open Go.Lib

theorem dec_1 (n b0 b1 b2 b3 : Nat) (h0 : b0 < 128) : decodeN n b0 b1 b2 b3 = (b0, 1) := by unfold decodeN; rw [if_pos h0]
theorem dec_0 (n b0 b1 b2 b3 : Nat) (h : b0 < 256) (h0 : (128 ≤ b0 ∧ b0 < 194) ∨ 244 < b0) : decodeN n b0 b1 b2 b3 = (65533, 1) := by
  unfold decodeN
  repeat' split
  all_goals first | rfl | (exfalso; omega)
theorem dec_short (n b0 b1 b2 b3 : Nat) (h0 : (194 ≤ b0 ∧ b0 ≤ 223 ∧ n < 2) ∨ (224 ≤ b0 ∧ b0 ≤ 239 ∧ n < 3) ∨ (240 ≤ b0 ∧ b0 ≤ 244 ∧ n < 4)) : decodeN n b0 b1 b2 b3 = (65533, 1) := by
  unfold decodeN
  repeat' split
  all_goals first | rfl | (exfalso; omega)
theorem dec_bad (n b0 b1 b2 b3 : Nat) (l1 : b1 < 256) (l2 : b2 < 256) (l3 : b3 < 256) (h0 : (194 ≤ b0 ∧ b0 ≤ 223 ∧ ¬ (128 ≤ b1 ∧ b1 ≤ 191)) ∨ (224 ≤ b0 ∧ b0 ≤ 239 ∧ ¬ (128 ≤ b1 ∧ b1 ≤ 191 ∧ 128 ≤ b2 ∧ b2 ≤ 191)) ∨ (240 ≤ b0 ∧ b0 ≤ 244 ∧ ¬ (128 ≤ b1 ∧ b1 ≤ 191 ∧ 128 ≤ b2 ∧ b2 ≤ 191 ∧ 128 ≤ b3 ∧ b3 ≤ 191))) : decodeN n b0 b1 b2 b3 = (65533, 1) := by
  unfold decodeN
  repeat' split
  all_goals first | rfl | (exfalso; omega)
theorem dec_2 (n b0 b1 b2 b3 : Nat) (h0 : 194 ≤ b0 ∧ b0 ≤ 223) (hn : 2 ≤ n) (h1 : 128 ≤ b1 ∧ b1 ≤ 191) : decodeN n b0 b1 b2 b3 = (b0 % 32 * 64 + b1 % 64, 2) := by
  unfold decodeN
  rw [if_neg (by omega), if_pos (by omega), if_pos (by omega)]
theorem dec_3bad (n b0 b1 b2 b3 : Nat) (h0 : 224 ≤ b0 ∧ b0 ≤ 239) (hn : 3 ≤ n) (h1 : 128 ≤ b1 ∧ b1 ≤ 191) (h2 : 128 ≤ b2 ∧ b2 ≤ 191) (g : (b0 % 16 * 64 + b1 % 64) * 64 + b2 % 64 < 2048 ∨ (55296 ≤ (b0 % 16 * 64 + b1 % 64) * 64 + b2 % 64 ∧ (b0 % 16 * 64 + b1 % 64) * 64 + b2 % 64 ≤ 57343)) : decodeN n b0 b1 b2 b3 = (65533, 1) := by
  unfold decodeN
  rw [if_neg (by omega), if_neg (by omega), if_pos (by omega), if_neg (by omega)]
theorem dec_3 (n b0 b1 b2 b3 : Nat) (h0 : 224 ≤ b0 ∧ b0 ≤ 239) (hn : 3 ≤ n) (h1 : 128 ≤ b1 ∧ b1 ≤ 191) (h2 : 128 ≤ b2 ∧ b2 ≤ 191) (g1 : 2048 ≤ (b0 % 16 * 64 + b1 % 64) * 64 + b2 % 64) (g2 : ¬ (55296 ≤ (b0 % 16 * 64 + b1 % 64) * 64 + b2 % 64 ∧ (b0 % 16 * 64 + b1 % 64) * 64 + b2 % 64 ≤ 57343)) : decodeN n b0 b1 b2 b3 = ((b0 % 16 * 64 + b1 % 64) * 64 + b2 % 64, 3) := by
  unfold decodeN
  rw [if_neg (by omega), if_neg (by omega), if_pos (by omega), if_pos (by omega)]
  simp only [Prod.mk.injEq, and_true]
  omega
theorem dec_4bad (n b0 b1 b2 b3 : Nat) (h0 : 240 ≤ b0 ∧ b0 ≤ 244) (hn : 4 ≤ n) (h1 : 128 ≤ b1 ∧ b1 ≤ 191) (h2 : 128 ≤ b2 ∧ b2 ≤ 191) (h3 : 128 ≤ b3 ∧ b3 ≤ 191) (g : ((b0 % 8 * 64 + b1 % 64) * 64 + b2 % 64) * 64 + b3 % 64 < 65536 ∨ 1114111 < ((b0 % 8 * 64 + b1 % 64) * 64 + b2 % 64) * 64 + b3 % 64) : decodeN n b0 b1 b2 b3 = (65533, 1) := by
  unfold decodeN
  rw [if_neg (by omega), if_neg (by omega), if_neg (by omega), if_pos (by omega), if_neg (by omega)]
theorem dec_4 (n b0 b1 b2 b3 : Nat) (h0 : 240 ≤ b0 ∧ b0 ≤ 244) (hn : 4 ≤ n) (h1 : 128 ≤ b1 ∧ b1 ≤ 191) (h2 : 128 ≤ b2 ∧ b2 ≤ 191) (h3 : 128 ≤ b3 ∧ b3 ≤ 191) (g1 : 65536 ≤ ((b0 % 8 * 64 + b1 % 64) * 64 + b2 % 64) * 64 + b3 % 64) (g2 : ((b0 % 8 * 64 + b1 % 64) * 64 + b2 % 64) * 64 + b3 % 64 ≤ 1114111) : decodeN n b0 b1 b2 b3 = (((b0 % 8 * 64 + b1 % 64) * 64 + b2 % 64) * 64 + b3 % 64, 4) := by
  unfold decodeN
  rw [if_neg (by omega), if_neg (by omega), if_neg (by omega), if_pos (by omega), if_pos (by omega)]
  simp only [Prod.mk.injEq, and_true]
  omega

end Go.Proofs.YtannndpamhgknaaGreatDoor.Fo

/- The reference's next answers, of every string that is not empty, the sign that it begins with and its width, as the model's own decoder tells them. -/
namespace Go.Proofs.YtannndpamhgknaaGreatDoor.Fo
open Go.RowKit

theorem begins (s : ByteArray) (h0 : 0 < s.size) (h1 : s.size ≤ 1000000) : Begins s s.size (s.get! 0).toNat (s.get! 1).toNat (s.get! 2).toNat (s.get! 3).toNat := by
  have key : ∀ (i : Nat) (h : i < s.size), (s[i]'h).toNat = (s.get! i).toNat := by
    intro i h
    cases s with
    | mk d =>
      have : d[i]! = d[i]'h := getElem!_pos d i h
      show (d[i]'h).toNat = (d[i]!).toNat
      rw [this]
  exact ⟨rfl, h0, h1, ⟨UInt8.toNat_lt _, UInt8.toNat_lt _, UInt8.toNat_lt _, UInt8.toNat_lt _⟩, key 0, key 1, key 2, key 3⟩

theorem next_any (s : ByteArray) (w : World) (h0 : 0 < s.size) (h1 : s.size ≤ 1000000) :
    Calls Tryz.prog 68 #[.string s] w fun e w' => e = .returned (.tuple #[.int .i64 ((Utf8.decode s 0).1 : Int), .int .i64 ((Utf8.decode s 0).2 : Int)]) ∧ w' = w := by
  have hB := begins s h0 h1
  rw [Lib.decode_at, Nat.sub_zero, Nat.zero_add, Nat.zero_add, Nat.zero_add]
  obtain ⟨l0, l1, l2, l3⟩ := hB.bytes
  generalize (s.get! 0).toNat = b0 at *
  generalize (s.get! 1).toNat = b1 at *
  generalize (s.get! 2).toNat = b2 at *
  generalize (s.get! 3).toNat = b3 at *
  generalize hn : s.size = n at *
  have cast2 : ((b0 % 32 * 64 + b1 % 64 : Nat) : Int) = (b0 : Int) % 32 * 64 + (b1 : Int) % 64 := by omega
  have cast3 : (((b0 % 16 * 64 + b1 % 64) * 64 + b2 % 64 : Nat) : Int) = ((b0 : Int) % 16 * 64 + (b1 : Int) % 64) * 64 + (b2 : Int) % 64 := by omega
  have cast4 : ((((b0 % 8 * 64 + b1 % 64) * 64 + b2 % 64) * 64 + b3 % 64 : Nat) : Int) = (((b0 : Int) % 8 * 64 + (b1 : Int) % 64) * 64 + (b2 : Int) % 64) * 64 + (b3 : Int) % 64 := by omega
  by_cases k1 : b0 < 128
  · rw [dec_1 n b0 b1 b2 b3 k1]; exact next_1 s n b0 b1 b2 b3 w hB k1
  by_cases k0 : (128 ≤ b0 ∧ b0 < 194) ∨ 244 < b0
  · rw [dec_0 n b0 b1 b2 b3 l0 k0]; exact next_0 s n b0 b1 b2 b3 w hB k0
  by_cases k2 : b0 ≤ 223
  · by_cases hs : n < 2
    · rw [dec_short n b0 b1 b2 b3 (by omega)]; exact next_short2 s n b0 b1 b2 b3 w hB (by omega) hs
    by_cases c1 : b1 < 128
    · rw [dec_bad n b0 b1 b2 b3 l1 l2 l3 (by omega)]; exact next_2bad1lo s n b0 b1 b2 b3 w hB (by omega) (by omega) c1
    by_cases d1 : 191 < b1
    · rw [dec_bad n b0 b1 b2 b3 l1 l2 l3 (by omega)]; exact next_2bad1hi s n b0 b1 b2 b3 w hB (by omega) (by omega) d1
    rw [dec_2 n b0 b1 b2 b3 (by omega) (by omega) (by omega)]
    simp only
    rw [cast2]
    exact next_2ok s n b0 b1 b2 b3 w hB (by omega) (by omega) (by omega) _ rfl
  by_cases k3 : b0 ≤ 239
  · by_cases hs : n < 3
    · rw [dec_short n b0 b1 b2 b3 (by omega)]; exact next_short3 s n b0 b1 b2 b3 w hB (by omega) hs
    by_cases c1 : b1 < 128
    · rw [dec_bad n b0 b1 b2 b3 l1 l2 l3 (by omega)]; exact next_3bad1lo s n b0 b1 b2 b3 w hB (by omega) (by omega) c1
    by_cases d1 : 191 < b1
    · rw [dec_bad n b0 b1 b2 b3 l1 l2 l3 (by omega)]; exact next_3bad1hi s n b0 b1 b2 b3 w hB (by omega) (by omega) d1
    by_cases c2 : b2 < 128
    · rw [dec_bad n b0 b1 b2 b3 l1 l2 l3 (by omega)]; exact next_3bad2lo s n b0 b1 b2 b3 w hB (by omega) (by omega) (by omega) c2 _ rfl
    by_cases d2 : 191 < b2
    · rw [dec_bad n b0 b1 b2 b3 l1 l2 l3 (by omega)]; exact next_3bad2hi s n b0 b1 b2 b3 w hB (by omega) (by omega) (by omega) d2 _ rfl
    by_cases g1 : (b0 % 16 * 64 + b1 % 64) * 64 + b2 % 64 < 2048
    · rw [dec_3bad n b0 b1 b2 b3 (by omega) (by omega) (by omega) (by omega) (Or.inl g1)]; exact next_3low s n b0 b1 b2 b3 w hB (by omega) (by omega) (by omega) (by omega) _ rfl _ rfl (by omega)
    by_cases g2 : 55296 ≤ (b0 % 16 * 64 + b1 % 64) * 64 + b2 % 64 ∧ (b0 % 16 * 64 + b1 % 64) * 64 + b2 % 64 ≤ 57343
    · rw [dec_3bad n b0 b1 b2 b3 (by omega) (by omega) (by omega) (by omega) (Or.inr g2)]; exact next_3sur s n b0 b1 b2 b3 w hB (by omega) (by omega) (by omega) (by omega) _ rfl _ rfl (by omega)
    rw [dec_3 n b0 b1 b2 b3 (by omega) (by omega) (by omega) (by omega) (by omega) g2]
    simp only
    rw [cast3]
    exact next_3ok s n b0 b1 b2 b3 w hB (by omega) (by omega) (by omega) (by omega) _ rfl _ rfl (by omega) (by omega)
  · by_cases hs : n < 4
    · rw [dec_short n b0 b1 b2 b3 (by omega)]; exact next_short4 s n b0 b1 b2 b3 w hB (by omega) hs
    by_cases c1 : b1 < 128
    · rw [dec_bad n b0 b1 b2 b3 l1 l2 l3 (by omega)]; exact next_4bad1lo s n b0 b1 b2 b3 w hB (by omega) (by omega) c1
    by_cases d1 : 191 < b1
    · rw [dec_bad n b0 b1 b2 b3 l1 l2 l3 (by omega)]; exact next_4bad1hi s n b0 b1 b2 b3 w hB (by omega) (by omega) d1
    by_cases c2 : b2 < 128
    · rw [dec_bad n b0 b1 b2 b3 l1 l2 l3 (by omega)]; exact next_4bad2lo s n b0 b1 b2 b3 w hB (by omega) (by omega) (by omega) c2 _ rfl
    by_cases d2 : 191 < b2
    · rw [dec_bad n b0 b1 b2 b3 l1 l2 l3 (by omega)]; exact next_4bad2hi s n b0 b1 b2 b3 w hB (by omega) (by omega) (by omega) d2 _ rfl
    by_cases c3 : b3 < 128
    · rw [dec_bad n b0 b1 b2 b3 l1 l2 l3 (by omega)]; exact next_4bad3lo s n b0 b1 b2 b3 w hB (by omega) (by omega) (by omega) (by omega) c3 _ rfl _ rfl
    by_cases d3 : 191 < b3
    · rw [dec_bad n b0 b1 b2 b3 l1 l2 l3 (by omega)]; exact next_4bad3hi s n b0 b1 b2 b3 w hB (by omega) (by omega) (by omega) (by omega) d3 _ rfl _ rfl
    by_cases g1 : ((b0 % 8 * 64 + b1 % 64) * 64 + b2 % 64) * 64 + b3 % 64 < 65536
    · rw [dec_4bad n b0 b1 b2 b3 (by omega) (by omega) (by omega) (by omega) (by omega) (Or.inl g1)]; exact next_4low s n b0 b1 b2 b3 w hB (by omega) (by omega) (by omega) (by omega) (by omega) _ rfl _ rfl _ rfl (by omega)
    by_cases g2 : 1114111 < ((b0 % 8 * 64 + b1 % 64) * 64 + b2 % 64) * 64 + b3 % 64
    · rw [dec_4bad n b0 b1 b2 b3 (by omega) (by omega) (by omega) (by omega) (by omega) (Or.inr g2)]; exact next_4high s n b0 b1 b2 b3 w hB (by omega) (by omega) (by omega) (by omega) (by omega) _ rfl _ rfl _ rfl (by omega)
    rw [dec_4 n b0 b1 b2 b3 (by omega) (by omega) (by omega) (by omega) (by omega) (by omega) (by omega)]
    simp only
    rw [cast4]
    exact next_4ok s n b0 b1 b2 b3 w hB (by omega) (by omega) (by omega) (by omega) (by omega) _ rfl _ rfl _ rfl (by omega) (by omega)

end Go.Proofs.YtannndpamhgknaaGreatDoor.Fo

/- The reference's Ints answers true of two rows of the same numbers. -/
namespace Go.Proofs.YtannndpamhgknaaGreatDoor.Fo
open Go.RowKit

/-- A slice's value, and the numbers that it holds. -/
def RowAt (w : World) (v : Value) (xs : List Int) : Prop := (v = .slice none 0 0 ∧ xs = []) ∨ ∃ g o c, v = .slice (some ⟨g, o, none⟩) xs.length c ∧ Holds w g o xs

theorem RowAt.on {w w' : World} {v : Value} {xs : List Int} (h : RowAt w v xs) (hb : Below w.heap.size w w') : RowAt w' v xs := by
  rcases h with h | ⟨g, o, c, h1, h2⟩
  · exact .inl h
  · exact .inr ⟨g, o, c, h1, h2.on hb⟩

end Go.Proofs.YtannndpamhgknaaGreatDoor.Fo

/- What the reference's Fold answers for every string of at most a million bytes: the same two rows. -/
namespace Go.Proofs.YtannndpamhgknaaGreatDoor.Fo
open Go.RowKit

theorem tail_data (s : ByteArray) (n : Nat) : (s.extract n s.size).data.toList = s.data.toList.drop n := by
  rw [Lib.extract_data]
  apply List.take_of_length_le
  rw [List.length_drop, ← Lib.size_eq]
  exact Nat.le_refl _
theorem tail_dec (s : ByteArray) (n : Nat) : Utf8.decode (s.extract n s.size) 0 = Utf8.decode s n := by
  rw [decL_drop, decL_drop, tail_data, List.drop_zero]
theorem tail_sz (s : ByteArray) (n : Nat) : (s.extract n s.size).size = s.size - n := by
  rw [Lib.size_eq, tail_data, List.length_drop, ← Lib.size_eq]

def Ap (v u : Value) : Prop := ∀ k, v.ownBlock = some k → u.ownBlock ≠ some k

theorem append_keep {w W W' : World} {B g cap n m : Nat} {v u : Value} {ys : List Value} {o : Obj} (gr : (W.alloc o).grownBy W' v.ownBlock) (hat : v.ownBlock = some g ∨ g = (W.alloc o).heap.size)
    (hu : W.ownsRow B 3 1 u n ys) (hap : Ap v u) (hL : Below B w W) (hv : ∀ k, v.ownBlock = some k → B ≤ k) (hB : B ≤ W.heap.size) :
    W'.ownsRow B 3 1 u n ys ∧ Ap (.slice (some ⟨g, 0, none⟩) m cap) u ∧ Below B w W' ∧ B ≤ W'.heap.size := by
  have hs : (W.alloc o).heap.size = W.heap.size + 1 := by simp
  refine ⟨(hu.alloc o).kept gr ?_, ?_, (hL.alloc hB o).grown gr (by omega) hv, by have := gr.size; omega⟩
  · cases hb : u.ownBlock with
    | none => exact .inl rfl
    | some k => exact .inr (fun h => hap k h.symm hb)
  · intro k hk hk2
    have hkg : g = k := by simpa [Value.ownBlock] using hk
    rcases hat with h | h
    · exact hap k (by rw [h, hkg]) hk2
    · have := (hu.lt k hk2).2
      omega
theorem Ap.symm {v u : Value} (h : Ap v u) : Ap u v := fun k h1 h2 => h k h2 h1
theorem owns_base {W : World} {B n : Nat} {v : Value} {xs : List Value} (h : W.ownsRow B 3 1 v n xs) : ∀ k, v.ownBlock = some k → B ≤ k := fun k hk => (h.lt k hk).1

theorem row_owns {W : World} {B n : Nat} {v : Value} {xs : List Int} (h : W.ownsRow B 3 1 v n (xs.map (Value.int .i64))) : RowAt W v xs := by
  have hl : xs.length = n := by have := h.1; simpa using this
  rcases h.2 with ⟨rfl, h0⟩ | ⟨g, cap, cur, rfl, _⟩
  · exact .inl ⟨rfl, List.eq_nil_of_length_eq_zero (by omega)⟩
  · refine .inr ⟨g, 0, cap, by rw [hl], holds_owns h⟩

theorem rfold_walk (s : ByteArray) (w : World) (hs : s.size ≤ 1000000) :
    Calls Tryz.prog 41 #[.string s] w fun e w' => ∃ v4 v5, e = .returned (.tuple #[v4, v5]) ∧ RowAt w' v4 (runesOf s.data.toList) ∧ RowAt w' v5 (placesOf s.data.toList) ∧ Below w.heap.size w w' := by
  obtain ⟨i0, hi, hz0, hz1, hz2⟩ := info_parts Tryz.info3
  go_enter Tryz.func41, Tryz.ntmps41
  go_wp2
  go_loopw [4, 5, 6] (fun v4 v5 v6 wr => ∃ (pos fuel : Nat) (rs ps : List Int), v6 = .int .i64 pos ∧ wr.ownsRow w.heap.size 3 1 v4 rs.length (rs.map (Value.int .i64)) ∧ wr.ownsRow w.heap.size 3 1 v5 rs.length (ps.map (Value.int .i64)) ∧ Ap v4 v5 ∧ Below w.heap.size w wr ∧ w.heap.size ≤ wr.heap.size ∧ pos ≤ s.size ∧ rs.length ≤ pos ∧ rs ++ ((signs fuel (s.data.toList.drop pos)).map fun x => runeZ (x.1 : Int)) = runesOf s.data.toList ∧ ps ++ places pos (signs fuel (s.data.toList.drop pos)) = places 0 (signsOf s.data.toList) ∧ s.size ≤ pos + fuel) (fun _ _ v6 _ => s.size - (intOf v6).toNat)
  case atStart =>
    refine ⟨0, s.size, [], [], rfl, World.ownsRow_nil _ _ _ _, World.ownsRow_nil _ _ _ _, ?_, Below.refl _ _, Nat.le_refl _, by omega, by simp, ?_, ?_, by omega⟩
    · intro k hk; simp [Value.ownBlock] at hk
    · simp only [runesOf, signsOf, ← Lib.size_eq, List.drop_zero, List.nil_append]
    · simp only [signsOf, ← Lib.size_eq, List.drop_zero, List.nil_append]
  case round =>
    obtain ⟨pos, fuel, rs, ps, rfl, h1, h2, hap, hbw, hsz, hpos, hrl, hrs, hps, hfu⟩ := hrel
    by_cases hp : pos < s.size
    · have hd := decode_facts s pos hp
      obtain ⟨f, rfl⟩ : ∃ f, fuel = f + 1 := ⟨fuel - 1, by omega⟩
      rw [signs_at s f pos hp] at hrs hps
      have HN := hid (next_any (s.extract pos s.size) wr (by rw [tail_sz]; omega) (by rw [tail_sz]; omega))
      rw [tail_dec] at HN
      have b1 : (0 : Int) ≤ (Utf8.decode s pos).1 ∧ ((Utf8.decode s pos).1 : Int) ≤ 1114111 := by have := hd.2.2.2; unfold okRune at this; omega
      have HR := hid (rrune_any ((Utf8.decode s pos).1 : Int) (by omega) (by omega) wr)
      have HA := hid h1
      have HB := hid h2
      have HP := hid hap
      have HL := hid hbw
      have HE := hid hrs
      have HQ := hid hps
      have hpi : (pos : Int) < s.size := by omega
      clear h1 h2 hap hbw hrs hps
      go_wp2_with fail
      refine HN.out.mono ?_
      rintro e w1 ⟨rfl, rfl⟩
      go_wp2_with fail
      refine HR.out.mono ?_
      rintro e w1 ⟨rfl, rfl⟩
      go_wp2_with (first | (at_builtin; refine wpList_append_lies _ rfl (.tmp 20) (.tmp 23) 25 rfl w.heap.size 3 i0 (.int .i64 0) 1 8 Tryz.underlying25 hi hz0 hz1 hz2 rfl (by decide) _ rs.length _ rfl (HA.out.alloc _) ⟨w1.heap.size, 0, none⟩ 1 1 [.int .i64 (runeZ (Utf8.decode s pos).1)] rfl rfl (one_cell _ _ _) (one_oneCell _) (by decide) (by unfold maxLen; omega) (by omega) (by simp; omega) _ rfl ?_; intro ga ca W2 ho gr hat hlt; have HF := hid (append_keep (m := rs.length + 1) (cap := ca) gr hat HB.out HP.out HL.out (owns_base HA.out) hsz); have HA4 := hid ho; clear ho gr hat hlt) | (at_builtin; refine wpList_append_lies _ rfl (.tmp 25) (.tmp 27) 25 rfl w.heap.size 3 i0 (.int .i64 0) 1 8 Tryz.underlying25 hi hz0 hz1 hz2 rfl (by decide) _ rs.length _ rfl (HF.out.1.alloc _) ⟨W2.heap.size, 0, none⟩ 1 1 [.int .i64 (pos : Int)] rfl rfl (one_cell _ _ _) (one_oneCell _) (by decide) (by unfold maxLen; omega) (by omega) (by simp; have := HF.out.2.2.2; omega) _ rfl ?_; intro gb cb W3 ho gr hat hlt; have HG := hid (append_keep (m := rs.length + 1) (cap := cb) gr hat HA4.out HF.out.2.1.symm HF.out.2.2.1 (owns_base HF.out.1) HF.out.2.2.2); have HB4 := hid ho; clear ho gr hat hlt))
      go_roundw
      case rel =>
        refine ⟨pos + (Utf8.decode s pos).2, f, rs ++ [runeZ (Utf8.decode s pos).1], ps ++ [(pos : Int)], by simp, by simpa using HG.out.1, by simpa using HB4.out, HG.out.2.1.symm, HG.out.2.2.1, HG.out.2.2.2, hd.2.1, by simp; omega, ?_, ?_, by omega⟩
        · rw [← HE.out]; simp
        · rw [← HQ.out]; simp [places]
      case measure =>
        simp [intOf]
        omega
    · obtain rfl : pos = s.size := by omega
      rw [signs_end s fuel _ hp] at hrs hps
      rw [List.map_nil, List.append_nil] at hrs
      rw [show places s.size [] = [] from rfl, List.append_nil] at hps
      have HA := hid h1
      have HB := hid h2
      have HP := hid hap
      have HL := hid hbw
      have HE := hid hrs
      have HQ := hid hps
      clear h1 h2 hap hbw hrs hps
      go_wp2_with (at_builtin; refine wpList_append_lies _ rfl (.tmp 33) (.tmp 36) 25 rfl w.heap.size 3 i0 (.int .i64 0) 1 8 Tryz.underlying25 hi hz0 hz1 hz2 rfl (by decide) _ rs.length _ rfl (HB.out.alloc _) ⟨wr.heap.size, 0, none⟩ 1 1 [.int .i64 (s.size : Int)] rfl rfl (one_cell _ _ _) (one_oneCell _) (by decide) (by unfold maxLen; omega) (by omega) (by simp; omega) _ rfl ?_; intro gb cb W3 ho gr hat hlt; have HG := hid (append_keep (m := rs.length + 1) (cap := cb) gr hat HA.out HP.out.symm HL.out (owns_base HB.out) hsz); have HB4 := hid ho; clear ho gr hat hlt)
      go_ret2
      refine ⟨_, _, rfl, ?_, ?_, HG.out.2.2.1⟩
      · rw [← HE.out]; exact row_owns HG.out.1
      · have e2 : ps ++ [(s.size : Int)] = placesOf s.data.toList := by rw [HQ.out, Lib.size_eq]; rfl
        rw [← e2]
        have h5 := HB4.out
        rw [show [Value.int .i64 (s.size : Int)] = [(s.size : Int)].map (Value.int .i64) from rfl, ← List.map_append] at h5
        exact row_owns h5

end Go.Proofs.YtannndpamhgknaaGreatDoor.Fo

/- What the reference's Text answers for every string of at most ten thousand bytes: the same bytes. -/
namespace Go.Proofs.YtannndpamhgknaaGreatDoor.Fo
open Go.RowKit

theorem mk_app (a b : List UInt8) : (⟨a.toArray⟩ : ByteArray) ++ ⟨b.toArray⟩ = ⟨(a ++ b).toArray⟩ := by
  rw [ByteArray.mk_append_mk]


theorem rtext_walk (s : ByteArray) (w : World) (hs : s.size ≤ 10000) :
    Calls Tryz.prog 25 #[.string s] w fun e w' => e = .returned (.string ⟨(textOf s.data.toList).toArray⟩) ∧ Below w.heap.size w w' := by
  have HF := hid (rfold_walk s w (by omega))
  have hl := runesOf_length s.data.toList
  have hok := runesOf_ok s.data.toList
  rw [← Lib.size_eq] at hl
  have HT : Hid (textOf s.data.toList = (runesOf s.data.toList).flatMap Lib.encodeRune) := hid rfl
  generalize textOf s.data.toList = T at *
  generalize runesOf s.data.toList = rs at *
  generalize placesOf s.data.toList = ps at *
  have HO := hid hok
  clear hok
  go_enter Tryz.func25, Tryz.ntmps25
  go_wp2_with fail
  refine HF.out.mono ?_
  rintro e w1 ⟨v4, v5, rfl, R4, _, bel⟩
  have HL := hid bel
  clear bel
  rcases R4 with ⟨rfl, rfl⟩ | ⟨g, o, c, rfl, hH⟩
  · go_wp2
    refine wp_loop_rounds 1 ?_
    rw [rounds_succ]
    go_wp2
    go_ret
    have h := HT.out
    rw [List.flatMap_nil] at h
    subst h
    exact ⟨rfl, HL.out⟩
  · have HH := hid hH
    clear hH
    obtain ⟨n, hn⟩ : ∃ n, n = rs.length := ⟨_, rfl⟩
    rw [← hn] at hl ⊢
    have HN := hid hn
    clear hn
    go_wp2
    go_loopw [5, 6] (fun v5 v6 wr => ∃ (j : Nat) (acc : List UInt8), j ≤ n ∧ v6 = .int .i64 j ∧ v5 = .string ⟨acc.toArray⟩ ∧ acc.length ≤ 4 * j ∧ Hid (acc = (rs.take j).flatMap Lib.encodeRune) ∧ Below w1.heap.size w1 wr) (fun _ v6 _ => n - (intOf v6).toNat)
    case atStart => exact ⟨0, [], by omega, rfl, rfl, by simp, hid (by simp), Below.refl _ _⟩
    case round =>
      obtain ⟨j, acc, hj, rfl, rfl, hal, hacc, hb⟩ := hrel
      by_cases hlt : j < n
      · have hjl : j < rs.length := by have := HN.out; omega
        have cx := (HH.out.on hb) j hjl
        have hm : rs.getD j 0 ∈ rs := by simp [List.getD, hjl]
        have hok := HO.out _ hm
        have HX : Hid ((rs.take (j + 1)).flatMap Lib.encodeRune = (rs.take j).flatMap Lib.encodeRune ++ Lib.encodeRune (rs.getD j 0)) := hid (by
          rw [List.take_add_one, List.flatMap_append]
          simp [List.getD, hjl])
        generalize rs.getD j 0 = x at *
        have xb : 0 ≤ x ∧ x ≤ 1114111 := by unfold okRune at hok; omega
        have HE := hid (fun w => one_any x w xb.1 xb.2 hok)
        have hel := encodeRune_length x
        have hsz : (⟨acc.toArray⟩ : ByteArray).size ≤ 40000 := by simp [ByteArray.size]; omega
        have hsz2 : (⟨(Lib.encodeRune x).toArray⟩ : ByteArray).size ≤ 4 := by simp [ByteArray.size]; omega
        have hap := mk_app acc (Lib.encodeRune x)
        have HB := hid hb
        clear hb hm hok hjl
        generalize Lib.encodeRune x = E at *
        go_wp2_with fail
        refine (HE.out _).mono ?_
        rintro e u1 ⟨rfl, d1⟩
        have HB2 := hid (up_trans HB.out d1)
        clear d1
        go_wp2
        go_roundw
        case rel => exact ⟨j + 1, acc ++ E, by omega, by simp, rfl, by simp; omega, hid (by rw [HX.out, hacc.out]), HB2.out⟩
        case measure => simp [intOf]; omega
      · obtain rfl : j = n := by omega
        have HB := hid hb
        clear hb
        go_wp2
        go_ret
        have h1 := hacc.out
        rw [List.take_of_length_le (by have := HN.out; omega), ← HT.out] at h1
        subst h1
        exact ⟨rfl, up_trans HL.out HB.out⟩

end Go.Proofs.YtannndpamhgknaaGreatDoor.Fo
