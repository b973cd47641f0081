/- FoNext, FoDecMath, FoNextAll, FoInts, FoRefFold, FoRefText, FoArgs: these texts, one behind the other. -/
import Derived.Test.YtohgaknojkdohaaGreatDoorFoRefOne
import Derived.Test.YtohgaknojkdohaaGreatDoorFoRef
import Derived.Test.YtohgaknojkdohaaGreatDoorFoMath
import Derived.Test.YtohgaknojkdohaaGreatDoorFoExt
import Derived.Deep.AppendLies
import Derived.ChangeSlices
import Derived.WideShapes
/- The reference's next answers the sign that a string begins with, and its width, as the model's own decoder does. -/
namespace Go.Proofs.YtohgaknojkdohaaGreatDoor.Fo
open Go.RowKit

theorem and_31 (x : Int) (h0 : 0 ≤ x) (h1 : x < 4000000000) : bits .and .i64 x 31 = x % 32 := bits_mask .i64 62 (by decide) wraps_i64_62 5 (by decide) x h0 (by omega)
theorem and_15 (x : Int) (h0 : 0 ≤ x) (h1 : x < 4000000000) : bits .and .i64 x 15 = x % 16 := bits_mask .i64 62 (by decide) wraps_i64_62 4 (by decide) x h0 (by omega)
theorem and_7 (x : Int) (h0 : 0 ≤ x) (h1 : x < 4000000000) : bits .and .i64 x 7 = x % 8 := bits_mask .i64 62 (by decide) wraps_i64_62 3 (by decide) x h0 (by omega)
theorem or_64 (x y : Int) (hx : 0 ≤ x) (hx1 : x < 4000000000) (h0 : 0 ≤ y) (h1 : y < 64) : bits .or .i64 (x * 64) y = x * 64 + y := by
  obtain ⟨n, rfl⟩ := Int.eq_ofNat_of_zero_le hx
  have h := or_i64 6 n (by decide) y h0 h1 (by omega)
  have e : ((2 ^ 6 * n : Nat) : Int) = (n : Int) * 64 := by omega
  rw [e] at h
  exact h

def sizeZ (c : Int) : Int := if c < 128 then 1 else if 194 ≤ c ∧ c ≤ 223 then 2 else if 224 ≤ c ∧ c ≤ 239 then 3 else if 240 ≤ c ∧ c ≤ 244 then 4 else 0

theorem size_any (c : Int) (w : World) (h0 : 0 ≤ c) (h1 : c < 256) : Calls Tryz.prog 125 #[.int .u8 c] w fun e w' => e = .returned (.int .i64 (sizeZ c)) ∧ w' = w := by
  rcases (show c < 128 ∨ 128 ≤ c ∧ c < 194 ∨ 194 ≤ c ∧ c ≤ 223 ∨ 224 ≤ c ∧ c ≤ 239 ∨ 240 ≤ c ∧ c ≤ 244 ∨ 244 < c by omega) with h | h | h | h | h | h
  · rw [show sizeZ c = 1 by unfold sizeZ; omega]
    go_enter Tryz.func125, Tryz.ntmps125
    go_wp2
    go_ret
    exact ⟨rfl, rfl⟩
  · rw [show sizeZ c = 0 by unfold sizeZ; omega]
    go_enter Tryz.func125, Tryz.ntmps125
    go_wp2
    go_ret
    exact ⟨rfl, rfl⟩
  · rw [show sizeZ c = 2 by unfold sizeZ; omega]
    go_enter Tryz.func125, Tryz.ntmps125
    go_wp2
    go_ret
    exact ⟨rfl, rfl⟩
  · rw [show sizeZ c = 3 by unfold sizeZ; omega]
    go_enter Tryz.func125, Tryz.ntmps125
    go_wp2
    go_ret
    exact ⟨rfl, rfl⟩
  · rw [show sizeZ c = 4 by unfold sizeZ; omega]
    go_enter Tryz.func125, Tryz.ntmps125
    go_wp2
    go_ret
    exact ⟨rfl, rfl⟩
  · rw [show sizeZ c = 0 by unfold sizeZ; omega]
    go_enter Tryz.func125, Tryz.ntmps125
    go_wp2
    go_ret
    exact ⟨rfl, rfl⟩

/-- The bytes of a string that begins so. -/
structure Begins (s : ByteArray) (n b0 b1 b2 b3 : Nat) : Prop where
  size : s.size = n
  pos : 0 < n
  top : n ≤ 1000000
  bytes : b0 < 256 ∧ b1 < 256 ∧ b2 < 256 ∧ b3 < 256
  c0 : ∀ h, (s[0]'h).toNat = b0
  c1 : ∀ h, (s[1]'h).toNat = b1
  c2 : ∀ h, (s[2]'h).toNat = b2
  c3 : ∀ h, (s[3]'h).toNat = b3

theorem next_1 (s : ByteArray) (n b0 b1 b2 b3 : Nat) (w : World) (hB : Begins s n b0 b1 b2 b3) (h0 : b0 < 128) :
    Calls Tryz.prog 89 #[.string s] w fun e w' => e = .returned (.tuple #[.int .i64 (b0 : Int), .int .i64 1]) ∧ w' = w := by
  obtain ⟨hsz, hpos, htop, l0, c0, c1, c2, c3⟩ := hB
  have HS := hid (fun w => size_any (b0 : Int) w (by omega) (by omega))
  rw [show sizeZ (b0 : Int) = 1 by unfold sizeZ; omega] at HS
  go_enter Tryz.func89, Tryz.ntmps89
  go_wp2_with fail
  refine (HS.out _).mono ?_
  rintro e w1 ⟨rfl, rfl⟩
  go_wp2
  go_ret2
  exact ⟨rfl, rfl⟩

theorem next_0 (s : ByteArray) (n b0 b1 b2 b3 : Nat) (w : World) (hB : Begins s n b0 b1 b2 b3) (h0 : (128 ≤ b0 ∧ b0 < 194) ∨ 244 < b0) :
    Calls Tryz.prog 89 #[.string s] w fun e w' => e = .returned (.tuple #[.int .i64 65533, .int .i64 1]) ∧ w' = w := by
  obtain ⟨hsz, hpos, htop, l0, c0, c1, c2, c3⟩ := hB
  have HS := hid (fun w => size_any (b0 : Int) w (by omega) (by omega))
  rw [show sizeZ (b0 : Int) = 0 by unfold sizeZ; omega] at HS
  go_enter Tryz.func89, Tryz.ntmps89
  go_wp2_with fail
  refine (HS.out _).mono ?_
  rintro e w1 ⟨rfl, rfl⟩
  go_wp2
  go_ret2
  exact ⟨rfl, rfl⟩

theorem next_short2 (s : ByteArray) (n b0 b1 b2 b3 : Nat) (w : World) (hB : Begins s n b0 b1 b2 b3) (h0 : 194 ≤ b0 ∧ b0 ≤ 223) (hn : n < 2) :
    Calls Tryz.prog 89 #[.string s] w fun e w' => e = .returned (.tuple #[.int .i64 65533, .int .i64 1]) ∧ w' = w := by
  obtain ⟨hsz, hpos, htop, l0, c0, c1, c2, c3⟩ := hB
  have HS := hid (fun w => size_any (b0 : Int) w (by omega) (by omega))
  rw [show sizeZ (b0 : Int) = 2 by unfold sizeZ; omega] at HS
  go_enter Tryz.func89, Tryz.ntmps89
  go_wp2_with fail
  refine (HS.out _).mono ?_
  rintro e w1 ⟨rfl, rfl⟩
  go_wp2
  go_ret2
  exact ⟨rfl, rfl⟩

theorem next_short3 (s : ByteArray) (n b0 b1 b2 b3 : Nat) (w : World) (hB : Begins s n b0 b1 b2 b3) (h0 : 224 ≤ b0 ∧ b0 ≤ 239) (hn : n < 3) :
    Calls Tryz.prog 89 #[.string s] w fun e w' => e = .returned (.tuple #[.int .i64 65533, .int .i64 1]) ∧ w' = w := by
  obtain ⟨hsz, hpos, htop, l0, c0, c1, c2, c3⟩ := hB
  have HS := hid (fun w => size_any (b0 : Int) w (by omega) (by omega))
  rw [show sizeZ (b0 : Int) = 3 by unfold sizeZ; omega] at HS
  go_enter Tryz.func89, Tryz.ntmps89
  go_wp2_with fail
  refine (HS.out _).mono ?_
  rintro e w1 ⟨rfl, rfl⟩
  go_wp2
  go_ret2
  exact ⟨rfl, rfl⟩

theorem next_short4 (s : ByteArray) (n b0 b1 b2 b3 : Nat) (w : World) (hB : Begins s n b0 b1 b2 b3) (h0 : 240 ≤ b0 ∧ b0 ≤ 244) (hn : n < 4) :
    Calls Tryz.prog 89 #[.string s] w fun e w' => e = .returned (.tuple #[.int .i64 65533, .int .i64 1]) ∧ w' = w := by
  obtain ⟨hsz, hpos, htop, l0, c0, c1, c2, c3⟩ := hB
  have HS := hid (fun w => size_any (b0 : Int) w (by omega) (by omega))
  rw [show sizeZ (b0 : Int) = 4 by unfold sizeZ; omega] at HS
  go_enter Tryz.func89, Tryz.ntmps89
  go_wp2_with fail
  refine (HS.out _).mono ?_
  rintro e w1 ⟨rfl, rfl⟩
  go_wp2
  go_ret2
  exact ⟨rfl, rfl⟩

theorem next_2bad1lo (s : ByteArray) (n b0 b1 b2 b3 : Nat) (w : World) (hB : Begins s n b0 b1 b2 b3) (h0 : 194 ≤ b0 ∧ b0 ≤ 223) (hn : 2 ≤ n) (h1 : b1 < 128) :
    Calls Tryz.prog 89 #[.string s] w fun e w' => e = .returned (.tuple #[.int .i64 65533, .int .i64 1]) ∧ w' = w := by
  obtain ⟨hsz, hpos, htop, l0, c0, c1, c2, c3⟩ := hB
  have HS := hid (fun w => size_any (b0 : Int) w (by omega) (by omega))
  rw [show sizeZ (b0 : Int) = 2 by unfold sizeZ; omega] at HS
  have a0 := and_31 (b0 : Int) (by omega) (by omega)
  go_enter Tryz.func89, Tryz.ntmps89
  go_wp2_with fail
  refine (HS.out _).mono ?_
  rintro e w1 ⟨rfl, rfl⟩
  go_wp2
  refine wp_loop_rounds 3 ?_
  rw [rounds_succ]
  go_wp2
  go_ret2
  exact ⟨rfl, rfl⟩

theorem next_2bad1hi (s : ByteArray) (n b0 b1 b2 b3 : Nat) (w : World) (hB : Begins s n b0 b1 b2 b3) (h0 : 194 ≤ b0 ∧ b0 ≤ 223) (hn : 2 ≤ n) (h1 : 191 < b1) :
    Calls Tryz.prog 89 #[.string s] w fun e w' => e = .returned (.tuple #[.int .i64 65533, .int .i64 1]) ∧ w' = w := by
  obtain ⟨hsz, hpos, htop, l0, c0, c1, c2, c3⟩ := hB
  have HS := hid (fun w => size_any (b0 : Int) w (by omega) (by omega))
  rw [show sizeZ (b0 : Int) = 2 by unfold sizeZ; omega] at HS
  have a0 := and_31 (b0 : Int) (by omega) (by omega)
  go_enter Tryz.func89, Tryz.ntmps89
  go_wp2_with fail
  refine (HS.out _).mono ?_
  rintro e w1 ⟨rfl, rfl⟩
  go_wp2
  refine wp_loop_rounds 3 ?_
  rw [rounds_succ]
  go_wp2
  go_ret2
  exact ⟨rfl, rfl⟩

theorem next_2ok (s : ByteArray) (n b0 b1 b2 b3 : Nat) (w : World) (hB : Begins s n b0 b1 b2 b3) (h0 : 194 ≤ b0 ∧ b0 ≤ 223) (hn : 2 ≤ n) (h1 : 128 ≤ b1 ∧ b1 ≤ 191) (r1 : Int) (e1 : r1 = (b0 : Int) % 32 * 64 + (b1 : Int) % 64) :
    Calls Tryz.prog 89 #[.string s] w fun e w' => e = .returned (.tuple #[.int .i64 r1, .int .i64 2]) ∧ w' = w := by
  obtain ⟨hsz, hpos, htop, l0, c0, c1, c2, c3⟩ := hB
  have HS := hid (fun w => size_any (b0 : Int) w (by omega) (by omega))
  rw [show sizeZ (b0 : Int) = 2 by unfold sizeZ; omega] at HS
  have a0 := and_31 (b0 : Int) (by omega) (by omega)
  have a1 := and_63 (b1 : Int) (by omega) (by omega)
  have o1 := or_64 ((b0 : Int) % 32) ((b1 : Int) % 64) (by omega) (by omega) (by omega) (by omega)
  rw [← e1] at o1
  have q1 : 0 ≤ r1 ∧ r1 < 2048 := by omega
  clear e1
  go_enter Tryz.func89, Tryz.ntmps89
  go_wp2_with fail
  refine (HS.out _).mono ?_
  rintro e w1 ⟨rfl, rfl⟩
  go_wp2
  refine wp_loop_rounds 3 ?_
  rw [rounds_succ]
  go_wp2
  rw [rounds_succ]
  go_wp2
  go_ret2
  exact ⟨rfl, rfl⟩

theorem next_3bad1lo (s : ByteArray) (n b0 b1 b2 b3 : Nat) (w : World) (hB : Begins s n b0 b1 b2 b3) (h0 : 224 ≤ b0 ∧ b0 ≤ 239) (hn : 3 ≤ n) (h1 : b1 < 128) :
    Calls Tryz.prog 89 #[.string s] w fun e w' => e = .returned (.tuple #[.int .i64 65533, .int .i64 1]) ∧ w' = w := by
  obtain ⟨hsz, hpos, htop, l0, c0, c1, c2, c3⟩ := hB
  have HS := hid (fun w => size_any (b0 : Int) w (by omega) (by omega))
  rw [show sizeZ (b0 : Int) = 3 by unfold sizeZ; omega] at HS
  have a0 := and_15 (b0 : Int) (by omega) (by omega)
  go_enter Tryz.func89, Tryz.ntmps89
  go_wp2_with fail
  refine (HS.out _).mono ?_
  rintro e w1 ⟨rfl, rfl⟩
  go_wp2
  refine wp_loop_rounds 4 ?_
  rw [rounds_succ]
  go_wp2
  go_ret2
  exact ⟨rfl, rfl⟩

theorem next_3bad1hi (s : ByteArray) (n b0 b1 b2 b3 : Nat) (w : World) (hB : Begins s n b0 b1 b2 b3) (h0 : 224 ≤ b0 ∧ b0 ≤ 239) (hn : 3 ≤ n) (h1 : 191 < b1) :
    Calls Tryz.prog 89 #[.string s] w fun e w' => e = .returned (.tuple #[.int .i64 65533, .int .i64 1]) ∧ w' = w := by
  obtain ⟨hsz, hpos, htop, l0, c0, c1, c2, c3⟩ := hB
  have HS := hid (fun w => size_any (b0 : Int) w (by omega) (by omega))
  rw [show sizeZ (b0 : Int) = 3 by unfold sizeZ; omega] at HS
  have a0 := and_15 (b0 : Int) (by omega) (by omega)
  go_enter Tryz.func89, Tryz.ntmps89
  go_wp2_with fail
  refine (HS.out _).mono ?_
  rintro e w1 ⟨rfl, rfl⟩
  go_wp2
  refine wp_loop_rounds 4 ?_
  rw [rounds_succ]
  go_wp2
  go_ret2
  exact ⟨rfl, rfl⟩

theorem next_3bad2lo (s : ByteArray) (n b0 b1 b2 b3 : Nat) (w : World) (hB : Begins s n b0 b1 b2 b3) (h0 : 224 ≤ b0 ∧ b0 ≤ 239) (hn : 3 ≤ n) (h1 : 128 ≤ b1 ∧ b1 ≤ 191) (h2 : b2 < 128) (r1 : Int) (e1 : r1 = (b0 : Int) % 16 * 64 + (b1 : Int) % 64) :
    Calls Tryz.prog 89 #[.string s] w fun e w' => e = .returned (.tuple #[.int .i64 65533, .int .i64 1]) ∧ w' = w := by
  obtain ⟨hsz, hpos, htop, l0, c0, c1, c2, c3⟩ := hB
  have HS := hid (fun w => size_any (b0 : Int) w (by omega) (by omega))
  rw [show sizeZ (b0 : Int) = 3 by unfold sizeZ; omega] at HS
  have a0 := and_15 (b0 : Int) (by omega) (by omega)
  have a1 := and_63 (b1 : Int) (by omega) (by omega)
  have o1 := or_64 ((b0 : Int) % 16) ((b1 : Int) % 64) (by omega) (by omega) (by omega) (by omega)
  rw [← e1] at o1
  have q1 : 0 ≤ r1 ∧ r1 < 1024 := by omega
  clear e1
  go_enter Tryz.func89, Tryz.ntmps89
  go_wp2_with fail
  refine (HS.out _).mono ?_
  rintro e w1 ⟨rfl, rfl⟩
  go_wp2
  refine wp_loop_rounds 4 ?_
  rw [rounds_succ]
  go_wp2
  rw [rounds_succ]
  go_wp2
  go_ret2
  exact ⟨rfl, rfl⟩

theorem next_3bad2hi (s : ByteArray) (n b0 b1 b2 b3 : Nat) (w : World) (hB : Begins s n b0 b1 b2 b3) (h0 : 224 ≤ b0 ∧ b0 ≤ 239) (hn : 3 ≤ n) (h1 : 128 ≤ b1 ∧ b1 ≤ 191) (h2 : 191 < b2) (r1 : Int) (e1 : r1 = (b0 : Int) % 16 * 64 + (b1 : Int) % 64) :
    Calls Tryz.prog 89 #[.string s] w fun e w' => e = .returned (.tuple #[.int .i64 65533, .int .i64 1]) ∧ w' = w := by
  obtain ⟨hsz, hpos, htop, l0, c0, c1, c2, c3⟩ := hB
  have HS := hid (fun w => size_any (b0 : Int) w (by omega) (by omega))
  rw [show sizeZ (b0 : Int) = 3 by unfold sizeZ; omega] at HS
  have a0 := and_15 (b0 : Int) (by omega) (by omega)
  have a1 := and_63 (b1 : Int) (by omega) (by omega)
  have o1 := or_64 ((b0 : Int) % 16) ((b1 : Int) % 64) (by omega) (by omega) (by omega) (by omega)
  rw [← e1] at o1
  have q1 : 0 ≤ r1 ∧ r1 < 1024 := by omega
  clear e1
  go_enter Tryz.func89, Tryz.ntmps89
  go_wp2_with fail
  refine (HS.out _).mono ?_
  rintro e w1 ⟨rfl, rfl⟩
  go_wp2
  refine wp_loop_rounds 4 ?_
  rw [rounds_succ]
  go_wp2
  rw [rounds_succ]
  go_wp2
  go_ret2
  exact ⟨rfl, rfl⟩

theorem next_3low (s : ByteArray) (n b0 b1 b2 b3 : Nat) (w : World) (hB : Begins s n b0 b1 b2 b3) (h0 : 224 ≤ b0 ∧ b0 ≤ 239) (hn : 3 ≤ n) (h1 : 128 ≤ b1 ∧ b1 ≤ 191) (h2 : 128 ≤ b2 ∧ b2 ≤ 191) (r1 : Int) (e1 : r1 = (b0 : Int) % 16 * 64 + (b1 : Int) % 64) (r2 : Int) (e2 : r2 = r1 * 64 + (b2 : Int) % 64) (g1 : r2 < 2048) :
    Calls Tryz.prog 89 #[.string s] w fun e w' => e = .returned (.tuple #[.int .i64 65533, .int .i64 1]) ∧ w' = w := by
  obtain ⟨hsz, hpos, htop, l0, c0, c1, c2, c3⟩ := hB
  have HS := hid (fun w => size_any (b0 : Int) w (by omega) (by omega))
  rw [show sizeZ (b0 : Int) = 3 by unfold sizeZ; omega] at HS
  have a0 := and_15 (b0 : Int) (by omega) (by omega)
  have a1 := and_63 (b1 : Int) (by omega) (by omega)
  have o1 := or_64 ((b0 : Int) % 16) ((b1 : Int) % 64) (by omega) (by omega) (by omega) (by omega)
  rw [← e1] at o1
  have a2 := and_63 (b2 : Int) (by omega) (by omega)
  have o2 := or_64 r1 ((b2 : Int) % 64) (by omega) (by omega) (by omega) (by omega)
  rw [← e2] at o2
  have q1 : 0 ≤ r1 ∧ r1 < 1024 := by omega
  have q2 : 0 ≤ r2 ∧ r2 < 65536 := by omega
  clear e1 e2
  go_enter Tryz.func89, Tryz.ntmps89
  go_wp2_with fail
  refine (HS.out _).mono ?_
  rintro e w1 ⟨rfl, rfl⟩
  go_wp2
  refine wp_loop_rounds 4 ?_
  rw [rounds_succ]
  go_wp2
  rw [rounds_succ]
  go_wp2
  rw [rounds_succ]
  go_wp2
  go_ret2
  exact ⟨rfl, rfl⟩

theorem next_3sur (s : ByteArray) (n b0 b1 b2 b3 : Nat) (w : World) (hB : Begins s n b0 b1 b2 b3) (h0 : 224 ≤ b0 ∧ b0 ≤ 239) (hn : 3 ≤ n) (h1 : 128 ≤ b1 ∧ b1 ≤ 191) (h2 : 128 ≤ b2 ∧ b2 ≤ 191) (r1 : Int) (e1 : r1 = (b0 : Int) % 16 * 64 + (b1 : Int) % 64) (r2 : Int) (e2 : r2 = r1 * 64 + (b2 : Int) % 64) (g1 : 55296 ≤ r2 ∧ r2 ≤ 57343) :
    Calls Tryz.prog 89 #[.string s] w fun e w' => e = .returned (.tuple #[.int .i64 65533, .int .i64 1]) ∧ w' = w := by
  obtain ⟨hsz, hpos, htop, l0, c0, c1, c2, c3⟩ := hB
  have HS := hid (fun w => size_any (b0 : Int) w (by omega) (by omega))
  rw [show sizeZ (b0 : Int) = 3 by unfold sizeZ; omega] at HS
  have a0 := and_15 (b0 : Int) (by omega) (by omega)
  have a1 := and_63 (b1 : Int) (by omega) (by omega)
  have o1 := or_64 ((b0 : Int) % 16) ((b1 : Int) % 64) (by omega) (by omega) (by omega) (by omega)
  rw [← e1] at o1
  have a2 := and_63 (b2 : Int) (by omega) (by omega)
  have o2 := or_64 r1 ((b2 : Int) % 64) (by omega) (by omega) (by omega) (by omega)
  rw [← e2] at o2
  have q1 : 0 ≤ r1 ∧ r1 < 1024 := by omega
  have q2 : 0 ≤ r2 ∧ r2 < 65536 := by omega
  clear e1 e2
  have HI := hid (fun w => rin_any r2 55296 57343 w)
  rw [decide_eq_true g1] at HI
  go_enter Tryz.func89, Tryz.ntmps89
  go_wp2_with fail
  refine (HS.out _).mono ?_
  rintro e w1 ⟨rfl, rfl⟩
  go_wp2
  refine wp_loop_rounds 4 ?_
  rw [rounds_succ]
  go_wp2
  rw [rounds_succ]
  go_wp2
  rw [rounds_succ]
  go_wp2_with fail
  refine (HI.out _).mono ?_
  rintro e w1 ⟨rfl, rfl⟩
  go_wp2
  go_ret2
  exact ⟨rfl, rfl⟩

theorem next_3ok (s : ByteArray) (n b0 b1 b2 b3 : Nat) (w : World) (hB : Begins s n b0 b1 b2 b3) (h0 : 224 ≤ b0 ∧ b0 ≤ 239) (hn : 3 ≤ n) (h1 : 128 ≤ b1 ∧ b1 ≤ 191) (h2 : 128 ≤ b2 ∧ b2 ≤ 191) (r1 : Int) (e1 : r1 = (b0 : Int) % 16 * 64 + (b1 : Int) % 64) (r2 : Int) (e2 : r2 = r1 * 64 + (b2 : Int) % 64) (g1 : 2048 ≤ r2) (g2 : ¬ (55296 ≤ r2 ∧ r2 ≤ 57343)) :
    Calls Tryz.prog 89 #[.string s] w fun e w' => e = .returned (.tuple #[.int .i64 r2, .int .i64 3]) ∧ w' = w := by
  obtain ⟨hsz, hpos, htop, l0, c0, c1, c2, c3⟩ := hB
  have HS := hid (fun w => size_any (b0 : Int) w (by omega) (by omega))
  rw [show sizeZ (b0 : Int) = 3 by unfold sizeZ; omega] at HS
  have a0 := and_15 (b0 : Int) (by omega) (by omega)
  have a1 := and_63 (b1 : Int) (by omega) (by omega)
  have o1 := or_64 ((b0 : Int) % 16) ((b1 : Int) % 64) (by omega) (by omega) (by omega) (by omega)
  rw [← e1] at o1
  have a2 := and_63 (b2 : Int) (by omega) (by omega)
  have o2 := or_64 r1 ((b2 : Int) % 64) (by omega) (by omega) (by omega) (by omega)
  rw [← e2] at o2
  have q1 : 0 ≤ r1 ∧ r1 < 1024 := by omega
  have q2 : 0 ≤ r2 ∧ r2 < 65536 := by omega
  clear e1 e2
  have HI := hid (fun w => rin_any r2 55296 57343 w)
  rw [decide_eq_false g2] at HI
  go_enter Tryz.func89, Tryz.ntmps89
  go_wp2_with fail
  refine (HS.out _).mono ?_
  rintro e w1 ⟨rfl, rfl⟩
  go_wp2
  refine wp_loop_rounds 4 ?_
  rw [rounds_succ]
  go_wp2
  rw [rounds_succ]
  go_wp2
  rw [rounds_succ]
  go_wp2_with fail
  refine (HI.out _).mono ?_
  rintro e w1 ⟨rfl, rfl⟩
  go_wp2
  go_ret2
  exact ⟨rfl, rfl⟩

theorem next_4bad1lo (s : ByteArray) (n b0 b1 b2 b3 : Nat) (w : World) (hB : Begins s n b0 b1 b2 b3) (h0 : 240 ≤ b0 ∧ b0 ≤ 244) (hn : 4 ≤ n) (h1 : b1 < 128) :
    Calls Tryz.prog 89 #[.string s] w fun e w' => e = .returned (.tuple #[.int .i64 65533, .int .i64 1]) ∧ w' = w := by
  obtain ⟨hsz, hpos, htop, l0, c0, c1, c2, c3⟩ := hB
  have HS := hid (fun w => size_any (b0 : Int) w (by omega) (by omega))
  rw [show sizeZ (b0 : Int) = 4 by unfold sizeZ; omega] at HS
  have a0 := and_7 (b0 : Int) (by omega) (by omega)
  go_enter Tryz.func89, Tryz.ntmps89
  go_wp2_with fail
  refine (HS.out _).mono ?_
  rintro e w1 ⟨rfl, rfl⟩
  go_wp2
  refine wp_loop_rounds 5 ?_
  rw [rounds_succ]
  go_wp2
  go_ret2
  exact ⟨rfl, rfl⟩

theorem next_4bad1hi (s : ByteArray) (n b0 b1 b2 b3 : Nat) (w : World) (hB : Begins s n b0 b1 b2 b3) (h0 : 240 ≤ b0 ∧ b0 ≤ 244) (hn : 4 ≤ n) (h1 : 191 < b1) :
    Calls Tryz.prog 89 #[.string s] w fun e w' => e = .returned (.tuple #[.int .i64 65533, .int .i64 1]) ∧ w' = w := by
  obtain ⟨hsz, hpos, htop, l0, c0, c1, c2, c3⟩ := hB
  have HS := hid (fun w => size_any (b0 : Int) w (by omega) (by omega))
  rw [show sizeZ (b0 : Int) = 4 by unfold sizeZ; omega] at HS
  have a0 := and_7 (b0 : Int) (by omega) (by omega)
  go_enter Tryz.func89, Tryz.ntmps89
  go_wp2_with fail
  refine (HS.out _).mono ?_
  rintro e w1 ⟨rfl, rfl⟩
  go_wp2
  refine wp_loop_rounds 5 ?_
  rw [rounds_succ]
  go_wp2
  go_ret2
  exact ⟨rfl, rfl⟩

theorem next_4bad2lo (s : ByteArray) (n b0 b1 b2 b3 : Nat) (w : World) (hB : Begins s n b0 b1 b2 b3) (h0 : 240 ≤ b0 ∧ b0 ≤ 244) (hn : 4 ≤ n) (h1 : 128 ≤ b1 ∧ b1 ≤ 191) (h2 : b2 < 128) (r1 : Int) (e1 : r1 = (b0 : Int) % 8 * 64 + (b1 : Int) % 64) :
    Calls Tryz.prog 89 #[.string s] w fun e w' => e = .returned (.tuple #[.int .i64 65533, .int .i64 1]) ∧ w' = w := by
  obtain ⟨hsz, hpos, htop, l0, c0, c1, c2, c3⟩ := hB
  have HS := hid (fun w => size_any (b0 : Int) w (by omega) (by omega))
  rw [show sizeZ (b0 : Int) = 4 by unfold sizeZ; omega] at HS
  have a0 := and_7 (b0 : Int) (by omega) (by omega)
  have a1 := and_63 (b1 : Int) (by omega) (by omega)
  have o1 := or_64 ((b0 : Int) % 8) ((b1 : Int) % 64) (by omega) (by omega) (by omega) (by omega)
  rw [← e1] at o1
  have q1 : 0 ≤ r1 ∧ r1 < 512 := by omega
  clear e1
  go_enter Tryz.func89, Tryz.ntmps89
  go_wp2_with fail
  refine (HS.out _).mono ?_
  rintro e w1 ⟨rfl, rfl⟩
  go_wp2
  refine wp_loop_rounds 5 ?_
  rw [rounds_succ]
  go_wp2
  rw [rounds_succ]
  go_wp2
  go_ret2
  exact ⟨rfl, rfl⟩

theorem next_4bad2hi (s : ByteArray) (n b0 b1 b2 b3 : Nat) (w : World) (hB : Begins s n b0 b1 b2 b3) (h0 : 240 ≤ b0 ∧ b0 ≤ 244) (hn : 4 ≤ n) (h1 : 128 ≤ b1 ∧ b1 ≤ 191) (h2 : 191 < b2) (r1 : Int) (e1 : r1 = (b0 : Int) % 8 * 64 + (b1 : Int) % 64) :
    Calls Tryz.prog 89 #[.string s] w fun e w' => e = .returned (.tuple #[.int .i64 65533, .int .i64 1]) ∧ w' = w := by
  obtain ⟨hsz, hpos, htop, l0, c0, c1, c2, c3⟩ := hB
  have HS := hid (fun w => size_any (b0 : Int) w (by omega) (by omega))
  rw [show sizeZ (b0 : Int) = 4 by unfold sizeZ; omega] at HS
  have a0 := and_7 (b0 : Int) (by omega) (by omega)
  have a1 := and_63 (b1 : Int) (by omega) (by omega)
  have o1 := or_64 ((b0 : Int) % 8) ((b1 : Int) % 64) (by omega) (by omega) (by omega) (by omega)
  rw [← e1] at o1
  have q1 : 0 ≤ r1 ∧ r1 < 512 := by omega
  clear e1
  go_enter Tryz.func89, Tryz.ntmps89
  go_wp2_with fail
  refine (HS.out _).mono ?_
  rintro e w1 ⟨rfl, rfl⟩
  go_wp2
  refine wp_loop_rounds 5 ?_
  rw [rounds_succ]
  go_wp2
  rw [rounds_succ]
  go_wp2
  go_ret2
  exact ⟨rfl, rfl⟩

theorem next_4bad3lo (s : ByteArray) (n b0 b1 b2 b3 : Nat) (w : World) (hB : Begins s n b0 b1 b2 b3) (h0 : 240 ≤ b0 ∧ b0 ≤ 244) (hn : 4 ≤ n) (h1 : 128 ≤ b1 ∧ b1 ≤ 191) (h2 : 128 ≤ b2 ∧ b2 ≤ 191) (h3 : b3 < 128) (r1 : Int) (e1 : r1 = (b0 : Int) % 8 * 64 + (b1 : Int) % 64) (r2 : Int) (e2 : r2 = r1 * 64 + (b2 : Int) % 64) :
    Calls Tryz.prog 89 #[.string s] w fun e w' => e = .returned (.tuple #[.int .i64 65533, .int .i64 1]) ∧ w' = w := by
  obtain ⟨hsz, hpos, htop, l0, c0, c1, c2, c3⟩ := hB
  have HS := hid (fun w => size_any (b0 : Int) w (by omega) (by omega))
  rw [show sizeZ (b0 : Int) = 4 by unfold sizeZ; omega] at HS
  have a0 := and_7 (b0 : Int) (by omega) (by omega)
  have a1 := and_63 (b1 : Int) (by omega) (by omega)
  have o1 := or_64 ((b0 : Int) % 8) ((b1 : Int) % 64) (by omega) (by omega) (by omega) (by omega)
  rw [← e1] at o1
  have a2 := and_63 (b2 : Int) (by omega) (by omega)
  have o2 := or_64 r1 ((b2 : Int) % 64) (by omega) (by omega) (by omega) (by omega)
  rw [← e2] at o2
  have q1 : 0 ≤ r1 ∧ r1 < 512 := by omega
  have q2 : 0 ≤ r2 ∧ r2 < 32768 := by omega
  clear e1 e2
  go_enter Tryz.func89, Tryz.ntmps89
  go_wp2_with fail
  refine (HS.out _).mono ?_
  rintro e w1 ⟨rfl, rfl⟩
  go_wp2
  refine wp_loop_rounds 5 ?_
  rw [rounds_succ]
  go_wp2
  rw [rounds_succ]
  go_wp2
  rw [rounds_succ]
  go_wp2
  go_ret2
  exact ⟨rfl, rfl⟩

theorem next_4bad3hi (s : ByteArray) (n b0 b1 b2 b3 : Nat) (w : World) (hB : Begins s n b0 b1 b2 b3) (h0 : 240 ≤ b0 ∧ b0 ≤ 244) (hn : 4 ≤ n) (h1 : 128 ≤ b1 ∧ b1 ≤ 191) (h2 : 128 ≤ b2 ∧ b2 ≤ 191) (h3 : 191 < b3) (r1 : Int) (e1 : r1 = (b0 : Int) % 8 * 64 + (b1 : Int) % 64) (r2 : Int) (e2 : r2 = r1 * 64 + (b2 : Int) % 64) :
    Calls Tryz.prog 89 #[.string s] w fun e w' => e = .returned (.tuple #[.int .i64 65533, .int .i64 1]) ∧ w' = w := by
  obtain ⟨hsz, hpos, htop, l0, c0, c1, c2, c3⟩ := hB
  have HS := hid (fun w => size_any (b0 : Int) w (by omega) (by omega))
  rw [show sizeZ (b0 : Int) = 4 by unfold sizeZ; omega] at HS
  have a0 := and_7 (b0 : Int) (by omega) (by omega)
  have a1 := and_63 (b1 : Int) (by omega) (by omega)
  have o1 := or_64 ((b0 : Int) % 8) ((b1 : Int) % 64) (by omega) (by omega) (by omega) (by omega)
  rw [← e1] at o1
  have a2 := and_63 (b2 : Int) (by omega) (by omega)
  have o2 := or_64 r1 ((b2 : Int) % 64) (by omega) (by omega) (by omega) (by omega)
  rw [← e2] at o2
  have q1 : 0 ≤ r1 ∧ r1 < 512 := by omega
  have q2 : 0 ≤ r2 ∧ r2 < 32768 := by omega
  clear e1 e2
  go_enter Tryz.func89, Tryz.ntmps89
  go_wp2_with fail
  refine (HS.out _).mono ?_
  rintro e w1 ⟨rfl, rfl⟩
  go_wp2
  refine wp_loop_rounds 5 ?_
  rw [rounds_succ]
  go_wp2
  rw [rounds_succ]
  go_wp2
  rw [rounds_succ]
  go_wp2
  go_ret2
  exact ⟨rfl, rfl⟩

theorem next_4low (s : ByteArray) (n b0 b1 b2 b3 : Nat) (w : World) (hB : Begins s n b0 b1 b2 b3) (h0 : 240 ≤ b0 ∧ b0 ≤ 244) (hn : 4 ≤ n) (h1 : 128 ≤ b1 ∧ b1 ≤ 191) (h2 : 128 ≤ b2 ∧ b2 ≤ 191) (h3 : 128 ≤ b3 ∧ b3 ≤ 191) (r1 : Int) (e1 : r1 = (b0 : Int) % 8 * 64 + (b1 : Int) % 64) (r2 : Int) (e2 : r2 = r1 * 64 + (b2 : Int) % 64) (r3 : Int) (e3 : r3 = r2 * 64 + (b3 : Int) % 64) (g1 : r3 < 65536) :
    Calls Tryz.prog 89 #[.string s] w fun e w' => e = .returned (.tuple #[.int .i64 65533, .int .i64 1]) ∧ w' = w := by
  obtain ⟨hsz, hpos, htop, l0, c0, c1, c2, c3⟩ := hB
  have HS := hid (fun w => size_any (b0 : Int) w (by omega) (by omega))
  rw [show sizeZ (b0 : Int) = 4 by unfold sizeZ; omega] at HS
  have a0 := and_7 (b0 : Int) (by omega) (by omega)
  have a1 := and_63 (b1 : Int) (by omega) (by omega)
  have o1 := or_64 ((b0 : Int) % 8) ((b1 : Int) % 64) (by omega) (by omega) (by omega) (by omega)
  rw [← e1] at o1
  have a2 := and_63 (b2 : Int) (by omega) (by omega)
  have o2 := or_64 r1 ((b2 : Int) % 64) (by omega) (by omega) (by omega) (by omega)
  rw [← e2] at o2
  have a3 := and_63 (b3 : Int) (by omega) (by omega)
  have o3 := or_64 r2 ((b3 : Int) % 64) (by omega) (by omega) (by omega) (by omega)
  rw [← e3] at o3
  have q1 : 0 ≤ r1 ∧ r1 < 512 := by omega
  have q2 : 0 ≤ r2 ∧ r2 < 32768 := by omega
  have q3 : 0 ≤ r3 ∧ r3 < 2097152 := by omega
  clear e1 e2 e3
  go_enter Tryz.func89, Tryz.ntmps89
  go_wp2_with fail
  refine (HS.out _).mono ?_
  rintro e w1 ⟨rfl, rfl⟩
  go_wp2
  refine wp_loop_rounds 5 ?_
  rw [rounds_succ]
  go_wp2
  rw [rounds_succ]
  go_wp2
  rw [rounds_succ]
  go_wp2
  rw [rounds_succ]
  go_wp2
  go_ret2
  exact ⟨rfl, rfl⟩

theorem next_4high (s : ByteArray) (n b0 b1 b2 b3 : Nat) (w : World) (hB : Begins s n b0 b1 b2 b3) (h0 : 240 ≤ b0 ∧ b0 ≤ 244) (hn : 4 ≤ n) (h1 : 128 ≤ b1 ∧ b1 ≤ 191) (h2 : 128 ≤ b2 ∧ b2 ≤ 191) (h3 : 128 ≤ b3 ∧ b3 ≤ 191) (r1 : Int) (e1 : r1 = (b0 : Int) % 8 * 64 + (b1 : Int) % 64) (r2 : Int) (e2 : r2 = r1 * 64 + (b2 : Int) % 64) (r3 : Int) (e3 : r3 = r2 * 64 + (b3 : Int) % 64) (g1 : 1114111 < r3) :
    Calls Tryz.prog 89 #[.string s] w fun e w' => e = .returned (.tuple #[.int .i64 65533, .int .i64 1]) ∧ w' = w := by
  obtain ⟨hsz, hpos, htop, l0, c0, c1, c2, c3⟩ := hB
  have HS := hid (fun w => size_any (b0 : Int) w (by omega) (by omega))
  rw [show sizeZ (b0 : Int) = 4 by unfold sizeZ; omega] at HS
  have a0 := and_7 (b0 : Int) (by omega) (by omega)
  have a1 := and_63 (b1 : Int) (by omega) (by omega)
  have o1 := or_64 ((b0 : Int) % 8) ((b1 : Int) % 64) (by omega) (by omega) (by omega) (by omega)
  rw [← e1] at o1
  have a2 := and_63 (b2 : Int) (by omega) (by omega)
  have o2 := or_64 r1 ((b2 : Int) % 64) (by omega) (by omega) (by omega) (by omega)
  rw [← e2] at o2
  have a3 := and_63 (b3 : Int) (by omega) (by omega)
  have o3 := or_64 r2 ((b3 : Int) % 64) (by omega) (by omega) (by omega) (by omega)
  rw [← e3] at o3
  have q1 : 0 ≤ r1 ∧ r1 < 512 := by omega
  have q2 : 0 ≤ r2 ∧ r2 < 32768 := by omega
  have q3 : 0 ≤ r3 ∧ r3 < 2097152 := by omega
  clear e1 e2 e3
  go_enter Tryz.func89, Tryz.ntmps89
  go_wp2_with fail
  refine (HS.out _).mono ?_
  rintro e w1 ⟨rfl, rfl⟩
  go_wp2
  refine wp_loop_rounds 5 ?_
  rw [rounds_succ]
  go_wp2
  rw [rounds_succ]
  go_wp2
  rw [rounds_succ]
  go_wp2
  rw [rounds_succ]
  go_wp2
  go_ret2
  exact ⟨rfl, rfl⟩

theorem next_4ok (s : ByteArray) (n b0 b1 b2 b3 : Nat) (w : World) (hB : Begins s n b0 b1 b2 b3) (h0 : 240 ≤ b0 ∧ b0 ≤ 244) (hn : 4 ≤ n) (h1 : 128 ≤ b1 ∧ b1 ≤ 191) (h2 : 128 ≤ b2 ∧ b2 ≤ 191) (h3 : 128 ≤ b3 ∧ b3 ≤ 191) (r1 : Int) (e1 : r1 = (b0 : Int) % 8 * 64 + (b1 : Int) % 64) (r2 : Int) (e2 : r2 = r1 * 64 + (b2 : Int) % 64) (r3 : Int) (e3 : r3 = r2 * 64 + (b3 : Int) % 64) (g1 : 65536 ≤ r3) (g2 : r3 ≤ 1114111) :
    Calls Tryz.prog 89 #[.string s] w fun e w' => e = .returned (.tuple #[.int .i64 r3, .int .i64 4]) ∧ w' = w := by
  obtain ⟨hsz, hpos, htop, l0, c0, c1, c2, c3⟩ := hB
  have HS := hid (fun w => size_any (b0 : Int) w (by omega) (by omega))
  rw [show sizeZ (b0 : Int) = 4 by unfold sizeZ; omega] at HS
  have a0 := and_7 (b0 : Int) (by omega) (by omega)
  have a1 := and_63 (b1 : Int) (by omega) (by omega)
  have o1 := or_64 ((b0 : Int) % 8) ((b1 : Int) % 64) (by omega) (by omega) (by omega) (by omega)
  rw [← e1] at o1
  have a2 := and_63 (b2 : Int) (by omega) (by omega)
  have o2 := or_64 r1 ((b2 : Int) % 64) (by omega) (by omega) (by omega) (by omega)
  rw [← e2] at o2
  have a3 := and_63 (b3 : Int) (by omega) (by omega)
  have o3 := or_64 r2 ((b3 : Int) % 64) (by omega) (by omega) (by omega) (by omega)
  rw [← e3] at o3
  have q1 : 0 ≤ r1 ∧ r1 < 512 := by omega
  have q2 : 0 ≤ r2 ∧ r2 < 32768 := by omega
  have q3 : 0 ≤ r3 ∧ r3 < 2097152 := by omega
  clear e1 e2 e3
  go_enter Tryz.func89, Tryz.ntmps89
  go_wp2_with fail
  refine (HS.out _).mono ?_
  rintro e w1 ⟨rfl, rfl⟩
  go_wp2
  refine wp_loop_rounds 5 ?_
  rw [rounds_succ]
  go_wp2
  rw [rounds_succ]
  go_wp2
  rw [rounds_succ]
  go_wp2
  rw [rounds_succ]
  go_wp2
  go_ret2
  exact ⟨rfl, rfl⟩

end Go.Proofs.YtohgaknojkdohaaGreatDoor.Fo

/- The model's own decoder, way by way: what it answers of bytes that begin so. -/
namespace Go.Proofs.YtohgaknojkdohaaGreatDoor.Fo
open Go.Lib

theorem dec_1 (n b0 b1 b2 b3 : Nat) (h0 : b0 < 128) : decodeN n b0 b1 b2 b3 = (b0, 1) := by unfold decodeN; rw [if_pos h0]
theorem dec_0 (n b0 b1 b2 b3 : Nat) (h : b0 < 256) (h0 : (128 ≤ b0 ∧ b0 < 194) ∨ 244 < b0) : decodeN n b0 b1 b2 b3 = (65533, 1) := by
  unfold decodeN
  repeat' split
  all_goals first | rfl | (exfalso; omega)
theorem dec_short (n b0 b1 b2 b3 : Nat) (h0 : (194 ≤ b0 ∧ b0 ≤ 223 ∧ n < 2) ∨ (224 ≤ b0 ∧ b0 ≤ 239 ∧ n < 3) ∨ (240 ≤ b0 ∧ b0 ≤ 244 ∧ n < 4)) : decodeN n b0 b1 b2 b3 = (65533, 1) := by
  unfold decodeN
  repeat' split
  all_goals first | rfl | (exfalso; omega)
theorem dec_bad (n b0 b1 b2 b3 : Nat) (l1 : b1 < 256) (l2 : b2 < 256) (l3 : b3 < 256) (h0 : (194 ≤ b0 ∧ b0 ≤ 223 ∧ ¬ (128 ≤ b1 ∧ b1 ≤ 191)) ∨ (224 ≤ b0 ∧ b0 ≤ 239 ∧ ¬ (128 ≤ b1 ∧ b1 ≤ 191 ∧ 128 ≤ b2 ∧ b2 ≤ 191)) ∨ (240 ≤ b0 ∧ b0 ≤ 244 ∧ ¬ (128 ≤ b1 ∧ b1 ≤ 191 ∧ 128 ≤ b2 ∧ b2 ≤ 191 ∧ 128 ≤ b3 ∧ b3 ≤ 191))) : decodeN n b0 b1 b2 b3 = (65533, 1) := by
  unfold decodeN
  repeat' split
  all_goals first | rfl | (exfalso; omega)
theorem dec_2 (n b0 b1 b2 b3 : Nat) (h0 : 194 ≤ b0 ∧ b0 ≤ 223) (hn : 2 ≤ n) (h1 : 128 ≤ b1 ∧ b1 ≤ 191) : decodeN n b0 b1 b2 b3 = (b0 % 32 * 64 + b1 % 64, 2) := by
  unfold decodeN
  rw [if_neg (by omega), if_pos (by omega), if_pos (by omega)]
theorem dec_3bad (n b0 b1 b2 b3 : Nat) (h0 : 224 ≤ b0 ∧ b0 ≤ 239) (hn : 3 ≤ n) (h1 : 128 ≤ b1 ∧ b1 ≤ 191) (h2 : 128 ≤ b2 ∧ b2 ≤ 191) (g : (b0 % 16 * 64 + b1 % 64) * 64 + b2 % 64 < 2048 ∨ (55296 ≤ (b0 % 16 * 64 + b1 % 64) * 64 + b2 % 64 ∧ (b0 % 16 * 64 + b1 % 64) * 64 + b2 % 64 ≤ 57343)) : decodeN n b0 b1 b2 b3 = (65533, 1) := by
  unfold decodeN
  rw [if_neg (by omega), if_neg (by omega), if_pos (by omega), if_neg (by omega)]
theorem dec_3 (n b0 b1 b2 b3 : Nat) (h0 : 224 ≤ b0 ∧ b0 ≤ 239) (hn : 3 ≤ n) (h1 : 128 ≤ b1 ∧ b1 ≤ 191) (h2 : 128 ≤ b2 ∧ b2 ≤ 191) (g1 : 2048 ≤ (b0 % 16 * 64 + b1 % 64) * 64 + b2 % 64) (g2 : ¬ (55296 ≤ (b0 % 16 * 64 + b1 % 64) * 64 + b2 % 64 ∧ (b0 % 16 * 64 + b1 % 64) * 64 + b2 % 64 ≤ 57343)) : decodeN n b0 b1 b2 b3 = ((b0 % 16 * 64 + b1 % 64) * 64 + b2 % 64, 3) := by
  unfold decodeN
  rw [if_neg (by omega), if_neg (by omega), if_pos (by omega), if_pos (by omega)]
  simp only [Prod.mk.injEq, and_true]
  omega
theorem dec_4bad (n b0 b1 b2 b3 : Nat) (h0 : 240 ≤ b0 ∧ b0 ≤ 244) (hn : 4 ≤ n) (h1 : 128 ≤ b1 ∧ b1 ≤ 191) (h2 : 128 ≤ b2 ∧ b2 ≤ 191) (h3 : 128 ≤ b3 ∧ b3 ≤ 191) (g : ((b0 % 8 * 64 + b1 % 64) * 64 + b2 % 64) * 64 + b3 % 64 < 65536 ∨ 1114111 < ((b0 % 8 * 64 + b1 % 64) * 64 + b2 % 64) * 64 + b3 % 64) : decodeN n b0 b1 b2 b3 = (65533, 1) := by
  unfold decodeN
  rw [if_neg (by omega), if_neg (by omega), if_neg (by omega), if_pos (by omega), if_neg (by omega)]
theorem dec_4 (n b0 b1 b2 b3 : Nat) (h0 : 240 ≤ b0 ∧ b0 ≤ 244) (hn : 4 ≤ n) (h1 : 128 ≤ b1 ∧ b1 ≤ 191) (h2 : 128 ≤ b2 ∧ b2 ≤ 191) (h3 : 128 ≤ b3 ∧ b3 ≤ 191) (g1 : 65536 ≤ ((b0 % 8 * 64 + b1 % 64) * 64 + b2 % 64) * 64 + b3 % 64) (g2 : ((b0 % 8 * 64 + b1 % 64) * 64 + b2 % 64) * 64 + b3 % 64 ≤ 1114111) : decodeN n b0 b1 b2 b3 = (((b0 % 8 * 64 + b1 % 64) * 64 + b2 % 64) * 64 + b3 % 64, 4) := by
  unfold decodeN
  rw [if_neg (by omega), if_neg (by omega), if_neg (by omega), if_pos (by omega), if_pos (by omega)]
  simp only [Prod.mk.injEq, and_true]
  omega

end Go.Proofs.YtohgaknojkdohaaGreatDoor.Fo

/- The reference's next answers, of every string that is not empty, the sign that it begins with and its width, as the model's own decoder tells them. -/
namespace Go.Proofs.YtohgaknojkdohaaGreatDoor.Fo
open Go.RowKit

theorem begins (s : ByteArray) (h0 : 0 < s.size) (h1 : s.size ≤ 1000000) : Begins s s.size (s.get! 0).toNat (s.get! 1).toNat (s.get! 2).toNat (s.get! 3).toNat := by
  have key : ∀ (i : Nat) (h : i < s.size), (s[i]'h).toNat = (s.get! i).toNat := by
    intro i h
    cases s with
    | mk d =>
      have : d[i]! = d[i]'h := getElem!_pos d i h
      show (d[i]'h).toNat = (d[i]!).toNat
      rw [this]
  exact ⟨rfl, h0, h1, ⟨UInt8.toNat_lt _, UInt8.toNat_lt _, UInt8.toNat_lt _, UInt8.toNat_lt _⟩, key 0, key 1, key 2, key 3⟩

theorem next_any (s : ByteArray) (w : World) (h0 : 0 < s.size) (h1 : s.size ≤ 1000000) :
    Calls Tryz.prog 89 #[.string s] w fun e w' => e = .returned (.tuple #[.int .i64 ((Utf8.decode s 0).1 : Int), .int .i64 ((Utf8.decode s 0).2 : Int)]) ∧ w' = w := by
  have hB := begins s h0 h1
  rw [Lib.decode_at, Nat.sub_zero, Nat.zero_add, Nat.zero_add, Nat.zero_add]
  obtain ⟨l0, l1, l2, l3⟩ := hB.bytes
  generalize (s.get! 0).toNat = b0 at *
  generalize (s.get! 1).toNat = b1 at *
  generalize (s.get! 2).toNat = b2 at *
  generalize (s.get! 3).toNat = b3 at *
  generalize hn : s.size = n at *
  have cast2 : ((b0 % 32 * 64 + b1 % 64 : Nat) : Int) = (b0 : Int) % 32 * 64 + (b1 : Int) % 64 := by omega
  have cast3 : (((b0 % 16 * 64 + b1 % 64) * 64 + b2 % 64 : Nat) : Int) = ((b0 : Int) % 16 * 64 + (b1 : Int) % 64) * 64 + (b2 : Int) % 64 := by omega
  have cast4 : ((((b0 % 8 * 64 + b1 % 64) * 64 + b2 % 64) * 64 + b3 % 64 : Nat) : Int) = (((b0 : Int) % 8 * 64 + (b1 : Int) % 64) * 64 + (b2 : Int) % 64) * 64 + (b3 : Int) % 64 := by omega
  by_cases k1 : b0 < 128
  · rw [dec_1 n b0 b1 b2 b3 k1]; exact next_1 s n b0 b1 b2 b3 w hB k1
  by_cases k0 : (128 ≤ b0 ∧ b0 < 194) ∨ 244 < b0
  · rw [dec_0 n b0 b1 b2 b3 l0 k0]; exact next_0 s n b0 b1 b2 b3 w hB k0
  by_cases k2 : b0 ≤ 223
  · by_cases hs : n < 2
    · rw [dec_short n b0 b1 b2 b3 (by omega)]; exact next_short2 s n b0 b1 b2 b3 w hB (by omega) hs
    by_cases c1 : b1 < 128
    · rw [dec_bad n b0 b1 b2 b3 l1 l2 l3 (by omega)]; exact next_2bad1lo s n b0 b1 b2 b3 w hB (by omega) (by omega) c1
    by_cases d1 : 191 < b1
    · rw [dec_bad n b0 b1 b2 b3 l1 l2 l3 (by omega)]; exact next_2bad1hi s n b0 b1 b2 b3 w hB (by omega) (by omega) d1
    rw [dec_2 n b0 b1 b2 b3 (by omega) (by omega) (by omega)]
    simp only
    rw [cast2]
    exact next_2ok s n b0 b1 b2 b3 w hB (by omega) (by omega) (by omega) _ rfl
  by_cases k3 : b0 ≤ 239
  · by_cases hs : n < 3
    · rw [dec_short n b0 b1 b2 b3 (by omega)]; exact next_short3 s n b0 b1 b2 b3 w hB (by omega) hs
    by_cases c1 : b1 < 128
    · rw [dec_bad n b0 b1 b2 b3 l1 l2 l3 (by omega)]; exact next_3bad1lo s n b0 b1 b2 b3 w hB (by omega) (by omega) c1
    by_cases d1 : 191 < b1
    · rw [dec_bad n b0 b1 b2 b3 l1 l2 l3 (by omega)]; exact next_3bad1hi s n b0 b1 b2 b3 w hB (by omega) (by omega) d1
    by_cases c2 : b2 < 128
    · rw [dec_bad n b0 b1 b2 b3 l1 l2 l3 (by omega)]; exact next_3bad2lo s n b0 b1 b2 b3 w hB (by omega) (by omega) (by omega) c2 _ rfl
    by_cases d2 : 191 < b2
    · rw [dec_bad n b0 b1 b2 b3 l1 l2 l3 (by omega)]; exact next_3bad2hi s n b0 b1 b2 b3 w hB (by omega) (by omega) (by omega) d2 _ rfl
    by_cases g1 : (b0 % 16 * 64 + b1 % 64) * 64 + b2 % 64 < 2048
    · rw [dec_3bad n b0 b1 b2 b3 (by omega) (by omega) (by omega) (by omega) (Or.inl g1)]; exact next_3low s n b0 b1 b2 b3 w hB (by omega) (by omega) (by omega) (by omega) _ rfl _ rfl (by omega)
    by_cases g2 : 55296 ≤ (b0 % 16 * 64 + b1 % 64) * 64 + b2 % 64 ∧ (b0 % 16 * 64 + b1 % 64) * 64 + b2 % 64 ≤ 57343
    · rw [dec_3bad n b0 b1 b2 b3 (by omega) (by omega) (by omega) (by omega) (Or.inr g2)]; exact next_3sur s n b0 b1 b2 b3 w hB (by omega) (by omega) (by omega) (by omega) _ rfl _ rfl (by omega)
    rw [dec_3 n b0 b1 b2 b3 (by omega) (by omega) (by omega) (by omega) (by omega) g2]
    simp only
    rw [cast3]
    exact next_3ok s n b0 b1 b2 b3 w hB (by omega) (by omega) (by omega) (by omega) _ rfl _ rfl (by omega) (by omega)
  · by_cases hs : n < 4
    · rw [dec_short n b0 b1 b2 b3 (by omega)]; exact next_short4 s n b0 b1 b2 b3 w hB (by omega) hs
    by_cases c1 : b1 < 128
    · rw [dec_bad n b0 b1 b2 b3 l1 l2 l3 (by omega)]; exact next_4bad1lo s n b0 b1 b2 b3 w hB (by omega) (by omega) c1
    by_cases d1 : 191 < b1
    · rw [dec_bad n b0 b1 b2 b3 l1 l2 l3 (by omega)]; exact next_4bad1hi s n b0 b1 b2 b3 w hB (by omega) (by omega) d1
    by_cases c2 : b2 < 128
    · rw [dec_bad n b0 b1 b2 b3 l1 l2 l3 (by omega)]; exact next_4bad2lo s n b0 b1 b2 b3 w hB (by omega) (by omega) (by omega) c2 _ rfl
    by_cases d2 : 191 < b2
    · rw [dec_bad n b0 b1 b2 b3 l1 l2 l3 (by omega)]; exact next_4bad2hi s n b0 b1 b2 b3 w hB (by omega) (by omega) (by omega) d2 _ rfl
    by_cases c3 : b3 < 128
    · rw [dec_bad n b0 b1 b2 b3 l1 l2 l3 (by omega)]; exact next_4bad3lo s n b0 b1 b2 b3 w hB (by omega) (by omega) (by omega) (by omega) c3 _ rfl _ rfl
    by_cases d3 : 191 < b3
    · rw [dec_bad n b0 b1 b2 b3 l1 l2 l3 (by omega)]; exact next_4bad3hi s n b0 b1 b2 b3 w hB (by omega) (by omega) (by omega) (by omega) d3 _ rfl _ rfl
    by_cases g1 : ((b0 % 8 * 64 + b1 % 64) * 64 + b2 % 64) * 64 + b3 % 64 < 65536
    · rw [dec_4bad n b0 b1 b2 b3 (by omega) (by omega) (by omega) (by omega) (by omega) (Or.inl g1)]; exact next_4low s n b0 b1 b2 b3 w hB (by omega) (by omega) (by omega) (by omega) (by omega) _ rfl _ rfl _ rfl (by omega)
    by_cases g2 : 1114111 < ((b0 % 8 * 64 + b1 % 64) * 64 + b2 % 64) * 64 + b3 % 64
    · rw [dec_4bad n b0 b1 b2 b3 (by omega) (by omega) (by omega) (by omega) (by omega) (Or.inr g2)]; exact next_4high s n b0 b1 b2 b3 w hB (by omega) (by omega) (by omega) (by omega) (by omega) _ rfl _ rfl _ rfl (by omega)
    rw [dec_4 n b0 b1 b2 b3 (by omega) (by omega) (by omega) (by omega) (by omega) (by omega) (by omega)]
    simp only
    rw [cast4]
    exact next_4ok s n b0 b1 b2 b3 w hB (by omega) (by omega) (by omega) (by omega) (by omega) _ rfl _ rfl _ rfl (by omega) (by omega)

end Go.Proofs.YtohgaknojkdohaaGreatDoor.Fo

/- The reference's Ints answers true of two rows of the same numbers. -/
namespace Go.Proofs.YtohgaknojkdohaaGreatDoor.Fo
open Go.RowKit

/-- A slice's value, and the numbers that it holds. -/
def RowAt (w : World) (v : Value) (xs : List Int) : Prop := (v = .slice none 0 0 ∧ xs = []) ∨ ∃ g o c, v = .slice (some ⟨g, o, none⟩) xs.length c ∧ Holds w g o xs

theorem RowAt.on {w w' : World} {v : Value} {xs : List Int} (h : RowAt w v xs) (hb : Below w.heap.size w w') : RowAt w' v xs := by
  rcases h with h | ⟨g, o, c, h1, h2⟩
  · exact .inl h
  · exact .inr ⟨g, o, c, h1, h2.on hb⟩

end Go.Proofs.YtohgaknojkdohaaGreatDoor.Fo

/- What the reference's Fold answers for every string of at most a million bytes: the same two rows. -/
namespace Go.Proofs.YtohgaknojkdohaaGreatDoor.Fo
open Go.RowKit

theorem tail_data (s : ByteArray) (n : Nat) : (s.extract n s.size).data.toList = s.data.toList.drop n := by
  rw [Lib.extract_data]
  apply List.take_of_length_le
  rw [List.length_drop, ← Lib.size_eq]
  exact Nat.le_refl _
theorem tail_dec (s : ByteArray) (n : Nat) : Utf8.decode (s.extract n s.size) 0 = Utf8.decode s n := by
  rw [decL_drop, decL_drop, tail_data, List.drop_zero]
theorem tail_sz (s : ByteArray) (n : Nat) : (s.extract n s.size).size = s.size - n := by
  rw [Lib.size_eq, tail_data, List.length_drop, ← Lib.size_eq]

def Ap (v u : Value) : Prop := ∀ k, v.ownBlock = some k → u.ownBlock ≠ some k

theorem append_keep {w W W' : World} {B g cap n m : Nat} {v u : Value} {ys : List Value} {o : Obj} (gr : (W.alloc o).grownBy W' v.ownBlock) (hat : v.ownBlock = some g ∨ g = (W.alloc o).heap.size)
    (hu : W.ownsRow B 3 1 u n ys) (hap : Ap v u) (hL : Below B w W) (hv : ∀ k, v.ownBlock = some k → B ≤ k) (hB : B ≤ W.heap.size) :
    W'.ownsRow B 3 1 u n ys ∧ Ap (.slice (some ⟨g, 0, none⟩) m cap) u ∧ Below B w W' ∧ B ≤ W'.heap.size := by
  have hs : (W.alloc o).heap.size = W.heap.size + 1 := by simp
  refine ⟨(hu.alloc o).kept gr ?_, ?_, (hL.alloc hB o).grown gr (by omega) hv, by have := gr.size; omega⟩
  · cases hb : u.ownBlock with
    | none => exact .inl rfl
    | some k => exact .inr (fun h => hap k h.symm hb)
  · intro k hk hk2
    have hkg : g = k := by simpa [Value.ownBlock] using hk
    rcases hat with h | h
    · exact hap k (by rw [h, hkg]) hk2
    · have := (hu.lt k hk2).2
      omega
theorem Ap.symm {v u : Value} (h : Ap v u) : Ap u v := fun k h1 h2 => h k h2 h1
theorem owns_base {W : World} {B n : Nat} {v : Value} {xs : List Value} (h : W.ownsRow B 3 1 v n xs) : ∀ k, v.ownBlock = some k → B ≤ k := fun k hk => (h.lt k hk).1

theorem row_owns {W : World} {B n : Nat} {v : Value} {xs : List Int} (h : W.ownsRow B 3 1 v n (xs.map (Value.int .i64))) : RowAt W v xs := by
  have hl : xs.length = n := by have := h.1; simpa using this
  rcases h.2 with ⟨rfl, h0⟩ | ⟨g, cap, cur, rfl, _⟩
  · exact .inl ⟨rfl, List.eq_nil_of_length_eq_zero (by omega)⟩
  · refine .inr ⟨g, 0, cap, by rw [hl], holds_owns h⟩

theorem rfold_walk (s : ByteArray) (w : World) (hs : s.size ≤ 1000000) :
    Calls Tryz.prog 49 #[.string s] w fun e w' => ∃ v4 v5, e = .returned (.tuple #[v4, v5]) ∧ RowAt w' v4 (runesOf s.data.toList) ∧ RowAt w' v5 (placesOf s.data.toList) ∧ Below w.heap.size w w' := by
  obtain ⟨i0, hi, hz0, hz1, hz2⟩ := info_parts Tryz.info3
  go_enter Tryz.func49, Tryz.ntmps49
  go_wp2
  go_loopw [4, 5, 6] (fun v4 v5 v6 wr => ∃ (pos fuel : Nat) (rs ps : List Int), v6 = .int .i64 pos ∧ wr.ownsRow w.heap.size 3 1 v4 rs.length (rs.map (Value.int .i64)) ∧ wr.ownsRow w.heap.size 3 1 v5 rs.length (ps.map (Value.int .i64)) ∧ Ap v4 v5 ∧ Below w.heap.size w wr ∧ w.heap.size ≤ wr.heap.size ∧ pos ≤ s.size ∧ rs.length ≤ pos ∧ rs ++ ((signs fuel (s.data.toList.drop pos)).map fun x => runeZ (x.1 : Int)) = runesOf s.data.toList ∧ ps ++ places pos (signs fuel (s.data.toList.drop pos)) = places 0 (signsOf s.data.toList) ∧ s.size ≤ pos + fuel) (fun _ _ v6 _ => s.size - (intOf v6).toNat)
  case atStart =>
    refine ⟨0, s.size, [], [], rfl, World.ownsRow_nil _ _ _ _, World.ownsRow_nil _ _ _ _, ?_, Below.refl _ _, Nat.le_refl _, by omega, by simp, ?_, ?_, by omega⟩
    · intro k hk; simp [Value.ownBlock] at hk
    · simp only [runesOf, signsOf, ← Lib.size_eq, List.drop_zero, List.nil_append]
    · simp only [signsOf, ← Lib.size_eq, List.drop_zero, List.nil_append]
  case round =>
    obtain ⟨pos, fuel, rs, ps, rfl, h1, h2, hap, hbw, hsz, hpos, hrl, hrs, hps, hfu⟩ := hrel
    by_cases hp : pos < s.size
    · have hd := decode_facts s pos hp
      obtain ⟨f, rfl⟩ : ∃ f, fuel = f + 1 := ⟨fuel - 1, by omega⟩
      rw [signs_at s f pos hp] at hrs hps
      have HN := hid (next_any (s.extract pos s.size) wr (by rw [tail_sz]; omega) (by rw [tail_sz]; omega))
      rw [tail_dec] at HN
      have b1 : (0 : Int) ≤ (Utf8.decode s pos).1 ∧ ((Utf8.decode s pos).1 : Int) ≤ 1114111 := by have := hd.2.2.2; unfold okRune at this; omega
      have HR := hid (rrune_any ((Utf8.decode s pos).1 : Int) (by omega) (by omega) wr)
      have HA := hid h1
      have HB := hid h2
      have HP := hid hap
      have HL := hid hbw
      have HE := hid hrs
      have HQ := hid hps
      have hpi : (pos : Int) < s.size := by omega
      clear h1 h2 hap hbw hrs hps
      go_wp2_with fail
      refine HN.out.mono ?_
      rintro e w1 ⟨rfl, rfl⟩
      go_wp2_with fail
      refine HR.out.mono ?_
      rintro e w1 ⟨rfl, rfl⟩
      go_wp2_with (first | (at_builtin; refine wpList_append_lies _ rfl (.tmp 20) (.tmp 23) 35 rfl w.heap.size 3 i0 (.int .i64 0) 1 8 Tryz.underlying35 hi hz0 hz1 hz2 rfl (by decide) _ rs.length _ rfl (HA.out.alloc _) ⟨w1.heap.size, 0, none⟩ 1 1 [.int .i64 (runeZ (Utf8.decode s pos).1)] rfl rfl (one_cell _ _ _) (one_oneCell _) (by decide) (by unfold maxLen; omega) (by omega) (by simp; omega) _ rfl ?_; intro ga ca W2 ho gr hat hlt; have HF := hid (append_keep (m := rs.length + 1) (cap := ca) gr hat HB.out HP.out HL.out (owns_base HA.out) hsz); have HA4 := hid ho; clear ho gr hat hlt) | (at_builtin; refine wpList_append_lies _ rfl (.tmp 25) (.tmp 27) 35 rfl w.heap.size 3 i0 (.int .i64 0) 1 8 Tryz.underlying35 hi hz0 hz1 hz2 rfl (by decide) _ rs.length _ rfl (HF.out.1.alloc _) ⟨W2.heap.size, 0, none⟩ 1 1 [.int .i64 (pos : Int)] rfl rfl (one_cell _ _ _) (one_oneCell _) (by decide) (by unfold maxLen; omega) (by omega) (by simp; have := HF.out.2.2.2; omega) _ rfl ?_; intro gb cb W3 ho gr hat hlt; have HG := hid (append_keep (m := rs.length + 1) (cap := cb) gr hat HA4.out HF.out.2.1.symm HF.out.2.2.1 (owns_base HF.out.1) HF.out.2.2.2); have HB4 := hid ho; clear ho gr hat hlt))
      go_roundw
      case rel =>
        refine ⟨pos + (Utf8.decode s pos).2, f, rs ++ [runeZ (Utf8.decode s pos).1], ps ++ [(pos : Int)], by simp, by simpa using HG.out.1, by simpa using HB4.out, HG.out.2.1.symm, HG.out.2.2.1, HG.out.2.2.2, hd.2.1, by simp; omega, ?_, ?_, by omega⟩
        · rw [← HE.out]; simp
        · rw [← HQ.out]; simp [places]
      case measure =>
        simp [intOf]
        omega
    · obtain rfl : pos = s.size := by omega
      rw [signs_end s fuel _ hp] at hrs hps
      rw [List.map_nil, List.append_nil] at hrs
      rw [show places s.size [] = [] from rfl, List.append_nil] at hps
      have HA := hid h1
      have HB := hid h2
      have HP := hid hap
      have HL := hid hbw
      have HE := hid hrs
      have HQ := hid hps
      clear h1 h2 hap hbw hrs hps
      go_wp2_with (at_builtin; refine wpList_append_lies _ rfl (.tmp 33) (.tmp 36) 35 rfl w.heap.size 3 i0 (.int .i64 0) 1 8 Tryz.underlying35 hi hz0 hz1 hz2 rfl (by decide) _ rs.length _ rfl (HB.out.alloc _) ⟨wr.heap.size, 0, none⟩ 1 1 [.int .i64 (s.size : Int)] rfl rfl (one_cell _ _ _) (one_oneCell _) (by decide) (by unfold maxLen; omega) (by omega) (by simp; omega) _ rfl ?_; intro gb cb W3 ho gr hat hlt; have HG := hid (append_keep (m := rs.length + 1) (cap := cb) gr hat HA.out HP.out.symm HL.out (owns_base HB.out) hsz); have HB4 := hid ho; clear ho gr hat hlt)
      go_ret2
      refine ⟨_, _, rfl, ?_, ?_, HG.out.2.2.1⟩
      · rw [← HE.out]; exact row_owns HG.out.1
      · have e2 : ps ++ [(s.size : Int)] = placesOf s.data.toList := by rw [HQ.out, Lib.size_eq]; rfl
        rw [← e2]
        have h5 := HB4.out
        rw [show [Value.int .i64 (s.size : Int)] = [(s.size : Int)].map (Value.int .i64) from rfl, ← List.map_append] at h5
        exact row_owns h5

end Go.Proofs.YtohgaknojkdohaaGreatDoor.Fo

/- What the reference's Text answers for every string of at most ten thousand bytes: the same bytes. -/
namespace Go.Proofs.YtohgaknojkdohaaGreatDoor.Fo
open Go.RowKit

theorem mk_app (a b : List UInt8) : (⟨a.toArray⟩ : ByteArray) ++ ⟨b.toArray⟩ = ⟨(a ++ b).toArray⟩ := by
  rw [ByteArray.mk_append_mk]


theorem rtext_walk (s : ByteArray) (w : World) (hs : s.size ≤ 10000) :
    Calls Tryz.prog 29 #[.string s] w fun e w' => e = .returned (.string ⟨(textOf s.data.toList).toArray⟩) ∧ Below w.heap.size w w' := by
  have HF := hid (rfold_walk s w (by omega))
  have hl := runesOf_length s.data.toList
  have hok := runesOf_ok s.data.toList
  rw [← Lib.size_eq] at hl
  have HT : Hid (textOf s.data.toList = (runesOf s.data.toList).flatMap Lib.encodeRune) := hid rfl
  generalize textOf s.data.toList = T at *
  generalize runesOf s.data.toList = rs at *
  generalize placesOf s.data.toList = ps at *
  have HO := hid hok
  clear hok
  go_enter Tryz.func29, Tryz.ntmps29
  go_wp2_with fail
  refine HF.out.mono ?_
  rintro e w1 ⟨v4, v5, rfl, R4, _, bel⟩
  have HL := hid bel
  clear bel
  rcases R4 with ⟨rfl, rfl⟩ | ⟨g, o, c, rfl, hH⟩
  · go_wp2
    refine wp_loop_rounds 1 ?_
    rw [rounds_succ]
    go_wp2
    go_ret
    have h := HT.out
    rw [List.flatMap_nil] at h
    subst h
    exact ⟨rfl, HL.out⟩
  · have HH := hid hH
    clear hH
    obtain ⟨n, hn⟩ : ∃ n, n = rs.length := ⟨_, rfl⟩
    rw [← hn] at hl ⊢
    have HN := hid hn
    clear hn
    go_wp2
    go_loopw [5, 6] (fun v5 v6 wr => ∃ (j : Nat) (acc : List UInt8), j ≤ n ∧ v6 = .int .i64 j ∧ v5 = .string ⟨acc.toArray⟩ ∧ acc.length ≤ 4 * j ∧ Hid (acc = (rs.take j).flatMap Lib.encodeRune) ∧ Below w1.heap.size w1 wr) (fun _ v6 _ => n - (intOf v6).toNat)
    case atStart => exact ⟨0, [], by omega, rfl, rfl, by simp, hid (by simp), Below.refl _ _⟩
    case round =>
      obtain ⟨j, acc, hj, rfl, rfl, hal, hacc, hb⟩ := hrel
      by_cases hlt : j < n
      · have hjl : j < rs.length := by have := HN.out; omega
        have cx := (HH.out.on hb) j hjl
        have hm : rs.getD j 0 ∈ rs := by simp [List.getD, hjl]
        have hok := HO.out _ hm
        have HX : Hid ((rs.take (j + 1)).flatMap Lib.encodeRune = (rs.take j).flatMap Lib.encodeRune ++ Lib.encodeRune (rs.getD j 0)) := hid (by
          rw [List.take_add_one, List.flatMap_append]
          simp [List.getD, hjl])
        generalize rs.getD j 0 = x at *
        have xb : 0 ≤ x ∧ x ≤ 1114111 := by unfold okRune at hok; omega
        have HE := hid (fun w => one_any x w xb.1 xb.2 hok)
        have hel := encodeRune_length x
        have hsz : (⟨acc.toArray⟩ : ByteArray).size ≤ 40000 := by simp [ByteArray.size]; omega
        have hsz2 : (⟨(Lib.encodeRune x).toArray⟩ : ByteArray).size ≤ 4 := by simp [ByteArray.size]; omega
        have hap := mk_app acc (Lib.encodeRune x)
        have HB := hid hb
        clear hb hm hok hjl
        generalize Lib.encodeRune x = E at *
        go_wp2_with fail
        refine (HE.out _).mono ?_
        rintro e u1 ⟨rfl, d1⟩
        have HB2 := hid (up_trans HB.out d1)
        clear d1
        go_wp2
        go_roundw
        case rel => exact ⟨j + 1, acc ++ E, by omega, by simp, rfl, by simp; omega, hid (by rw [HX.out, hacc.out]), HB2.out⟩
        case measure => simp [intOf]; omega
      · obtain rfl : j = n := by omega
        have HB := hid hb
        clear hb
        go_wp2
        go_ret
        have h1 := hacc.out
        rw [List.take_of_length_le (by have := HN.out; omega), ← HT.out] at h1
        subst h1
        exact ⟨rfl, up_trans HL.out HB.out⟩

end Go.Proofs.YtohgaknojkdohaaGreatDoor.Fo

/- Slices that come in, read as numbers. -/
namespace Go.Proofs.YtohgaknojkdohaaGreatDoor.Fo
open Go.RowKit Go.ChangeShapes Go.WideShapes

/-- A slice of numbers that came in. -/
def Arg (W : World) (k : IntKind) (v : Value) (xs : List Int) : Prop :=
  ∃ (ad : Option Addr) (cap : Nat), v = .slice ad xs.length cap ∧ xs.length ≤ cap ∧ cap ≤ maxLen ∧ (ad = none → xs = [] ∧ cap = 0) ∧ (∀ a, ad = some a → ∀ j, j < xs.length → W.cell? (a.add j) = some (.int k (xs.getD j 0))) ∧ ∀ x ∈ xs, (Lit.int k x).wf = true

theorem arg_of {H : Type} {enc : TypeId × Value → H} {W : World} {P : Program} {base : Nat} {t e : TypeId} {k : IntKind} {v : Value} {d : DataW H} {ps : List MemPlace} (ht : P.underlying t = some (.slice e)) (he : P.underlying e = some (.int k)) (hc : P.cellsOf e = 1)
    (hval : Value.okWide P W .any base t v) (h : DataW.Trod enc P W 0 (fun _ => true) true t v d ps) : ∃ xs, Arg W k v xs := by
  obtain ⟨a0, len, cap, rfl⟩ := okWide_slice ht hval
  obtain ⟨fuel, hf⟩ := h
  rcases open_ints ht he hc hf with ⟨hcs, hx⟩ | ⟨a, len', cap', zs, hcs, _, hl, hm, hz, hx, hcell, hwz⟩
  · simp [Value.cells] at hcs
    obtain ⟨rfl, rfl, rfl⟩ := hcs
    exact ⟨[], none, 0, rfl, Nat.le_refl _, by simp [maxLen], fun _ => ⟨rfl, rfl⟩, (fun ad h => by cases h), (fun n hn => by cases hn)⟩
  · simp [Value.cells] at hcs
    obtain ⟨rfl, rfl, rfl⟩ := hcs
    simp only [if_true] at hz
    have hlen : (zs.take len).length = len := by simp; omega
    refine ⟨zs.take len, some a, cap, by rw [hlen], by omega, hm, (fun h => by cases h), fun ad h j hj => ?_, fun n hn => hwz n (List.mem_of_mem_take hn)⟩
    obtain rfl := Option.some.inj h
    rw [hlen] at hj
    rw [hcell j (by omega)]
    simp [List.getD, hj]

theorem Arg.on {W W' : World} {k : IntKind} {v : Value} {xs : List Int} (h : Arg W k v xs) (hb : Below W.heap.size W W') : Arg W' k v xs := by
  obtain ⟨ad, cap, h1, h2, h3, h4, h5, h6⟩ := h
  refine ⟨ad, cap, h1, h2, h3, h4, fun a ha j hj => ?_, h6⟩
  have := h5 a ha j hj
  exact (hb.cell (lt_of_cell this)).trans this

end Go.Proofs.YtohgaknojkdohaaGreatDoor.Fo
