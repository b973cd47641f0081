/- The reference's next answers the sign that a string begins with, and its width, as the model's own decoder does. -/
import Derived.Test.YtannndpamhgknaaGreatDoorXFo0
import Derived.Test.YtannndpamhgknaaGreatDoorMFoRef
namespace Go.Proofs.YtannndpamhgknaaGreatDoor.Fo
open Go.RowKit

theorem and_31 (x : Int) (h0 : 0 ≤ x) (h1 : x < 4000000000) : bits .and .i64 x 31 = x % 32 := bits_mask .i64 62 (by decide) wraps_i64_62 5 (by decide) x h0 (by omega)
theorem and_15 (x : Int) (h0 : 0 ≤ x) (h1 : x < 4000000000) : bits .and .i64 x 15 = x % 16 := bits_mask .i64 62 (by decide) wraps_i64_62 4 (by decide) x h0 (by omega)
theorem and_7 (x : Int) (h0 : 0 ≤ x) (h1 : x < 4000000000) : bits .and .i64 x 7 = x % 8 := bits_mask .i64 62 (by decide) wraps_i64_62 3 (by decide) x h0 (by omega)
theorem or_64 (x y : Int) (hx : 0 ≤ x) (hx1 : x < 4000000000) (h0 : 0 ≤ y) (h1 : y < 64) : bits .or .i64 (x * 64) y = x * 64 + y := by
  obtain ⟨n, rfl⟩ := Int.eq_ofNat_of_zero_le hx
  have h := or_i64 6 n (by decide) y h0 h1 (by omega)
  have e : ((2 ^ 6 * n : Nat) : Int) = (n : Int) * 64 := by omega
  rw [e] at h
  exact h

def sizeZ (c : Int) : Int := if c < 128 then 1 else if 194 ≤ c ∧ c ≤ 223 then 2 else if 224 ≤ c ∧ c ≤ 239 then 3 else if 240 ≤ c ∧ c ≤ 244 then 4 else 0

theorem size_any (c : Int) (w : World) (h0 : 0 ≤ c) (h1 : c < 256) : Calls Tryz.prog 98 #[.int .u8 c] w fun e w' => e = .returned (.int .i64 (sizeZ c)) ∧ w' = w := by
  rcases (show c < 128 ∨ 128 ≤ c ∧ c < 194 ∨ 194 ≤ c ∧ c ≤ 223 ∨ 224 ≤ c ∧ c ≤ 239 ∨ 240 ≤ c ∧ c ≤ 244 ∨ 244 < c by omega) with h | h | h | h | h | h
  · rw [show sizeZ c = 1 by unfold sizeZ; omega]
    go_enter Tryz.func98, Tryz.ntmps98
    go_wp2
    go_ret
    exact ⟨rfl, rfl⟩
  · rw [show sizeZ c = 0 by unfold sizeZ; omega]
    go_enter Tryz.func98, Tryz.ntmps98
    go_wp2
    go_ret
    exact ⟨rfl, rfl⟩
  · rw [show sizeZ c = 2 by unfold sizeZ; omega]
    go_enter Tryz.func98, Tryz.ntmps98
    go_wp2
    go_ret
    exact ⟨rfl, rfl⟩
  · rw [show sizeZ c = 3 by unfold sizeZ; omega]
    go_enter Tryz.func98, Tryz.ntmps98
    go_wp2
    go_ret
    exact ⟨rfl, rfl⟩
  · rw [show sizeZ c = 4 by unfold sizeZ; omega]
    go_enter Tryz.func98, Tryz.ntmps98
    go_wp2
    go_ret
    exact ⟨rfl, rfl⟩
  · rw [show sizeZ c = 0 by unfold sizeZ; omega]
    go_enter Tryz.func98, Tryz.ntmps98
    go_wp2
    go_ret
    exact ⟨rfl, rfl⟩

/-- The bytes of a string that begins so. -/
structure Begins (s : ByteArray) (n b0 b1 b2 b3 : Nat) : Prop where
  size : s.size = n
  pos : 0 < n
  top : n ≤ 1000000
  bytes : b0 < 256 ∧ b1 < 256 ∧ b2 < 256 ∧ b3 < 256
  c0 : ∀ h, (s[0]'h).toNat = b0
  c1 : ∀ h, (s[1]'h).toNat = b1
  c2 : ∀ h, (s[2]'h).toNat = b2
  c3 : ∀ h, (s[3]'h).toNat = b3

theorem next_1 (s : ByteArray) (n b0 b1 b2 b3 : Nat) (w : World) (hB : Begins s n b0 b1 b2 b3) (h0 : b0 < 128) :
    Calls Tryz.prog 68 #[.string s] w fun e w' => e = .returned (.tuple #[.int .i64 (b0 : Int), .int .i64 1]) ∧ w' = w := by
  obtain ⟨hsz, hpos, htop, l0, c0, c1, c2, c3⟩ := hB
  have HS := hid (fun w => size_any (b0 : Int) w (by omega) (by omega))
  rw [show sizeZ (b0 : Int) = 1 by unfold sizeZ; omega] at HS
  go_enter Tryz.func68, Tryz.ntmps68
  go_wp2_with fail
  refine (HS.out _).mono ?_
  rintro e w1 ⟨rfl, rfl⟩
  go_wp2
  go_ret2
  exact ⟨rfl, rfl⟩

theorem next_0 (s : ByteArray) (n b0 b1 b2 b3 : Nat) (w : World) (hB : Begins s n b0 b1 b2 b3) (h0 : (128 ≤ b0 ∧ b0 < 194) ∨ 244 < b0) :
    Calls Tryz.prog 68 #[.string s] w fun e w' => e = .returned (.tuple #[.int .i64 65533, .int .i64 1]) ∧ w' = w := by
  obtain ⟨hsz, hpos, htop, l0, c0, c1, c2, c3⟩ := hB
  have HS := hid (fun w => size_any (b0 : Int) w (by omega) (by omega))
  rw [show sizeZ (b0 : Int) = 0 by unfold sizeZ; omega] at HS
  go_enter Tryz.func68, Tryz.ntmps68
  go_wp2_with fail
  refine (HS.out _).mono ?_
  rintro e w1 ⟨rfl, rfl⟩
  go_wp2
  go_ret2
  exact ⟨rfl, rfl⟩

theorem next_short2 (s : ByteArray) (n b0 b1 b2 b3 : Nat) (w : World) (hB : Begins s n b0 b1 b2 b3) (h0 : 194 ≤ b0 ∧ b0 ≤ 223) (hn : n < 2) :
    Calls Tryz.prog 68 #[.string s] w fun e w' => e = .returned (.tuple #[.int .i64 65533, .int .i64 1]) ∧ w' = w := by
  obtain ⟨hsz, hpos, htop, l0, c0, c1, c2, c3⟩ := hB
  have HS := hid (fun w => size_any (b0 : Int) w (by omega) (by omega))
  rw [show sizeZ (b0 : Int) = 2 by unfold sizeZ; omega] at HS
  go_enter Tryz.func68, Tryz.ntmps68
  go_wp2_with fail
  refine (HS.out _).mono ?_
  rintro e w1 ⟨rfl, rfl⟩
  go_wp2
  go_ret2
  exact ⟨rfl, rfl⟩

theorem next_short3 (s : ByteArray) (n b0 b1 b2 b3 : Nat) (w : World) (hB : Begins s n b0 b1 b2 b3) (h0 : 224 ≤ b0 ∧ b0 ≤ 239) (hn : n < 3) :
    Calls Tryz.prog 68 #[.string s] w fun e w' => e = .returned (.tuple #[.int .i64 65533, .int .i64 1]) ∧ w' = w := by
  obtain ⟨hsz, hpos, htop, l0, c0, c1, c2, c3⟩ := hB
  have HS := hid (fun w => size_any (b0 : Int) w (by omega) (by omega))
  rw [show sizeZ (b0 : Int) = 3 by unfold sizeZ; omega] at HS
  go_enter Tryz.func68, Tryz.ntmps68
  go_wp2_with fail
  refine (HS.out _).mono ?_
  rintro e w1 ⟨rfl, rfl⟩
  go_wp2
  go_ret2
  exact ⟨rfl, rfl⟩

theorem next_short4 (s : ByteArray) (n b0 b1 b2 b3 : Nat) (w : World) (hB : Begins s n b0 b1 b2 b3) (h0 : 240 ≤ b0 ∧ b0 ≤ 244) (hn : n < 4) :
    Calls Tryz.prog 68 #[.string s] w fun e w' => e = .returned (.tuple #[.int .i64 65533, .int .i64 1]) ∧ w' = w := by
  obtain ⟨hsz, hpos, htop, l0, c0, c1, c2, c3⟩ := hB
  have HS := hid (fun w => size_any (b0 : Int) w (by omega) (by omega))
  rw [show sizeZ (b0 : Int) = 4 by unfold sizeZ; omega] at HS
  go_enter Tryz.func68, Tryz.ntmps68
  go_wp2_with fail
  refine (HS.out _).mono ?_
  rintro e w1 ⟨rfl, rfl⟩
  go_wp2
  go_ret2
  exact ⟨rfl, rfl⟩

theorem next_2bad1lo (s : ByteArray) (n b0 b1 b2 b3 : Nat) (w : World) (hB : Begins s n b0 b1 b2 b3) (h0 : 194 ≤ b0 ∧ b0 ≤ 223) (hn : 2 ≤ n) (h1 : b1 < 128) :
    Calls Tryz.prog 68 #[.string s] w fun e w' => e = .returned (.tuple #[.int .i64 65533, .int .i64 1]) ∧ w' = w := by
  obtain ⟨hsz, hpos, htop, l0, c0, c1, c2, c3⟩ := hB
  have HS := hid (fun w => size_any (b0 : Int) w (by omega) (by omega))
  rw [show sizeZ (b0 : Int) = 2 by unfold sizeZ; omega] at HS
  have a0 := and_31 (b0 : Int) (by omega) (by omega)
  go_enter Tryz.func68, Tryz.ntmps68
  go_wp2_with fail
  refine (HS.out _).mono ?_
  rintro e w1 ⟨rfl, rfl⟩
  go_wp2
  refine wp_loop_rounds 3 ?_
  rw [rounds_succ]
  go_wp2
  go_ret2
  exact ⟨rfl, rfl⟩

theorem next_2bad1hi (s : ByteArray) (n b0 b1 b2 b3 : Nat) (w : World) (hB : Begins s n b0 b1 b2 b3) (h0 : 194 ≤ b0 ∧ b0 ≤ 223) (hn : 2 ≤ n) (h1 : 191 < b1) :
    Calls Tryz.prog 68 #[.string s] w fun e w' => e = .returned (.tuple #[.int .i64 65533, .int .i64 1]) ∧ w' = w := by
  obtain ⟨hsz, hpos, htop, l0, c0, c1, c2, c3⟩ := hB
  have HS := hid (fun w => size_any (b0 : Int) w (by omega) (by omega))
  rw [show sizeZ (b0 : Int) = 2 by unfold sizeZ; omega] at HS
  have a0 := and_31 (b0 : Int) (by omega) (by omega)
  go_enter Tryz.func68, Tryz.ntmps68
  go_wp2_with fail
  refine (HS.out _).mono ?_
  rintro e w1 ⟨rfl, rfl⟩
  go_wp2
  refine wp_loop_rounds 3 ?_
  rw [rounds_succ]
  go_wp2
  go_ret2
  exact ⟨rfl, rfl⟩

theorem next_2ok (s : ByteArray) (n b0 b1 b2 b3 : Nat) (w : World) (hB : Begins s n b0 b1 b2 b3) (h0 : 194 ≤ b0 ∧ b0 ≤ 223) (hn : 2 ≤ n) (h1 : 128 ≤ b1 ∧ b1 ≤ 191) (r1 : Int) (e1 : r1 = (b0 : Int) % 32 * 64 + (b1 : Int) % 64) :
    Calls Tryz.prog 68 #[.string s] w fun e w' => e = .returned (.tuple #[.int .i64 r1, .int .i64 2]) ∧ w' = w := by
  obtain ⟨hsz, hpos, htop, l0, c0, c1, c2, c3⟩ := hB
  have HS := hid (fun w => size_any (b0 : Int) w (by omega) (by omega))
  rw [show sizeZ (b0 : Int) = 2 by unfold sizeZ; omega] at HS
  have a0 := and_31 (b0 : Int) (by omega) (by omega)
  have a1 := and_63 (b1 : Int) (by omega) (by omega)
  have o1 := or_64 ((b0 : Int) % 32) ((b1 : Int) % 64) (by omega) (by omega) (by omega) (by omega)
  rw [← e1] at o1
  have q1 : 0 ≤ r1 ∧ r1 < 2048 := by omega
  clear e1
  go_enter Tryz.func68, Tryz.ntmps68
  go_wp2_with fail
  refine (HS.out _).mono ?_
  rintro e w1 ⟨rfl, rfl⟩
  go_wp2
  refine wp_loop_rounds 3 ?_
  rw [rounds_succ]
  go_wp2
  rw [rounds_succ]
  go_wp2
  go_ret2
  exact ⟨rfl, rfl⟩

theorem next_3bad1lo (s : ByteArray) (n b0 b1 b2 b3 : Nat) (w : World) (hB : Begins s n b0 b1 b2 b3) (h0 : 224 ≤ b0 ∧ b0 ≤ 239) (hn : 3 ≤ n) (h1 : b1 < 128) :
    Calls Tryz.prog 68 #[.string s] w fun e w' => e = .returned (.tuple #[.int .i64 65533, .int .i64 1]) ∧ w' = w := by
  obtain ⟨hsz, hpos, htop, l0, c0, c1, c2, c3⟩ := hB
  have HS := hid (fun w => size_any (b0 : Int) w (by omega) (by omega))
  rw [show sizeZ (b0 : Int) = 3 by unfold sizeZ; omega] at HS
  have a0 := and_15 (b0 : Int) (by omega) (by omega)
  go_enter Tryz.func68, Tryz.ntmps68
  go_wp2_with fail
  refine (HS.out _).mono ?_
  rintro e w1 ⟨rfl, rfl⟩
  go_wp2
  refine wp_loop_rounds 4 ?_
  rw [rounds_succ]
  go_wp2
  go_ret2
  exact ⟨rfl, rfl⟩

theorem next_3bad1hi (s : ByteArray) (n b0 b1 b2 b3 : Nat) (w : World) (hB : Begins s n b0 b1 b2 b3) (h0 : 224 ≤ b0 ∧ b0 ≤ 239) (hn : 3 ≤ n) (h1 : 191 < b1) :
    Calls Tryz.prog 68 #[.string s] w fun e w' => e = .returned (.tuple #[.int .i64 65533, .int .i64 1]) ∧ w' = w := by
  obtain ⟨hsz, hpos, htop, l0, c0, c1, c2, c3⟩ := hB
  have HS := hid (fun w => size_any (b0 : Int) w (by omega) (by omega))
  rw [show sizeZ (b0 : Int) = 3 by unfold sizeZ; omega] at HS
  have a0 := and_15 (b0 : Int) (by omega) (by omega)
  go_enter Tryz.func68, Tryz.ntmps68
  go_wp2_with fail
  refine (HS.out _).mono ?_
  rintro e w1 ⟨rfl, rfl⟩
  go_wp2
  refine wp_loop_rounds 4 ?_
  rw [rounds_succ]
  go_wp2
  go_ret2
  exact ⟨rfl, rfl⟩

theorem next_3bad2lo (s : ByteArray) (n b0 b1 b2 b3 : Nat) (w : World) (hB : Begins s n b0 b1 b2 b3) (h0 : 224 ≤ b0 ∧ b0 ≤ 239) (hn : 3 ≤ n) (h1 : 128 ≤ b1 ∧ b1 ≤ 191) (h2 : b2 < 128) (r1 : Int) (e1 : r1 = (b0 : Int) % 16 * 64 + (b1 : Int) % 64) :
    Calls Tryz.prog 68 #[.string s] w fun e w' => e = .returned (.tuple #[.int .i64 65533, .int .i64 1]) ∧ w' = w := by
  obtain ⟨hsz, hpos, htop, l0, c0, c1, c2, c3⟩ := hB
  have HS := hid (fun w => size_any (b0 : Int) w (by omega) (by omega))
  rw [show sizeZ (b0 : Int) = 3 by unfold sizeZ; omega] at HS
  have a0 := and_15 (b0 : Int) (by omega) (by omega)
  have a1 := and_63 (b1 : Int) (by omega) (by omega)
  have o1 := or_64 ((b0 : Int) % 16) ((b1 : Int) % 64) (by omega) (by omega) (by omega) (by omega)
  rw [← e1] at o1
  have q1 : 0 ≤ r1 ∧ r1 < 1024 := by omega
  clear e1
  go_enter Tryz.func68, Tryz.ntmps68
  go_wp2_with fail
  refine (HS.out _).mono ?_
  rintro e w1 ⟨rfl, rfl⟩
  go_wp2
  refine wp_loop_rounds 4 ?_
  rw [rounds_succ]
  go_wp2
  rw [rounds_succ]
  go_wp2
  go_ret2
  exact ⟨rfl, rfl⟩

theorem next_3bad2hi (s : ByteArray) (n b0 b1 b2 b3 : Nat) (w : World) (hB : Begins s n b0 b1 b2 b3) (h0 : 224 ≤ b0 ∧ b0 ≤ 239) (hn : 3 ≤ n) (h1 : 128 ≤ b1 ∧ b1 ≤ 191) (h2 : 191 < b2) (r1 : Int) (e1 : r1 = (b0 : Int) % 16 * 64 + (b1 : Int) % 64) :
    Calls Tryz.prog 68 #[.string s] w fun e w' => e = .returned (.tuple #[.int .i64 65533, .int .i64 1]) ∧ w' = w := by
  obtain ⟨hsz, hpos, htop, l0, c0, c1, c2, c3⟩ := hB
  have HS := hid (fun w => size_any (b0 : Int) w (by omega) (by omega))
  rw [show sizeZ (b0 : Int) = 3 by unfold sizeZ; omega] at HS
  have a0 := and_15 (b0 : Int) (by omega) (by omega)
  have a1 := and_63 (b1 : Int) (by omega) (by omega)
  have o1 := or_64 ((b0 : Int) % 16) ((b1 : Int) % 64) (by omega) (by omega) (by omega) (by omega)
  rw [← e1] at o1
  have q1 : 0 ≤ r1 ∧ r1 < 1024 := by omega
  clear e1
  go_enter Tryz.func68, Tryz.ntmps68
  go_wp2_with fail
  refine (HS.out _).mono ?_
  rintro e w1 ⟨rfl, rfl⟩
  go_wp2
  refine wp_loop_rounds 4 ?_
  rw [rounds_succ]
  go_wp2
  rw [rounds_succ]
  go_wp2
  go_ret2
  exact ⟨rfl, rfl⟩

theorem next_3low (s : ByteArray) (n b0 b1 b2 b3 : Nat) (w : World) (hB : Begins s n b0 b1 b2 b3) (h0 : 224 ≤ b0 ∧ b0 ≤ 239) (hn : 3 ≤ n) (h1 : 128 ≤ b1 ∧ b1 ≤ 191) (h2 : 128 ≤ b2 ∧ b2 ≤ 191) (r1 : Int) (e1 : r1 = (b0 : Int) % 16 * 64 + (b1 : Int) % 64) (r2 : Int) (e2 : r2 = r1 * 64 + (b2 : Int) % 64) (g1 : r2 < 2048) :
    Calls Tryz.prog 68 #[.string s] w fun e w' => e = .returned (.tuple #[.int .i64 65533, .int .i64 1]) ∧ w' = w := by
  obtain ⟨hsz, hpos, htop, l0, c0, c1, c2, c3⟩ := hB
  have HS := hid (fun w => size_any (b0 : Int) w (by omega) (by omega))
  rw [show sizeZ (b0 : Int) = 3 by unfold sizeZ; omega] at HS
  have a0 := and_15 (b0 : Int) (by omega) (by omega)
  have a1 := and_63 (b1 : Int) (by omega) (by omega)
  have o1 := or_64 ((b0 : Int) % 16) ((b1 : Int) % 64) (by omega) (by omega) (by omega) (by omega)
  rw [← e1] at o1
  have a2 := and_63 (b2 : Int) (by omega) (by omega)
  have o2 := or_64 r1 ((b2 : Int) % 64) (by omega) (by omega) (by omega) (by omega)
  rw [← e2] at o2
  have q1 : 0 ≤ r1 ∧ r1 < 1024 := by omega
  have q2 : 0 ≤ r2 ∧ r2 < 65536 := by omega
  clear e1 e2
  go_enter Tryz.func68, Tryz.ntmps68
  go_wp2_with fail
  refine (HS.out _).mono ?_
  rintro e w1 ⟨rfl, rfl⟩
  go_wp2
  refine wp_loop_rounds 4 ?_
  rw [rounds_succ]
  go_wp2
  rw [rounds_succ]
  go_wp2
  rw [rounds_succ]
  go_wp2
  go_ret2
  exact ⟨rfl, rfl⟩

theorem next_3sur (s : ByteArray) (n b0 b1 b2 b3 : Nat) (w : World) (hB : Begins s n b0 b1 b2 b3) (h0 : 224 ≤ b0 ∧ b0 ≤ 239) (hn : 3 ≤ n) (h1 : 128 ≤ b1 ∧ b1 ≤ 191) (h2 : 128 ≤ b2 ∧ b2 ≤ 191) (r1 : Int) (e1 : r1 = (b0 : Int) % 16 * 64 + (b1 : Int) % 64) (r2 : Int) (e2 : r2 = r1 * 64 + (b2 : Int) % 64) (g1 : 55296 ≤ r2 ∧ r2 ≤ 57343) :
    Calls Tryz.prog 68 #[.string s] w fun e w' => e = .returned (.tuple #[.int .i64 65533, .int .i64 1]) ∧ w' = w := by
  obtain ⟨hsz, hpos, htop, l0, c0, c1, c2, c3⟩ := hB
  have HS := hid (fun w => size_any (b0 : Int) w (by omega) (by omega))
  rw [show sizeZ (b0 : Int) = 3 by unfold sizeZ; omega] at HS
  have a0 := and_15 (b0 : Int) (by omega) (by omega)
  have a1 := and_63 (b1 : Int) (by omega) (by omega)
  have o1 := or_64 ((b0 : Int) % 16) ((b1 : Int) % 64) (by omega) (by omega) (by omega) (by omega)
  rw [← e1] at o1
  have a2 := and_63 (b2 : Int) (by omega) (by omega)
  have o2 := or_64 r1 ((b2 : Int) % 64) (by omega) (by omega) (by omega) (by omega)
  rw [← e2] at o2
  have q1 : 0 ≤ r1 ∧ r1 < 1024 := by omega
  have q2 : 0 ≤ r2 ∧ r2 < 65536 := by omega
  clear e1 e2
  have HI := hid (fun w => rin_any r2 55296 57343 w)
  rw [decide_eq_true g1] at HI
  go_enter Tryz.func68, Tryz.ntmps68
  go_wp2_with fail
  refine (HS.out _).mono ?_
  rintro e w1 ⟨rfl, rfl⟩
  go_wp2
  refine wp_loop_rounds 4 ?_
  rw [rounds_succ]
  go_wp2
  rw [rounds_succ]
  go_wp2
  rw [rounds_succ]
  go_wp2_with fail
  refine (HI.out _).mono ?_
  rintro e w1 ⟨rfl, rfl⟩
  go_wp2
  go_ret2
  exact ⟨rfl, rfl⟩

theorem next_3ok (s : ByteArray) (n b0 b1 b2 b3 : Nat) (w : World) (hB : Begins s n b0 b1 b2 b3) (h0 : 224 ≤ b0 ∧ b0 ≤ 239) (hn : 3 ≤ n) (h1 : 128 ≤ b1 ∧ b1 ≤ 191) (h2 : 128 ≤ b2 ∧ b2 ≤ 191) (r1 : Int) (e1 : r1 = (b0 : Int) % 16 * 64 + (b1 : Int) % 64) (r2 : Int) (e2 : r2 = r1 * 64 + (b2 : Int) % 64) (g1 : 2048 ≤ r2) (g2 : ¬ (55296 ≤ r2 ∧ r2 ≤ 57343)) :
    Calls Tryz.prog 68 #[.string s] w fun e w' => e = .returned (.tuple #[.int .i64 r2, .int .i64 3]) ∧ w' = w := by
  obtain ⟨hsz, hpos, htop, l0, c0, c1, c2, c3⟩ := hB
  have HS := hid (fun w => size_any (b0 : Int) w (by omega) (by omega))
  rw [show sizeZ (b0 : Int) = 3 by unfold sizeZ; omega] at HS
  have a0 := and_15 (b0 : Int) (by omega) (by omega)
  have a1 := and_63 (b1 : Int) (by omega) (by omega)
  have o1 := or_64 ((b0 : Int) % 16) ((b1 : Int) % 64) (by omega) (by omega) (by omega) (by omega)
  rw [← e1] at o1
  have a2 := and_63 (b2 : Int) (by omega) (by omega)
  have o2 := or_64 r1 ((b2 : Int) % 64) (by omega) (by omega) (by omega) (by omega)
  rw [← e2] at o2
  have q1 : 0 ≤ r1 ∧ r1 < 1024 := by omega
  have q2 : 0 ≤ r2 ∧ r2 < 65536 := by omega
  clear e1 e2
  have HI := hid (fun w => rin_any r2 55296 57343 w)
  rw [decide_eq_false g2] at HI
  go_enter Tryz.func68, Tryz.ntmps68
  go_wp2_with fail
  refine (HS.out _).mono ?_
  rintro e w1 ⟨rfl, rfl⟩
  go_wp2
  refine wp_loop_rounds 4 ?_
  rw [rounds_succ]
  go_wp2
  rw [rounds_succ]
  go_wp2
  rw [rounds_succ]
  go_wp2_with fail
  refine (HI.out _).mono ?_
  rintro e w1 ⟨rfl, rfl⟩
  go_wp2
  go_ret2
  exact ⟨rfl, rfl⟩

theorem next_4bad1lo (s : ByteArray) (n b0 b1 b2 b3 : Nat) (w : World) (hB : Begins s n b0 b1 b2 b3) (h0 : 240 ≤ b0 ∧ b0 ≤ 244) (hn : 4 ≤ n) (h1 : b1 < 128) :
    Calls Tryz.prog 68 #[.string s] w fun e w' => e = .returned (.tuple #[.int .i64 65533, .int .i64 1]) ∧ w' = w := by
  obtain ⟨hsz, hpos, htop, l0, c0, c1, c2, c3⟩ := hB
  have HS := hid (fun w => size_any (b0 : Int) w (by omega) (by omega))
  rw [show sizeZ (b0 : Int) = 4 by unfold sizeZ; omega] at HS
  have a0 := and_7 (b0 : Int) (by omega) (by omega)
  go_enter Tryz.func68, Tryz.ntmps68
  go_wp2_with fail
  refine (HS.out _).mono ?_
  rintro e w1 ⟨rfl, rfl⟩
  go_wp2
  refine wp_loop_rounds 5 ?_
  rw [rounds_succ]
  go_wp2
  go_ret2
  exact ⟨rfl, rfl⟩

theorem next_4bad1hi (s : ByteArray) (n b0 b1 b2 b3 : Nat) (w : World) (hB : Begins s n b0 b1 b2 b3) (h0 : 240 ≤ b0 ∧ b0 ≤ 244) (hn : 4 ≤ n) (h1 : 191 < b1) :
    Calls Tryz.prog 68 #[.string s] w fun e w' => e = .returned (.tuple #[.int .i64 65533, .int .i64 1]) ∧ w' = w := by
  obtain ⟨hsz, hpos, htop, l0, c0, c1, c2, c3⟩ := hB
  have HS := hid (fun w => size_any (b0 : Int) w (by omega) (by omega))
  rw [show sizeZ (b0 : Int) = 4 by unfold sizeZ; omega] at HS
  have a0 := and_7 (b0 : Int) (by omega) (by omega)
  go_enter Tryz.func68, Tryz.ntmps68
  go_wp2_with fail
  refine (HS.out _).mono ?_
  rintro e w1 ⟨rfl, rfl⟩
  go_wp2
  refine wp_loop_rounds 5 ?_
  rw [rounds_succ]
  go_wp2
  go_ret2
  exact ⟨rfl, rfl⟩

theorem next_4bad2lo (s : ByteArray) (n b0 b1 b2 b3 : Nat) (w : World) (hB : Begins s n b0 b1 b2 b3) (h0 : 240 ≤ b0 ∧ b0 ≤ 244) (hn : 4 ≤ n) (h1 : 128 ≤ b1 ∧ b1 ≤ 191) (h2 : b2 < 128) (r1 : Int) (e1 : r1 = (b0 : Int) % 8 * 64 + (b1 : Int) % 64) :
    Calls Tryz.prog 68 #[.string s] w fun e w' => e = .returned (.tuple #[.int .i64 65533, .int .i64 1]) ∧ w' = w := by
  obtain ⟨hsz, hpos, htop, l0, c0, c1, c2, c3⟩ := hB
  have HS := hid (fun w => size_any (b0 : Int) w (by omega) (by omega))
  rw [show sizeZ (b0 : Int) = 4 by unfold sizeZ; omega] at HS
  have a0 := and_7 (b0 : Int) (by omega) (by omega)
  have a1 := and_63 (b1 : Int) (by omega) (by omega)
  have o1 := or_64 ((b0 : Int) % 8) ((b1 : Int) % 64) (by omega) (by omega) (by omega) (by omega)
  rw [← e1] at o1
  have q1 : 0 ≤ r1 ∧ r1 < 512 := by omega
  clear e1
  go_enter Tryz.func68, Tryz.ntmps68
  go_wp2_with fail
  refine (HS.out _).mono ?_
  rintro e w1 ⟨rfl, rfl⟩
  go_wp2
  refine wp_loop_rounds 5 ?_
  rw [rounds_succ]
  go_wp2
  rw [rounds_succ]
  go_wp2
  go_ret2
  exact ⟨rfl, rfl⟩

theorem next_4bad2hi (s : ByteArray) (n b0 b1 b2 b3 : Nat) (w : World) (hB : Begins s n b0 b1 b2 b3) (h0 : 240 ≤ b0 ∧ b0 ≤ 244) (hn : 4 ≤ n) (h1 : 128 ≤ b1 ∧ b1 ≤ 191) (h2 : 191 < b2) (r1 : Int) (e1 : r1 = (b0 : Int) % 8 * 64 + (b1 : Int) % 64) :
    Calls Tryz.prog 68 #[.string s] w fun e w' => e = .returned (.tuple #[.int .i64 65533, .int .i64 1]) ∧ w' = w := by
  obtain ⟨hsz, hpos, htop, l0, c0, c1, c2, c3⟩ := hB
  have HS := hid (fun w => size_any (b0 : Int) w (by omega) (by omega))
  rw [show sizeZ (b0 : Int) = 4 by unfold sizeZ; omega] at HS
  have a0 := and_7 (b0 : Int) (by omega) (by omega)
  have a1 := and_63 (b1 : Int) (by omega) (by omega)
  have o1 := or_64 ((b0 : Int) % 8) ((b1 : Int) % 64) (by omega) (by omega) (by omega) (by omega)
  rw [← e1] at o1
  have q1 : 0 ≤ r1 ∧ r1 < 512 := by omega
  clear e1
  go_enter Tryz.func68, Tryz.ntmps68
  go_wp2_with fail
  refine (HS.out _).mono ?_
  rintro e w1 ⟨rfl, rfl⟩
  go_wp2
  refine wp_loop_rounds 5 ?_
  rw [rounds_succ]
  go_wp2
  rw [rounds_succ]
  go_wp2
  go_ret2
  exact ⟨rfl, rfl⟩

theorem next_4bad3lo (s : ByteArray) (n b0 b1 b2 b3 : Nat) (w : World) (hB : Begins s n b0 b1 b2 b3) (h0 : 240 ≤ b0 ∧ b0 ≤ 244) (hn : 4 ≤ n) (h1 : 128 ≤ b1 ∧ b1 ≤ 191) (h2 : 128 ≤ b2 ∧ b2 ≤ 191) (h3 : b3 < 128) (r1 : Int) (e1 : r1 = (b0 : Int) % 8 * 64 + (b1 : Int) % 64) (r2 : Int) (e2 : r2 = r1 * 64 + (b2 : Int) % 64) :
    Calls Tryz.prog 68 #[.string s] w fun e w' => e = .returned (.tuple #[.int .i64 65533, .int .i64 1]) ∧ w' = w := by
  obtain ⟨hsz, hpos, htop, l0, c0, c1, c2, c3⟩ := hB
  have HS := hid (fun w => size_any (b0 : Int) w (by omega) (by omega))
  rw [show sizeZ (b0 : Int) = 4 by unfold sizeZ; omega] at HS
  have a0 := and_7 (b0 : Int) (by omega) (by omega)
  have a1 := and_63 (b1 : Int) (by omega) (by omega)
  have o1 := or_64 ((b0 : Int) % 8) ((b1 : Int) % 64) (by omega) (by omega) (by omega) (by omega)
  rw [← e1] at o1
  have a2 := and_63 (b2 : Int) (by omega) (by omega)
  have o2 := or_64 r1 ((b2 : Int) % 64) (by omega) (by omega) (by omega) (by omega)
  rw [← e2] at o2
  have q1 : 0 ≤ r1 ∧ r1 < 512 := by omega
  have q2 : 0 ≤ r2 ∧ r2 < 32768 := by omega
  clear e1 e2
  go_enter Tryz.func68, Tryz.ntmps68
  go_wp2_with fail
  refine (HS.out _).mono ?_
  rintro e w1 ⟨rfl, rfl⟩
  go_wp2
  refine wp_loop_rounds 5 ?_
  rw [rounds_succ]
  go_wp2
  rw [rounds_succ]
  go_wp2
  rw [rounds_succ]
  go_wp2
  go_ret2
  exact ⟨rfl, rfl⟩

theorem next_4bad3hi (s : ByteArray) (n b0 b1 b2 b3 : Nat) (w : World) (hB : Begins s n b0 b1 b2 b3) (h0 : 240 ≤ b0 ∧ b0 ≤ 244) (hn : 4 ≤ n) (h1 : 128 ≤ b1 ∧ b1 ≤ 191) (h2 : 128 ≤ b2 ∧ b2 ≤ 191) (h3 : 191 < b3) (r1 : Int) (e1 : r1 = (b0 : Int) % 8 * 64 + (b1 : Int) % 64) (r2 : Int) (e2 : r2 = r1 * 64 + (b2 : Int) % 64) :
    Calls Tryz.prog 68 #[.string s] w fun e w' => e = .returned (.tuple #[.int .i64 65533, .int .i64 1]) ∧ w' = w := by
  obtain ⟨hsz, hpos, htop, l0, c0, c1, c2, c3⟩ := hB
  have HS := hid (fun w => size_any (b0 : Int) w (by omega) (by omega))
  rw [show sizeZ (b0 : Int) = 4 by unfold sizeZ; omega] at HS
  have a0 := and_7 (b0 : Int) (by omega) (by omega)
  have a1 := and_63 (b1 : Int) (by omega) (by omega)
  have o1 := or_64 ((b0 : Int) % 8) ((b1 : Int) % 64) (by omega) (by omega) (by omega) (by omega)
  rw [← e1] at o1
  have a2 := and_63 (b2 : Int) (by omega) (by omega)
  have o2 := or_64 r1 ((b2 : Int) % 64) (by omega) (by omega) (by omega) (by omega)
  rw [← e2] at o2
  have q1 : 0 ≤ r1 ∧ r1 < 512 := by omega
  have q2 : 0 ≤ r2 ∧ r2 < 32768 := by omega
  clear e1 e2
  go_enter Tryz.func68, Tryz.ntmps68
  go_wp2_with fail
  refine (HS.out _).mono ?_
  rintro e w1 ⟨rfl, rfl⟩
  go_wp2
  refine wp_loop_rounds 5 ?_
  rw [rounds_succ]
  go_wp2
  rw [rounds_succ]
  go_wp2
  rw [rounds_succ]
  go_wp2
  go_ret2
  exact ⟨rfl, rfl⟩

theorem next_4low (s : ByteArray) (n b0 b1 b2 b3 : Nat) (w : World) (hB : Begins s n b0 b1 b2 b3) (h0 : 240 ≤ b0 ∧ b0 ≤ 244) (hn : 4 ≤ n) (h1 : 128 ≤ b1 ∧ b1 ≤ 191) (h2 : 128 ≤ b2 ∧ b2 ≤ 191) (h3 : 128 ≤ b3 ∧ b3 ≤ 191) (r1 : Int) (e1 : r1 = (b0 : Int) % 8 * 64 + (b1 : Int) % 64) (r2 : Int) (e2 : r2 = r1 * 64 + (b2 : Int) % 64) (r3 : Int) (e3 : r3 = r2 * 64 + (b3 : Int) % 64) (g1 : r3 < 65536) :
    Calls Tryz.prog 68 #[.string s] w fun e w' => e = .returned (.tuple #[.int .i64 65533, .int .i64 1]) ∧ w' = w := by
  obtain ⟨hsz, hpos, htop, l0, c0, c1, c2, c3⟩ := hB
  have HS := hid (fun w => size_any (b0 : Int) w (by omega) (by omega))
  rw [show sizeZ (b0 : Int) = 4 by unfold sizeZ; omega] at HS
  have a0 := and_7 (b0 : Int) (by omega) (by omega)
  have a1 := and_63 (b1 : Int) (by omega) (by omega)
  have o1 := or_64 ((b0 : Int) % 8) ((b1 : Int) % 64) (by omega) (by omega) (by omega) (by omega)
  rw [← e1] at o1
  have a2 := and_63 (b2 : Int) (by omega) (by omega)
  have o2 := or_64 r1 ((b2 : Int) % 64) (by omega) (by omega) (by omega) (by omega)
  rw [← e2] at o2
  have a3 := and_63 (b3 : Int) (by omega) (by omega)
  have o3 := or_64 r2 ((b3 : Int) % 64) (by omega) (by omega) (by omega) (by omega)
  rw [← e3] at o3
  have q1 : 0 ≤ r1 ∧ r1 < 512 := by omega
  have q2 : 0 ≤ r2 ∧ r2 < 32768 := by omega
  have q3 : 0 ≤ r3 ∧ r3 < 2097152 := by omega
  clear e1 e2 e3
  go_enter Tryz.func68, Tryz.ntmps68
  go_wp2_with fail
  refine (HS.out _).mono ?_
  rintro e w1 ⟨rfl, rfl⟩
  go_wp2
  refine wp_loop_rounds 5 ?_
  rw [rounds_succ]
  go_wp2
  rw [rounds_succ]
  go_wp2
  rw [rounds_succ]
  go_wp2
  rw [rounds_succ]
  go_wp2
  go_ret2
  exact ⟨rfl, rfl⟩

theorem next_4high (s : ByteArray) (n b0 b1 b2 b3 : Nat) (w : World) (hB : Begins s n b0 b1 b2 b3) (h0 : 240 ≤ b0 ∧ b0 ≤ 244) (hn : 4 ≤ n) (h1 : 128 ≤ b1 ∧ b1 ≤ 191) (h2 : 128 ≤ b2 ∧ b2 ≤ 191) (h3 : 128 ≤ b3 ∧ b3 ≤ 191) (r1 : Int) (e1 : r1 = (b0 : Int) % 8 * 64 + (b1 : Int) % 64) (r2 : Int) (e2 : r2 = r1 * 64 + (b2 : Int) % 64) (r3 : Int) (e3 : r3 = r2 * 64 + (b3 : Int) % 64) (g1 : 1114111 < r3) :
    Calls Tryz.prog 68 #[.string s] w fun e w' => e = .returned (.tuple #[.int .i64 65533, .int .i64 1]) ∧ w' = w := by
  obtain ⟨hsz, hpos, htop, l0, c0, c1, c2, c3⟩ := hB
  have HS := hid (fun w => size_any (b0 : Int) w (by omega) (by omega))
  rw [show sizeZ (b0 : Int) = 4 by unfold sizeZ; omega] at HS
  have a0 := and_7 (b0 : Int) (by omega) (by omega)
  have a1 := and_63 (b1 : Int) (by omega) (by omega)
  have o1 := or_64 ((b0 : Int) % 8) ((b1 : Int) % 64) (by omega) (by omega) (by omega) (by omega)
  rw [← e1] at o1
  have a2 := and_63 (b2 : Int) (by omega) (by omega)
  have o2 := or_64 r1 ((b2 : Int) % 64) (by omega) (by omega) (by omega) (by omega)
  rw [← e2] at o2
  have a3 := and_63 (b3 : Int) (by omega) (by omega)
  have o3 := or_64 r2 ((b3 : Int) % 64) (by omega) (by omega) (by omega) (by omega)
  rw [← e3] at o3
  have q1 : 0 ≤ r1 ∧ r1 < 512 := by omega
  have q2 : 0 ≤ r2 ∧ r2 < 32768 := by omega
  have q3 : 0 ≤ r3 ∧ r3 < 2097152 := by omega
  clear e1 e2 e3
  go_enter Tryz.func68, Tryz.ntmps68
  go_wp2_with fail
  refine (HS.out _).mono ?_
  rintro e w1 ⟨rfl, rfl⟩
  go_wp2
  refine wp_loop_rounds 5 ?_
  rw [rounds_succ]
  go_wp2
  rw [rounds_succ]
  go_wp2
  rw [rounds_succ]
  go_wp2
  rw [rounds_succ]
  go_wp2
  go_ret2
  exact ⟨rfl, rfl⟩

theorem next_4ok (s : ByteArray) (n b0 b1 b2 b3 : Nat) (w : World) (hB : Begins s n b0 b1 b2 b3) (h0 : 240 ≤ b0 ∧ b0 ≤ 244) (hn : 4 ≤ n) (h1 : 128 ≤ b1 ∧ b1 ≤ 191) (h2 : 128 ≤ b2 ∧ b2 ≤ 191) (h3 : 128 ≤ b3 ∧ b3 ≤ 191) (r1 : Int) (e1 : r1 = (b0 : Int) % 8 * 64 + (b1 : Int) % 64) (r2 : Int) (e2 : r2 = r1 * 64 + (b2 : Int) % 64) (r3 : Int) (e3 : r3 = r2 * 64 + (b3 : Int) % 64) (g1 : 65536 ≤ r3) (g2 : r3 ≤ 1114111) :
    Calls Tryz.prog 68 #[.string s] w fun e w' => e = .returned (.tuple #[.int .i64 r3, .int .i64 4]) ∧ w' = w := by
  obtain ⟨hsz, hpos, htop, l0, c0, c1, c2, c3⟩ := hB
  have HS := hid (fun w => size_any (b0 : Int) w (by omega) (by omega))
  rw [show sizeZ (b0 : Int) = 4 by unfold sizeZ; omega] at HS
  have a0 := and_7 (b0 : Int) (by omega) (by omega)
  have a1 := and_63 (b1 : Int) (by omega) (by omega)
  have o1 := or_64 ((b0 : Int) % 8) ((b1 : Int) % 64) (by omega) (by omega) (by omega) (by omega)
  rw [← e1] at o1
  have a2 := and_63 (b2 : Int) (by omega) (by omega)
  have o2 := or_64 r1 ((b2 : Int) % 64) (by omega) (by omega) (by omega) (by omega)
  rw [← e2] at o2
  have a3 := and_63 (b3 : Int) (by omega) (by omega)
  have o3 := or_64 r2 ((b3 : Int) % 64) (by omega) (by omega) (by omega) (by omega)
  rw [← e3] at o3
  have q1 : 0 ≤ r1 ∧ r1 < 512 := by omega
  have q2 : 0 ≤ r2 ∧ r2 < 32768 := by omega
  have q3 : 0 ≤ r3 ∧ r3 < 2097152 := by omega
  clear e1 e2 e3
  go_enter Tryz.func68, Tryz.ntmps68
  go_wp2_with fail
  refine (HS.out _).mono ?_
  rintro e w1 ⟨rfl, rfl⟩
  go_wp2
  refine wp_loop_rounds 5 ?_
  rw [rounds_succ]
  go_wp2
  rw [rounds_succ]
  go_wp2
  rw [rounds_succ]
  go_wp2
  rw [rounds_succ]
  go_wp2
  go_ret2
  exact ⟨rfl, rfl⟩

end Go.Proofs.YtannndpamhgknaaGreatDoor.Fo
