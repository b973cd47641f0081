/- The bytes that the reference writes of a sign, and of a digit. -/
import Derived.Test.YtohgaknojkdohaaGreatDoorFoExt
import Derived.Laws.BitsLemmas
namespace Go.Proofs.YtohgaknojkdohaaGreatDoor.Fo
open Go.RowKit

theorem wraps_i64_62 (n : Int) (h0 : 0 ≤ n) (h1 : n < 2 ^ 62) : IntKind.i64.wrap n = n := by rw [IntKind.wrap_i64]; omega
theorem or_i64 (i a : Nat) (hi : i ≤ 62) (y : Int) (h0 : 0 ≤ y) (h1 : y < 2 ^ i) (hX : 2 ^ i * a < 2 ^ 62) : bits .or .i64 ((2 ^ i * a : Nat) : Int) y = ((2 ^ i * a : Nat) : Int) + y := by
  obtain ⟨n, rfl⟩ := Int.eq_ofNat_of_zero_le h0
  have hn : n < 2 ^ i := by exact_mod_cast h1
  have hn2 : n < 2 ^ 62 := Nat.lt_of_lt_of_le hn (Nat.pow_le_pow_right (by decide) hi)
  rw [(bits_nat .i64 62 (by decide) wraps_i64_62 (2 ^ i * a) n hX hn2).2, ← Nat.two_pow_add_eq_or_of_lt hn]
  simp
theorem or_192 (y : Int) (h0 : 0 ≤ y) (h1 : y < 64) : bits .or .i64 192 y = 192 + y := or_i64 6 3 (by decide) y h0 h1 (by decide)
theorem or_128 (y : Int) (h0 : 0 ≤ y) (h1 : y < 64) : bits .or .i64 128 y = 128 + y := or_i64 6 2 (by decide) y h0 h1 (by decide)
theorem or_224 (y : Int) (h0 : 0 ≤ y) (h1 : y < 16) : bits .or .i64 224 y = 224 + y := or_i64 4 14 (by decide) y h0 h1 (by decide)
theorem or_240 (y : Int) (h0 : 0 ≤ y) (h1 : y < 8) : bits .or .i64 240 y = 240 + y := or_i64 3 30 (by decide) y h0 h1 (by decide)
theorem and_63 (x : Int) (h0 : 0 ≤ x) (h1 : x < 4000000000) : bits .and .i64 x 63 = x % 64 := bits_mask .i64 62 (by decide) wraps_i64_62 6 (by decide) x h0 (by omega)

theorem conv_row (w : World) (cs : Array Value) (l : List UInt8) (n : Nat) (hn : l.length = n) (hc : cs = (l.map fun b => Value.int .u8 (b.toNat : Int)).toArray) :
    (convert 28 9 (.slice (some ⟨w.heap.size, 0, none⟩) n n)).run Tryz.prog (w.alloc (.cells cs 5)) = .ok (.string ⟨l.toArray⟩) (w.alloc (.cells cs 5)) := by
  subst hn
  refine run_convert_bytes_back (P := Tryz.prog) (w.alloc (.cells cs 5)) 28 9 5 ⟨w.heap.size, 0, none⟩ l.length l Tryz.underlying28 Tryz.underlying5 Tryz.underlying9 (fun j hj => ?_)
  have e : ((⟨w.heap.size, 0, none⟩ : Addr).add j) = ⟨w.heap.size, j, none⟩ := by unfold Addr.add; split <;> simp_all
  rw [e, cell_of_row _ _ j cs 5 _ (row_new w _), hc]
  simp [hj]

theorem toByte (x : Int) (h0 : 0 ≤ x) (h1 : x < 256) : Value.int .u8 ((x.toNat.toUInt8).toNat : Int) = .int .u8 x := by
  have : ((x.toNat.toUInt8).toNat : Int) = x := by simp; omega
  rw [this]

theorem one_any (r : Int) (w : World) (h0 : 0 ≤ r) (h1 : r ≤ 1114111) (hok : okRune r) : Calls Tryz.prog 50 #[.int .i64 r] w fun e w' => e = .returned (.string ⟨(Lib.encodeRune r).toArray⟩) ∧ Below w.heap.size w w' := by
  unfold okRune at hok
  by_cases c1 : r < 128
  · have e : Lib.encodeRune r = [r.toNat.toUInt8] := by simp [Lib.encodeRune, Lib.encodeRuneZ_one (r := r) (by omega) (by omega)]
    have hc := conv_row w #[.int .u8 r] (Lib.encodeRune r) 1 (by rw [e]; rfl) (by rw [e]; simp only [List.map_cons, List.map_nil, toByte _ h0 (show r < 256 by omega)])
    clear e
    generalize Lib.encodeRune r = L at *
    go_enter Tryz.func50, Tryz.ntmps50
    go_wp2
    go_ret
    exact ⟨rfl, up_alloc _ _⟩
  · by_cases c2 : r < 2048
    · have e : Lib.encodeRune r = [(192 + r / 64).toNat.toUInt8, (128 + r % 64).toNat.toUInt8] := by simp [Lib.encodeRune, Lib.encodeRuneZ_two (r := r) (by omega) (by omega)]
      have hc := conv_row w #[.int .u8 (192 + r / 64), .int .u8 (128 + r % 64)] (Lib.encodeRune r) 2 (by rw [e]; rfl) (by rw [e]; simp only [List.map_cons, List.map_nil, toByte (192 + r / 64) (by omega) (by omega), toByte (128 + r % 64) (by omega) (by omega)])
      have o1 := or_192 (r / 64) (by omega) (by omega)
      have o2 := and_63 r h0 (by omega)
      have o3 := or_128 (r % 64) (by omega) (by omega)
      clear e
      generalize Lib.encodeRune r = L at *
      go_enter Tryz.func50, Tryz.ntmps50
      go_wp2
      go_ret
      exact ⟨rfl, up_alloc _ _⟩
    · by_cases c3 : r < 65536
      · have e : Lib.encodeRune r = [(224 + r / 4096).toNat.toUInt8, (128 + r / 64 % 64).toNat.toUInt8, (128 + r % 64).toNat.toUInt8] := by simp [Lib.encodeRune, Lib.encodeRuneZ_three (r := r) (by omega)]
        have hc := conv_row w #[.int .u8 (224 + r / 4096), .int .u8 (128 + r / 64 % 64), .int .u8 (128 + r % 64)] (Lib.encodeRune r) 3 (by rw [e]; rfl) (by rw [e]; simp only [List.map_cons, List.map_nil, toByte (224 + r / 4096) (by omega) (by omega), toByte (128 + r / 64 % 64) (by omega) (by omega), toByte (128 + r % 64) (by omega) (by omega)])
        have o1 := or_224 (r / 4096) (by omega) (by omega)
        have o2 := and_63 r h0 (by omega)
        have o3 := or_128 (r % 64) (by omega) (by omega)
        have o4 := and_63 (r / 64) (by omega) (by omega)
        have o5 := or_128 (r / 64 % 64) (by omega) (by omega)
        clear e
        generalize Lib.encodeRune r = L at *
        go_enter Tryz.func50, Tryz.ntmps50
        go_wp2
        go_ret
        exact ⟨rfl, up_alloc _ _⟩
      · have e : Lib.encodeRune r = [(240 + r / 262144).toNat.toUInt8, (128 + r / 4096 % 64).toNat.toUInt8, (128 + r / 64 % 64).toNat.toUInt8, (128 + r % 64).toNat.toUInt8] := by simp [Lib.encodeRune, Lib.encodeRuneZ_four (r := r) (by omega) (by omega)]
        have hc := conv_row w #[.int .u8 (240 + r / 262144), .int .u8 (128 + r / 4096 % 64), .int .u8 (128 + r / 64 % 64), .int .u8 (128 + r % 64)] (Lib.encodeRune r) 4 (by rw [e]; rfl) (by rw [e]; simp only [List.map_cons, List.map_nil, toByte (240 + r / 262144) (by omega) (by omega), toByte (128 + r / 4096 % 64) (by omega) (by omega), toByte (128 + r / 64 % 64) (by omega) (by omega), toByte (128 + r % 64) (by omega) (by omega)])
        have o1 := or_240 (r / 262144) (by omega) (by omega)
        have o2 := and_63 r h0 (by omega)
        have o3 := or_128 (r % 64) (by omega) (by omega)
        have o4 := and_63 (r / 64) (by omega) (by omega)
        have o5 := or_128 (r / 64 % 64) (by omega) (by omega)
        have o6 := and_63 (r / 4096) (by omega) (by omega)
        have o7 := or_128 (r / 4096 % 64) (by omega) (by omega)
        clear e
        generalize Lib.encodeRune r = L at *
        go_enter Tryz.func50, Tryz.ntmps50
        go_wp2
        go_ret
        exact ⟨rfl, up_alloc _ _⟩

end Go.Proofs.YtohgaknojkdohaaGreatDoor.Fo
