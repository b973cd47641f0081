/- The text that the reference writes of a decimal: the same as package dec's. -/
import Derived.Test.YtoklknioeoodbaaDoorText
import Derived.Laws.IdiomStrings
namespace Go.Proofs.YtoklknioeoodbaaDoor
open Go.RowKit

def strLen : Value → Nat | .string b => b.size | _ => 0
theorem size_mk (L : List UInt8) : (ByteArray.mk L.toArray).size = L.length := by
  show L.toArray.size = L.length
  simp

theorem conv_one (w : World) (x : Int) (b : UInt8) (h : (b.toNat : Int) = x) :
    (convert 44 9 (.slice (some ⟨w.heap.size, 0, none⟩) 1 1)).run Tryd.prog (w.alloc (.cells #[.int .u8 x] 5)) = .ok (.string ⟨#[b]⟩) (w.alloc (.cells #[.int .u8 x] 5)) := by
  have := run_convert_bytes_back (P := Tryd.prog) (w.alloc (.cells #[.int .u8 x] 5)) 44 9 5 ⟨w.heap.size, 0, none⟩ 1 [b] Tryd.underlying44 Tryd.underlying5 Tryd.underlying9 (fun j hj => by
    obtain rfl : j = 0 := by simpa using hj
    subst h
    simp [Addr.add, World.cell?_alloc_at])
  exact this

set_option maxRecDepth 100000 in
set_option maxHeartbeats 2000000 in
theorem rdigits_any (n width K : Nat) (w : World) (hK1 : 1 ≤ K) (hKw : width ≤ K) (hK30 : K ≤ 30) (hn : n < 10 ^ K) (hn18 : n < 1000000000000000000) (hlow : ∀ k, k < K → k = 0 ∨ k < width ∨ 10 ^ k ≤ n) :
    Calls Tryd.prog 30 #[.int .i64 n, .int .i64 width] w fun e w' => e = .returned (.string ⟨(Dc.pad n K).toArray⟩) ∧ Below w.heap.size w w' := by
  go_enter Tryd.func30, Tryd.ntmps30
  go_wp2_with fail
  go_loopw [0, 5] (fun x s wr => ∃ (k : Nat) (y : Int) (L : List UInt8), k ≤ K ∧ x = .int .i64 y ∧ s = .string ⟨L.toArray⟩ ∧ Hid (y = ((n / 10 ^ k : Nat) : Int)) ∧ Hid (L = Dc.pad n k) ∧ Below w.heap.size w wr) (fun _ s _ => 31 - strLen s)
  case atStart => exact ⟨0, n, [], by omega, rfl, rfl, by simp [Hid], rfl, Below.refl _ _⟩
  case round =>
    obtain ⟨k, y, L, hk, rfl, rfl, hy, hL, hb⟩ := hrel
    have y0 : 0 ≤ y := by rw [hy.out]; exact Int.natCast_nonneg _
    have y1 : y < 1000000000000000000 := by
      have := Nat.div_le_self n (10 ^ k)
      rw [hy.out]; omega
    have hl : L.length = k := by rw [hL.out, Dc.pad_length]
    have hll : L.length ≤ 100 := by omega
    obtain ⟨b, hbt⟩ : ∃ b : UInt8, b = UInt8.ofNat (48 + n / 10 ^ k % 10) := ⟨_, rfl⟩
    have hbn : (b.toNat : Int) = 48 + y % 10 := by rw [hbt, Dc.dig, hy.out]; omega
    have HB := hid hbt
    have HBN := hid hbn
    have HL := hid hl
    have HLOW := hid hlow
    have HNK := hid hn
    clear hbt hbn hlow hl hn
    by_cases hlt : k < K
    · have next : Hid (b :: L = Dc.pad n (k + 1)) := by unfold Hid; rw [Dc.pad_front, ← HB.out, hL.out]
      have nexty : Hid (y / 10 = ((n / 10 ^ (k + 1) : Nat) : Int)) := by
        unfold Hid
        rw [hy.out, Nat.pow_succ, ← Nat.div_div_eq_div_mul]; rfl
      by_cases hpos : 0 < y
      · have hcv := conv_one wr (48 + y % 10) b HBN.out
        go_wp2
        go_round
        case rel => exact ⟨k + 1, y / 10, b :: L, by omega, rfl, by rw [show #[b] = [b].toArray from rfl, mk_app]; rfl, nexty, next, up_trans hb (up_alloc _ _)⟩
        case measure => have := HL.out; simp only [strLen, ByteArray.size_append, size_mk, show (ByteArray.mk #[b]).size = 1 from rfl]; simp; omega
      · have hy0 : y = 0 := by omega
        subst hy0
        have hcv := conv_one wr 48 b (by rw [HBN.out]; rfl)
        by_cases hk0 : k = 0
        · obtain rfl : L = [] := List.eq_nil_of_length_eq_zero (by rw [HL.out, hk0])
          go_wp2
          go_round
          case rel => exact ⟨k + 1, 0, [b], by omega, rfl, by rw [show #[b] = [b].toArray from rfl, show (#[] : Array UInt8) = ([] : List UInt8).toArray from rfl, mk_app]; rfl, nexty, next, up_trans hb (up_alloc _ _)⟩
          case measure => simp only [strLen, ByteArray.size_append]; exact (by decide : 31 - (1 + 0) < 31 - 0)
        · have hkw : k < width := by
            rcases HLOW.out k hlt with h | h | h
            · exact absurd h hk0
            · exact h
            · have h2 : 0 < n / 10 ^ k := Nat.div_pos h (Nat.pow_pos (by decide))
              have := hy.out
              omega
          have hne : L.isEmpty = false := by
            have := HL.out
            cases L with
            | nil => simp at this; omega
            | cons _ _ => rfl
          have hlw : L.length < width := by rw [HL.out]; exact hkw
          go_wp2
          go_round
          case rel => exact ⟨k + 1, 0, b :: L, by omega, rfl, by rw [show #[b] = [b].toArray from rfl, mk_app]; rfl, nexty, next, up_trans hb (up_alloc _ _)⟩
          case measure => have := HL.out; simp only [strLen, ByteArray.size_append, size_mk, show (ByteArray.mk #[b]).size = 1 from rfl]; simp; omega
    · obtain rfl : k = K := by omega
      have hy0 : y = 0 := by rw [hy.out, Nat.div_eq_of_lt HNK.out]; rfl
      subst hy0
      have hne : L.isEmpty = false := by
        have := HL.out
        cases L with
        | nil => simp at this; omega
        | cons _ _ => rfl
      have hlw : ¬ L.length < width := by rw [HL.out]; omega
      go_wp2
      go_ret
      rw [← hL.out]
      exact ⟨rfl, hb⟩
set_option maxHeartbeats 1000000 in
theorem rtext_p0 (m : Int) (A : ByteArray) (w : World) (h0 : 0 ≤ m) (h1 : m < 1000000000000000000) (hA : A.size ≤ 100)
    (HI : Hid (∀ w, Calls Tryd.prog 30 #[.int .i64 m, .int .i64 1] w fun e w' => e = .returned (.string A) ∧ Below w.heap.size w w')) :
    Calls Tryd.prog 18 #[.int .i64 m, .int .i64 0] w fun e w' => e = .returned (.string (⟨#[]⟩ ++ A)) ∧ Below w.heap.size w w' := by
  have HP : Hid (∀ w, Calls Tryd.prog 20 #[.int .i64 0] w fun e w' => e = .returned (.int .i64 1) ∧ w' = w) := fun w => rten_any 0 w (by omega)
  go_enter Tryd.func18, Tryd.ntmps18
  go_wp2_with fail
  refine (HP.out _).mono ?_
  rintro e w2 ⟨rfl, rfl⟩
  go_wp2_with fail
  refine (HI.out _).mono ?_
  rintro e w3 ⟨rfl, b3⟩
  go_wp2
  go_ret
  exact ⟨rfl, b3⟩

set_option maxHeartbeats 1000000 in
theorem rtext_ps (m s p q r : Int) (A B : ByteArray) (w : World) (h0 : 0 ≤ m) (h1 : m < 1000000000000000000) (s0 : 0 < s) (_s1 : s ≤ 18) (hp0 : 0 < p) (hp1 : p ≤ 1000000000000000000)
    (hq : m.tdiv p = q) (hr : m.tmod p = r) (_hr0 : 0 ≤ r) (_hr1 : r < p) (hq0 : 0 ≤ q) (hq1 : q ≤ 1000000000000000000) (hA : A.size ≤ 100) (hB' : B.size ≤ 100)
    (HP : Hid (∀ w, Calls Tryd.prog 20 #[.int .i64 s] w fun e w' => e = .returned (.int .i64 p) ∧ w' = w))
    (HI : Hid (∀ w, Calls Tryd.prog 30 #[.int .i64 q, .int .i64 1] w fun e w' => e = .returned (.string A) ∧ Below w.heap.size w w'))
    (HJ : Hid (∀ w, Calls Tryd.prog 30 #[.int .i64 r, .int .i64 s] w fun e w' => e = .returned (.string B) ∧ Below w.heap.size w w')) :
    Calls Tryd.prog 18 #[.int .i64 m, .int .i64 s] w fun e w' => e = .returned (.string (⟨#[]⟩ ++ A ++ ⟨#[46]⟩ ++ B)) ∧ Below w.heap.size w w' := by
  go_enter Tryd.func18, Tryd.ntmps18
  go_wp2_with fail
  refine (HP.out _).mono ?_
  rintro e w2 ⟨rfl, rfl⟩
  go_wp2_with fail
  refine (HI.out _).mono ?_
  rintro e w3 ⟨rfl, b3⟩
  go_wp2_with fail
  refine (HJ.out _).mono ?_
  rintro e w4 ⟨rfl, b4⟩
  go_wp2
  go_ret
  exact ⟨rfl, up_trans b3 b4⟩

set_option maxHeartbeats 1000000 in
theorem rtext_n0 (m : Int) (A : ByteArray) (w : World) (h0 : m < 0) (h1 : -1000000000000000000 < m) (hA : A.size ≤ 100)
    (HI : Hid (∀ w, Calls Tryd.prog 30 #[.int .i64 (-m), .int .i64 1] w fun e w' => e = .returned (.string A) ∧ Below w.heap.size w w')) :
    Calls Tryd.prog 18 #[.int .i64 m, .int .i64 0] w fun e w' => e = .returned (.string (⟨#[45]⟩ ++ A)) ∧ Below w.heap.size w w' := by
  have HP : Hid (∀ w, Calls Tryd.prog 20 #[.int .i64 0] w fun e w' => e = .returned (.int .i64 1) ∧ w' = w) := fun w => rten_any 0 w (by omega)
  go_enter Tryd.func18, Tryd.ntmps18
  go_wp2_with fail
  refine (HP.out _).mono ?_
  rintro e w2 ⟨rfl, rfl⟩
  go_wp2_with fail
  refine (HI.out _).mono ?_
  rintro e w3 ⟨rfl, b3⟩
  go_wp2
  go_ret
  exact ⟨rfl, b3⟩

set_option maxHeartbeats 1000000 in
theorem rtext_ns (m s p q r : Int) (A B : ByteArray) (w : World) (h0 : m < 0) (h1 : -1000000000000000000 < m) (s0 : 0 < s) (_s1 : s ≤ 18) (hp0 : 0 < p) (hp1 : p ≤ 1000000000000000000)
    (hq : (-m).tdiv p = q) (hr : (-m).tmod p = r) (_hr0 : 0 ≤ r) (_hr1 : r < p) (hq0 : 0 ≤ q) (hq1 : q ≤ 1000000000000000000) (hA : A.size ≤ 100) (hB' : B.size ≤ 100)
    (HP : Hid (∀ w, Calls Tryd.prog 20 #[.int .i64 s] w fun e w' => e = .returned (.int .i64 p) ∧ w' = w))
    (HI : Hid (∀ w, Calls Tryd.prog 30 #[.int .i64 q, .int .i64 1] w fun e w' => e = .returned (.string A) ∧ Below w.heap.size w w'))
    (HJ : Hid (∀ w, Calls Tryd.prog 30 #[.int .i64 r, .int .i64 s] w fun e w' => e = .returned (.string B) ∧ Below w.heap.size w w')) :
    Calls Tryd.prog 18 #[.int .i64 m, .int .i64 s] w fun e w' => e = .returned (.string (⟨#[45]⟩ ++ A ++ ⟨#[46]⟩ ++ B)) ∧ Below w.heap.size w w' := by
  go_enter Tryd.func18, Tryd.ntmps18
  go_wp2_with fail
  refine (HP.out _).mono ?_
  rintro e w2 ⟨rfl, rfl⟩
  go_wp2_with fail
  refine (HI.out _).mono ?_
  rintro e w3 ⟨rfl, b3⟩
  go_wp2_with fail
  refine (HJ.out _).mono ?_
  rintro e w4 ⟨rfl, b4⟩
  go_wp2
  go_ret
  exact ⟨rfl, up_trans b3 b4⟩

theorem rdig_dec (u : Nat) (w : World) (h : u < 1000000000000000000) :
    Calls Tryd.prog 30 #[.int .i64 u, .int .i64 1] w fun e w' => e = .returned (.string ⟨(Lib.decDigits u).toArray⟩) ∧ Below w.heap.size w w' := by
  have h30 := nd_le u (by omega)
  have := rdigits_any u 1 (Lib.nDigits u) w (Lib.nDigits_pos u) (Lib.nDigits_pos u) h30 (Lib.lt_pow_nDigits u) h (fun k hk => by
    rcases Dc.nDigits_low u k hk with h | h
    · exact Or.inl h
    · exact Or.inr (Or.inr h))
  rwa [← Dc.dec_pad] at this
theorem rdig_pad (r s : Nat) (w : World) (hs : 1 ≤ s) (hs' : s ≤ 18) (hr : r < 10 ^ s) (h : r < 1000000000000000000) :
    Calls Tryd.prog 30 #[.int .i64 r, .int .i64 s] w fun e w' => e = .returned (.string ⟨(Dc.pad r s).toArray⟩) ∧ Below w.heap.size w w' :=
  rdigits_any r s s w hs (Nat.le_refl _) (by omega) hr h (fun k hk => Or.inr (Or.inl hk))

theorem rtext_any (m : Int) (s : Nat) (w : World) (hs : s ≤ 18) (h0 : -1000000000000000000 < m) (h1 : m < 1000000000000000000) :
    Calls Tryd.prog 18 #[.int .i64 m, .int .i64 s] w fun e w' => e = .returned (.string ⟨(Dc.text m s).toArray⟩) ∧ Below w.heap.size w w' := by
  obtain ⟨a, ha⟩ : ∃ a : Nat, a = m.natAbs := ⟨_, rfl⟩
  have a1 : a < 1000000000000000000 := by omega
  by_cases hz : s = 0
  · subst hz
    have HI : Hid (∀ w, Calls Tryd.prog 30 #[.int .i64 (a : Int), .int .i64 1] w fun e w' => e = .returned (.string ⟨(Lib.decDigits a).toArray⟩) ∧ Below w.heap.size w w') := fun w => rdig_dec a w a1
    have hA := dd_size a (by omega)
    by_cases hm : m < 0
    · rw [show (a : Int) = -m by omega] at HI
      have := rtext_n0 m _ w hm h0 hA HI
      have e : Dc.text m 0 = [45] ++ Lib.decDigits a := by unfold Dc.text Dc.sgn; rw [if_pos hm, ← ha]; simp
      rw [e, ← mk_app]; exact this
    · rw [show (a : Int) = m by omega] at HI
      have := rtext_p0 m _ w (by omega) h1 hA HI
      have e : Dc.text m 0 = [] ++ Lib.decDigits a := by unfold Dc.text Dc.sgn; rw [if_neg hm, ← ha]; simp
      rw [e, ← mk_app]; exact this
  · have hp : 0 < 10 ^ s := Nat.pow_pos (by decide)
    have hp18 : 10 ^ s ≤ 1000000000000000000 := by
      have := (ten_bd s hs).2
      rw [ten_nat] at this
      omega
    have hr1 : a % 10 ^ s < 10 ^ s := Nat.mod_lt _ hp
    have hq1 : a / 10 ^ s ≤ a := Nat.div_le_self _ _
    have HP : Hid (∀ w, Calls Tryd.prog 20 #[.int .i64 s] w fun e w' => e = .returned (.int .i64 ((10 ^ s : Nat) : Int)) ∧ w' = w) := fun w => by
      have := rten_any s w hs
      rwa [ten_nat] at this
    have HI : Hid (∀ w, Calls Tryd.prog 30 #[.int .i64 ((a / 10 ^ s : Nat) : Int), .int .i64 1] w fun e w' => e = .returned (.string ⟨(Lib.decDigits (a / 10 ^ s)).toArray⟩) ∧ Below w.heap.size w w') := fun w => rdig_dec _ w (by omega)
    have HJ : Hid (∀ w, Calls Tryd.prog 30 #[.int .i64 ((a % 10 ^ s : Nat) : Int), .int .i64 s] w fun e w' => e = .returned (.string ⟨(Dc.pad (a % 10 ^ s) s).toArray⟩) ∧ Below w.heap.size w w') := fun w => rdig_pad _ s w (by omega) hs hr1 (by omega)
    have hA := dd_size (a / 10 ^ s) (by omega)
    have hB : (ByteArray.mk (Dc.pad (a % 10 ^ s) s).toArray).size = s := by rw [size_mk, Dc.pad_length]
    have eq : (a : Int).tdiv ((10 ^ s : Nat) : Int) = ((a / 10 ^ s : Nat) : Int) := rfl
    have er : (a : Int).tmod ((10 ^ s : Nat) : Int) = ((a % 10 ^ s : Nat) : Int) := rfl
    by_cases hm : m < 0
    · rw [show (a : Int) = -m by omega] at eq er
      have := rtext_ns m s _ _ _ _ _ w hm h0 (by omega) (by omega) (by omega) (by omega) eq er (Int.natCast_nonneg _) (by omega) (Int.natCast_nonneg _) (by omega) hA (by omega) HP HI HJ
      have e : Dc.text m s = [45] ++ Lib.decDigits (a / 10 ^ s) ++ [46] ++ Dc.pad (a % 10 ^ s) s := by unfold Dc.text Dc.sgn; rw [if_pos hm, if_neg hz, ← ha]; simp
      rw [e, ← mk_app, ← mk_app, ← mk_app]; exact this
    · rw [show (a : Int) = m by omega] at eq er
      have := rtext_ps m s _ _ _ _ _ w (by omega) h1 (by omega) (by omega) (by omega) (by omega) eq er (Int.natCast_nonneg _) (by omega) (Int.natCast_nonneg _) (by omega) hA (by omega) HP HI HJ
      have e : Dc.text m s = [] ++ Lib.decDigits (a / 10 ^ s) ++ [46] ++ Dc.pad (a % 10 ^ s) s := by unfold Dc.text Dc.sgn; rw [if_neg hm, if_neg hz, ← ha]; simp
      rw [e, ← mk_app, ← mk_app, ← mk_app]; exact this
end Go.Proofs.YtoklknioeoodbaaDoor
