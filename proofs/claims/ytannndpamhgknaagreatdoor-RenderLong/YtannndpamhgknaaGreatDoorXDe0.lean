/- DeMath, DeLeaf, DeStrip, DeMain, DeRef, DeTextMath, DeShelf, DeText: these texts, one behind the other. -/
import Derived.Test.YtannndpamhgknaaGreatDoorProg
import Derived.WalkKit
import Derived.WalkSpells
import Derived.WalkSmall
import Derived.WalkMore
import Derived.ScopeJumps
import Derived.Deep.QuietTactic
import Derived.BigQuiet
import Derived.Lib.ItoaNum
import Derived.Lib.ItoaMem
import Derived.Shelf.LaysM
import Derived.Shelf.Strconv.Itoa3
import Derived.Lib.AppendIntMem
/- Plain facts on decimals: norms, scales, parts ahead of the point and behind it, order; no program is spoken of. -/
namespace Go.Proofs.YtannndpamhgknaaGreatDoor.De
namespace Dc
def ten (n : Nat) : Int := 10 ^ n
theorem ten0 : ten 0 = 1 := rfl
theorem tenS (n : Nat) : ten (n + 1) = 10 * ten n := by unfold ten; rw [Int.pow_succ, Int.mul_comm]
theorem ten_pos (n : Nat) : 0 < ten n := by unfold ten; exact Int.pow_pos (by decide)
theorem ten_add (a b : Nat) : ten (a + b) = ten a * ten b := by unfold ten; exact Int.pow_add _ _ _
theorem ten_le {a b : Nat} (h : a ≤ b) : ten a ≤ ten b := by
  obtain ⟨c, rfl⟩ := Nat.le.dest h
  rw [ten_add]
  have h1 := ten_pos a
  have h2 := ten_pos c
  have := Int.mul_le_mul_of_nonneg_left (show 1 ≤ ten c by omega) (show 0 ≤ ten a by omega)
  omega
theorem ten18 : ten 18 = 1000000000000000000 := by decide

/-- the normed decimal -/
def norm : Int → Nat → Int × Nat
  | m, 0 => (m, 0)
  | m, s + 1 => if m % 10 = 0 then norm (m / 10) s else (m, s + 1)
theorem norm_le : ∀ (s : Nat) (m : Int), (norm m s).2 ≤ s
  | 0, m => by simp [norm]
  | s + 1, m => by
    unfold norm; split
    · have := norm_le s (m / 10); omega
    · simp
theorem norm_eq : ∀ (s : Nat) (m : Int), m = (norm m s).1 * ten (s - (norm m s).2)
  | 0, m => by simp [norm, ten0]
  | s + 1, m => by
    unfold norm; split
    · have h := norm_eq s (m / 10)
      have hl := norm_le s (m / 10)
      rw [show s + 1 - (norm (m / 10) s).2 = (s - (norm (m / 10) s).2) + 1 by omega, tenS]
      have h2 : m = 10 * (m / 10) := by omega
      rw [← Int.mul_assoc, Int.mul_comm _ 10, Int.mul_assoc, ← h]; exact h2
    · simp [ten0]
theorem norm_short : ∀ (s : Nat) (m : Int), (norm m s).2 = 0 ∨ (norm m s).1 % 10 ≠ 0
  | 0, m => by simp [norm]
  | s + 1, m => by
    unfold norm; split
    · exact norm_short s (m / 10)
    · rename_i h; exact Or.inr h
theorem norm_bd (s : Nat) (m : Int) (b : Int) (h0 : -b < m) (h1 : m < b) : -b < (norm m s).1 ∧ (norm m s).1 < b := by
  have h := norm_eq s m
  have hp := ten_pos (s - (norm m s).2)
  generalize ten (s - (norm m s).2) = p at *
  generalize (norm m s).1 = n at *
  by_cases hn : 0 ≤ n
  · have := Int.mul_le_mul_of_nonneg_left (show 1 ≤ p by omega) hn
    omega
  · have := Int.mul_le_mul_of_nonneg_left (show 1 ≤ p by omega) (show 0 ≤ -n by omega)
    rw [Int.neg_mul, Int.neg_mul] at this
    omega

/-- order -/
def ord (a b : Int) : Int := if a < b then -1 else if b < a then 1 else 0
def hi (m : Int) (s : Nat) : Int := m.tdiv (ten s)
def lo (m : Int) (s : Nat) : Int := m.tmod (ten s) * ten (18 - s)
def val (m : Int) (s : Nat) : Int := m * ten (18 - s)

theorem parts (m : Int) (s : Nat) (hs : s ≤ 18) : val m s = hi m s * 1000000000000000000 + lo m s ∧ -1000000000000000000 < lo m s ∧ lo m s < 1000000000000000000 ∧ (0 < hi m s → 0 ≤ lo m s) ∧ (hi m s < 0 → lo m s ≤ 0) := by
  have hp := ten_pos s
  have hq := ten_pos (18 - s)
  have e18 : ten s * ten (18 - s) = 1000000000000000000 := by rw [← ten_add, show s + (18 - s) = 18 by omega, ten18]
  have h : m.tmod (ten s) + ten s * m.tdiv (ten s) = m := Int.tmod_add_mul_tdiv m (ten s)
  unfold val hi lo
  have l0 : 0 ≤ m → 0 ≤ m.tmod (ten s) := fun h => Int.tmod_nonneg _ h
  have l1 : m < 0 → m.tmod (ten s) ≤ 0 := fun h => by
    have := Int.tmod_nonneg (a := -m) (ten s) (by omega)
    rw [Int.neg_tmod] at this; omega
  have q0 : 0 ≤ m → 0 ≤ m.tdiv (ten s) := fun h => Int.tdiv_nonneg h (by omega)
  have q1 : m < 0 → m.tdiv (ten s) ≤ 0 := fun h => by
    have := Int.tdiv_nonneg (a := -m) (b := ten s) (by omega) (by omega)
    rw [Int.neg_tdiv] at this; omega
  have a1 := Int.tmod_lt_of_pos m hp
  have a2 : -ten s < m.tmod (ten s) := by
    have := Int.tmod_lt_of_pos (-m) hp
    rw [Int.neg_tmod] at this; omega
  generalize m.tmod (ten s) = r at *
  generalize m.tdiv (ten s) = q at *
  generalize ten (18 - s) = y at *
  generalize ten s = x at *
  refine ⟨?_, ?_, ?_, ?_, ?_⟩
  · rw [← h, Int.add_mul, Int.mul_comm x q, Int.mul_assoc, e18]; omega
  · have := Int.mul_lt_mul_of_pos_right a2 hq
    rw [Int.neg_mul, e18] at this; omega
  · have := Int.mul_lt_mul_of_pos_right a1 hq
    rw [e18] at this; omega
  · intro hq0
    by_cases hm : 0 ≤ m
    · exact Int.mul_nonneg (l0 hm) (by omega)
    · have := q1 (by omega); omega
  · intro hq0
    by_cases hm : 0 ≤ m
    · have := q0 hm; omega
    · have := Int.mul_le_mul_of_nonneg_right (l1 (by omega)) (show 0 ≤ y by omega)
      omega

theorem ord_self (a : Int) : ord a a = 0 := by unfold ord; rw [if_neg (by omega), if_neg (by omega)]
theorem ord_lt {a b : Int} (h : a < b) : ord a b = -1 := by unfold ord; rw [if_pos h]
theorem ord_gt {a b : Int} (h : b < a) : ord a b = 1 := by unfold ord; rw [if_neg (by omega), if_pos h]
end Dc
end Go.Proofs.YtannndpamhgknaaGreatDoor.De

/- What the small functions of package dec and of the reference answer: bounds, powers of ten, a decimal in memory made longer or shorter by one digit; each for every argument in the stated range. -/
namespace Go.Proofs.YtannndpamhgknaaGreatDoor.De
open Go.RowKit

theorem hid {p : Prop} (h : p) : Hid p := h
theorem ret_int {k : IntKind} {a b : Int} (h : a = b) : Ending.returned (.int k a) = .returned (.int k b) := by rw [h]
theorem ret_bool {a b : Bool} (h : a = b) : Ending.returned (.bool a) = .returned (.bool b) := by rw [h]
theorem up_trans {w w1 w2 : World} (h : Below w.heap.size w w1) (k : Below w1.heap.size w1 w2) : Below w.heap.size w w2 := h.trans (k.mono h.size)
theorem up_alloc (w : World) (o : Obj) : Below w.heap.size w (w.alloc o) := (Below.refl _ _).alloc (Nat.le_refl _) o

theorem tm0 (n d : Int) (hd : 0 < d) : n.tmod d = 0 ↔ n % d = 0 := by
  have h4 := Int.emod_nonneg n (show d ≠ 0 by omega)
  have h5 := Int.emod_lt_of_pos n hd
  rw [Int.tmod_eq_emod]
  split
  · omega
  · rename_i hc
    have : ¬ d ∣ n := fun h => hc (Or.inr h)
    have h6 : n % d ≠ 0 := fun h => this (Int.dvd_of_emod_eq_zero h)
    constructor
    · intro h; omega
    · intro h; exact absurd h h6
theorem td0 (n d : Int) (h : n % d = 0) : n.tdiv d = n / d := by
  rw [Int.tdiv_eq_ediv]
  rw [if_pos (Or.inr (Int.dvd_of_emod_eq_zero h))]; omega

/-- a decimal in memory -/
def DA (b : Nat) (m s : Int) (w : World) : Prop := w.heap[b]? = some (.cells #[.int .i64 m, .int .i64 s] 162)
theorem DA.c0 {b : Nat} {m s : Int} {w : World} (h : DA b m s w) : w.cell? ⟨b, 0, none⟩ = some (.int .i64 m) := by unfold DA at h; simp [World.cell?, h]
theorem DA.c1 {b : Nat} {m s : Int} {w : World} (h : DA b m s w) : w.cell? ⟨b, 1, none⟩ = some (.int .i64 s) := by unfold DA at h; simp [World.cell?, h]
theorem DA.f {b : Nat} {m s : Int} {w : World} (h : DA b m s w) (o : Nat) : w.frozen? ⟨b, o, none⟩ = false := by unfold DA at h; simp [World.frozen?, h]
theorem DA.on {b B : Nat} {m s : Int} {w w' : World} (h : DA b m s w) (hb : Below B w w') (hB : b < B) : DA b m s w' := by unfold DA; rw [hb.block b hB]; exact h
theorem DA.size {b : Nat} {m s : Int} {w : World} (h : DA b m s w) : b < w.heap.size := by
  unfold DA at h
  exact (Array.getElem?_eq_some_iff.1 h).1
theorem DA.drew {b : Nat} {m s : Int} {w : World} (h : DA b m s w) : DA b m s w.drew := h
theorem DA.drewN {b : Nat} {m s : Int} {w : World} (h : DA b m s w) (n : Nat) : DA b m s (w.drewN n) := h
theorem DA.set0 {b : Nat} {m s : Int} {w : World} (h : DA b m s w) (m' : Int) : DA b m' s (w.setCell ⟨b, 0, none⟩ (.int .i64 m')) := by
  unfold DA at *
  simp [World.setCell, Array.getElem?_modify, h]
theorem DA.set1 {b : Nat} {m s : Int} {w : World} (h : DA b m s w) (s' : Int) : DA b m s' (w.setCell ⟨b, 1, none⟩ (.int .i64 s')) := by
  unfold DA at *
  simp [World.setCell, Array.getElem?_modify, h]
theorem DA.new (w : World) (m s : Int) : DA w.heap.size m s (w.alloc (.cells #[.int .i64 m, .int .i64 s] 162)) := by
  unfold DA; show (w.heap.push _)[w.heap.size]? = _; simp

def inB (n a b : Int) : Bool := decide (a ≤ n) && decide (n ≤ b)
set_option maxHeartbeats 400000 in
theorem dwithin_any (n a b : Int) (w : World) :
    Calls Tryz.prog 143 #[.int .i64 n, .int .i64 a, .int .i64 b] w fun e w' => e = .returned (.bool (inB n a b)) ∧ w' = w := by
  by_cases h1 : a ≤ n
  · by_cases h2 : n ≤ b
    · go_enter Tryz.func143, Tryz.ntmps143
      go_wp2
      go_ret
      exact ⟨ret_bool (by simp [inB, h1, h2]), rfl⟩
    · go_enter Tryz.func143, Tryz.ntmps143
      go_wp2
      go_ret
      exact ⟨ret_bool (by simp [inB, h1, h2]), rfl⟩
  · go_enter Tryz.func143, Tryz.ntmps143
    go_wp2
    go_ret
    exact ⟨ret_bool (by rw [inB, decide_eq_false (by omega), Bool.false_and]), rfl⟩
theorem inB_true {n a b : Int} (h : a ≤ n) (h' : n ≤ b) : inB n a b = true := by simp [inB, h, h']
theorem dwithin_in (n a b : Int) (w : World) (h : a ≤ n) (h' : n ≤ b) :
    Calls Tryz.prog 143 #[.int .i64 n, .int .i64 a, .int .i64 b] w fun e w' => e = .returned (.bool true) ∧ w' = w := by
  rw [← inB_true h h']; exact dwithin_any n a b w

set_option maxHeartbeats 400000 in
theorem isRight_yes (m s : Int) (w : World) (h0 : -1000000000000000000 < m) (h1 : m < 1000000000000000000) (h2 : 0 ≤ s) (h3 : s ≤ 18) :
    Calls Tryz.prog 127 #[.agg #[.int .i64 m, .int .i64 s]] w fun e w' => e = .returned (.bool true) ∧ Below w.heap.size w w' := by
  have HM : Hid (∀ w, Calls Tryz.prog 143 #[.int .i64 m, .int .i64 (-999999999999999999), .int .i64 999999999999999999] w fun e w' => e = .returned (.bool true) ∧ w' = w) := fun w => dwithin_in m _ _ w (by omega) (by omega)
  have HS : Hid (∀ w, Calls Tryz.prog 143 #[.int .i64 s, .int .i64 0, .int .i64 18] w fun e w' => e = .returned (.bool true) ∧ w' = w) := fun w => dwithin_in s _ _ w h2 h3
  clear h0 h1 h2 h3
  go_enter Tryz.func127, Tryz.ntmps127
  go_wp2_with fail
  refine (HM.out _).mono ?_
  rintro e w1 ⟨rfl, rfl⟩
  go_wp2_with fail
  refine (HS.out _).mono ?_
  rintro e w1 ⟨rfl, rfl⟩
  go_wp2
  go_ret
  exact ⟨rfl, up_alloc _ _⟩

theorem powS (n : Nat) : Dc.ten n * 10 = Dc.ten (n + 1) := by rw [Dc.tenS, Int.mul_comm]
theorem ten_bd (n : Nat) (h : n ≤ 18) : 1 ≤ Dc.ten n ∧ Dc.ten n ≤ 1000000000000000000 := by
  have := Dc.ten_pos n
  have := Dc.ten_le h
  rw [Dc.ten18] at this
  omega
theorem ten_bd' (n : Nat) (h : n < 18) : Dc.ten n ≤ 100000000000000000 := by
  have := Dc.ten_le (show n ≤ 17 by omega)
  have e : Dc.ten 17 = 100000000000000000 := by decide
  omega

set_option maxHeartbeats 400000 in
theorem power_any (n : Nat) (w : World) (hn : n ≤ 18) :
    Calls Tryz.prog 134 #[.int .i64 n] w fun e w' => e = .returned (.int .i64 (Dc.ten n)) ∧ w' = w := by
  go_enter Tryz.func134, Tryz.ntmps134
  go_wp2_with fail
  go_loop [3, 5] (fun p i => ∃ k : Nat, k ≤ n ∧ i = .int .i64 k ∧ p = .int .i64 (Dc.ten k)) (fun _ i => (19 - intOf i).toNat)
  case atStart => exact ⟨0, by omega, rfl, rfl⟩
  case round =>
    obtain ⟨k, hk, rfl, rfl⟩ := hrel
    by_cases hlt : k < n
    · have b1 := Dc.ten_pos k
      have b2 := ten_bd' k (by omega)
      go_wp2
      go_round
      case rel => exact ⟨k + 1, by omega, by go_num, by rw [powS]⟩
      case measure => simp [intOf]; omega
    · obtain rfl : k = n := by omega
      go_wp2
      go_ret
      exact ⟨rfl, rfl⟩

set_option maxHeartbeats 400000 in
theorem nan_any (a : Int) (w : World) :
    Calls Tryz.prog 129 #[.int .i64 a] w fun e w' => e = .returned (.bool false) ∧ w' = w := by
  go_enter Tryz.func129, Tryz.ntmps129
  go_wp2
  go_ret
  exact ⟨rfl, rfl⟩

set_option maxHeartbeats 400000 in
theorem compare_any (a b : Int) (w : World) :
    Calls Tryz.prog 113 #[.int .i64 a, .int .i64 b] w fun e w' => e = .returned (.int .i64 (Dc.ord a b)) ∧ w' = w := by
  have h : a < b ∨ b < a ∨ a = b := by omega
  rcases h with h | h | h
  · rw [Dc.ord_lt h]
    go_enter Tryz.func113, Tryz.ntmps113
    go_wp2_with (go_at_call 129; refine (nan_any _ _).mono ?_; rintro e w' ⟨rfl, rfl⟩)
    go_ret
    exact ⟨rfl, rfl⟩
  · rw [Dc.ord_gt h]
    go_enter Tryz.func113, Tryz.ntmps113
    go_wp2_with (go_at_call 129; refine (nan_any _ _).mono ?_; rintro e w' ⟨rfl, rfl⟩)
    go_ret
    exact ⟨rfl, rfl⟩
  · subst h
    rw [Dc.ord_self]
    go_enter Tryz.func113, Tryz.ntmps113
    go_wp2_with (go_at_call 129; refine (nan_any _ _).mono ?_; rintro e w' ⟨rfl, rfl⟩)
    go_ret
    exact ⟨rfl, rfl⟩

set_option maxHeartbeats 400000 in
theorem shorter_zero (b : Nat) (m : Int) (w : World) (h : DA b m 0 w) :
    Calls Tryz.prog 144 #[.pointer (some ⟨b, 0, none⟩)] w fun e w' => e = .returned (.bool false) ∧ w' = w := by
  have hc := h.c1
  clear h
  go_enter Tryz.func144, Tryz.ntmps144
  go_wp2
  go_ret
  exact ⟨rfl, rfl⟩

set_option maxHeartbeats 400000 in
theorem shorter_no (b : Nat) (m s : Int) (w : World) (h : DA b m s w) (hs : 0 < s) (hm : ¬ m % 10 = 0) :
    Calls Tryz.prog 144 #[.pointer (some ⟨b, 0, none⟩)] w fun e w' => e = .returned (.bool false) ∧ w' = w := by
  have hc := h.c1
  have hc0 := h.c0
  rw [← tm0 m 10 (by decide)] at hm
  have hm' : (m.tmod 10 != 0) = true := by simpa using hm
  have hs' : (s == 0) = false := by simp; omega
  clear h hm
  go_enter Tryz.func144, Tryz.ntmps144
  go_wp2
  go_ret
  exact ⟨rfl, rfl⟩

set_option maxHeartbeats 1000000 in
theorem shorter_yes (b : Nat) (m s : Int) (w : World) (h : DA b m s w) (hs : 0 < s) (hs' : s ≤ 18) (hm : m % 10 = 0) (h0 : -1000000000000000000 < m) (h1 : m < 1000000000000000000) :
    Calls Tryz.prog 144 #[.pointer (some ⟨b, 0, none⟩)] w fun e w' => e = .returned (.bool true) ∧ DA b (m / 10) (s - 1) w' ∧ Below b w w' := by
  have hc := h.c1
  have hc0 := h.c0
  have f0 := h.f 0
  have f1 := h.f 1
  have H := hid h
  have hw : wrap64 (m.tdiv 10) = m.tdiv 10 := by rw [td0 m 10 hm]; exact IntWalk.wrap64_in _ (by omega)
  have hc1' := (h.set0 (m.tdiv 10)).c1
  have f1' := (h.set0 (m.tdiv 10)).f 1
  have HE := hid (td0 m 10 hm)
  rw [← tm0 m 10 (by decide)] at hm
  have hm' : (m.tmod 10 != 0) = false := by simpa using hm
  have hs2 : (s == 0) = false := by simp; omega
  clear h hm
  go_enter Tryz.func144, Tryz.ntmps144
  go_wp2
  go_region
  all_goals
    go_wp2
    go_ret
    rw [← HE.out]
    refine ⟨rfl, ((H.out.set0 _).set1 _), ?_⟩
    first | exact (((Below.refl b w).setCell (Nat.le_refl _) _).setCell (Nat.le_refl _) _).drew

end Go.Proofs.YtannndpamhgknaaGreatDoor.De

/- A decimal in memory stripped of the zeros that end it, and brought to so many digits behind the point: what the loops of package dec leave. -/
namespace Go.Proofs.YtannndpamhgknaaGreatDoor.De
open Go.RowKit

def scaleAt (b : Nat) (w : World) : Nat := match w.cell? ⟨b, 1, none⟩ with | some (.int _ q) => q.toNat | _ => 0
theorem scaleAt_of {b : Nat} {m s : Int} {w : World} (h : DA b m s w) : scaleAt b w = s.toNat := by unfold scaleAt; rw [h.c1]

/-- one step of the norm -/
theorem norm_step (m : Int) (s : Nat) (hs : 0 < s) (hm : m % 10 = 0) : Dc.norm m s = Dc.norm (m / 10) (s - 1) := by
  obtain ⟨k, rfl⟩ : ∃ k, s = k + 1 := ⟨s - 1, by omega⟩
  rw [Dc.norm, if_pos hm]; rfl
theorem norm_stop (m : Int) (s : Nat) (h : s = 0 ∨ ¬ m % 10 = 0) : Dc.norm m s = (m, s) := by
  cases s with
  | zero => rfl
  | succ k => rw [Dc.norm, if_neg (by omega)]

set_option maxRecDepth 100000 in
set_option maxHeartbeats 1000000 in
theorem strip_any (b : Nat) (m : Int) (s : Nat) (w : World) (h : DA b m s w) (hs : s ≤ 18) (h0 : -1000000000000000000 < m) (h1 : m < 1000000000000000000) :
    Calls Tryz.prog 128 #[.pointer (some ⟨b, 0, none⟩)] w fun e w' => e = .returned (.tuple #[]) ∧ DA b (Dc.norm m s).1 (Dc.norm m s).2 w' ∧ Below b w w' := by
  go_enter Tryz.func128, Tryz.ntmps128
  go_wp2
  refine wp_scope_jumps 0 (fun a' w' => ∃ (n : Int) (t : Nat) (u2 u3 : Value), a' = { tmps := #[.pointer (some ⟨b, 0, none⟩), undef, u2, u3], defers := [] } ∧ DA b n t w' ∧ t ≤ 18 ∧ -1000000000000000000 < n ∧ n < 1000000000000000000 ∧ Hid (Dc.norm n t = Dc.norm m s) ∧ Below b w w') (fun _ w' => scaleAt b w') rfl ?_ ?_
  · go_wp2
    go_step3
    by_cases hz : s = 0 ∨ ¬ m % 10 = 0
    · have HN := hid (norm_stop m s hz)
      have HC : Hid (∀ w, DA b m s w → Calls Tryz.prog 144 #[.pointer (some ⟨b, 0, none⟩)] w fun e w' => e = .returned (.bool false) ∧ w' = w) := fun w h => by
        by_cases h5 : s = 0
        · subst h5; exact shorter_zero b m w h
        · exact shorter_no b m s w h (by omega) (by omega)
      go_wp2_with fail
      refine (HC.out _ h).mono ?_
      rintro e w1 ⟨rfl, rfl⟩
      go_wp2
      simp only [Exit.jump]
      go_end0
      rw [HN.out]
      exact ⟨rfl, h, Below.refl _ _⟩
    · have hm : m % 10 = 0 := by omega
      have HN := hid (norm_step m s (by omega) hm)
      have HC : Hid (∀ w, DA b m s w → Calls Tryz.prog 144 #[.pointer (some ⟨b, 0, none⟩)] w fun e w' => e = .returned (.bool true) ∧ DA b (m / 10) (s - 1) w' ∧ Below b w w') := fun w h => shorter_yes b m s w h (by omega) (by omega) hm h0 h1
      go_wp2_with fail
      refine (HC.out _ h).mono ?_
      rintro e w1 ⟨rfl, d1, b1⟩
      go_wp2
      go_step3
      refine ⟨rfl, m / 10, s - 1, _, _, rfl, ?_, by omega, by omega, by omega, HN.out.symm, b1⟩
      rw [show ((s - 1 : Nat) : Int) = (s : Int) - 1 by omega]; exact d1
  · rintro a' w' ⟨n, t, u2, u3, rfl, hd, ht, n0, n1, he, hb⟩
    by_cases hz : t = 0 ∨ ¬ n % 10 = 0
    · have HN := hid (norm_stop n t hz)
      have HC : Hid (∀ w, DA b n t w → Calls Tryz.prog 144 #[.pointer (some ⟨b, 0, none⟩)] w fun e w' => e = .returned (.bool false) ∧ w' = w) := fun w h => by
        by_cases h5 : t = 0
        · subst h5; exact shorter_zero b n w h
        · exact shorter_no b n t w h (by omega) (by omega)
      go_wp2_with fail
      refine (HC.out _ hd).mono ?_
      rintro e w1 ⟨rfl, rfl⟩
      go_wp2
      simp only [Exit.jump]
      go_end0
      rw [← he.out, HN.out]
      exact ⟨rfl, hd, hb⟩
    · have hm : n % 10 = 0 := by omega
      have HN := hid (norm_step n t (by omega) hm)
      have HC : Hid (∀ w, DA b n t w → Calls Tryz.prog 144 #[.pointer (some ⟨b, 0, none⟩)] w fun e w' => e = .returned (.bool true) ∧ DA b (n / 10) (t - 1) w' ∧ Below b w w') := fun w h => shorter_yes b n t w h (by omega) (by omega) hm n0 n1
      go_wp2_with fail
      refine (HC.out _ hd).mono ?_
      rintro e w1 ⟨rfl, d1, b1⟩
      go_wp2
      go_step3
      refine ⟨rfl, ⟨n / 10, t - 1, _, _, rfl, ?_, by omega, by omega, by omega, ?_, hb.trans b1⟩, ?_⟩
      · rw [show ((t - 1 : Nat) : Int) = (t : Int) - 1 by omega]; exact d1
      · exact HN.out.symm.trans he.out
      · rw [scaleAt_of d1, scaleAt_of hd]; omega

end Go.Proofs.YtannndpamhgknaaGreatDoor.De

/- What package dec answers of decimals: Norm, Scaled, Join, Cmp; each call leaves what was in memory as it was. -/
namespace Go.Proofs.YtannndpamhgknaaGreatDoor.De
open Go.RowKit

theorem norm_bd' (m : Int) (s : Nat) (h0 : -1000000000000000000 < m) (h1 : m < 1000000000000000000) : -1000000000000000000 < (Dc.norm m s).1 ∧ (Dc.norm m s).1 < 1000000000000000000 := Dc.norm_bd s m _ h0 h1

set_option maxHeartbeats 1000000 in
theorem norm_any (m : Int) (s : Nat) (w : World) (hs : s ≤ 18) (h0 : -1000000000000000000 < m) (h1 : m < 1000000000000000000) :
    Calls Tryz.prog 112 #[.int .i64 m, .int .i64 s] w fun e w' => e = .returned (.tuple #[.int .i64 (Dc.norm m s).1, .int .i64 (Dc.norm m s).2]) ∧ Below w.heap.size w w' := by
  have HR : Hid (∀ w, Calls Tryz.prog 127 #[.agg #[.int .i64 m, .int .i64 s]] w fun e w' => e = .returned (.bool true) ∧ Below w.heap.size w w') := fun w => isRight_yes m s w h0 h1 (by omega) (by omega)
  have HS : Hid (∀ b w, DA b m s w → Calls Tryz.prog 128 #[.pointer (some ⟨b, 0, none⟩)] w fun e w' => e = .returned (.tuple #[]) ∧ DA b (Dc.norm m s).1 (Dc.norm m s).2 w' ∧ Below b w w') := fun b w h => strip_any b m s w h hs h0 h1
  have d0 := DA.new w m s
  clear h0 h1 hs
  go_enter Tryz.func112, Tryz.ntmps112
  go_wp2_with fail
  refine (HR.out _).mono ?_
  rintro e w1 ⟨rfl, b1⟩
  have d1 := d0.on b1 d0.size
  go_wp2_with fail
  refine (HS.out _ _ d1).mono ?_
  rintro e w2 ⟨rfl, d2, b2⟩
  have c0 := d2.c0
  have c1 := d2.c1
  go_wp2
  go_quiet (fail)
  go_wp2
  go_ret2
  exact ⟨rfl, below_drewN (((up_alloc _ _).trans (b1.mono (by simp))).trans b2) _⟩

end Go.Proofs.YtannndpamhgknaaGreatDoor.De

/- What the reference's own calls Norm, Scaled, Cmp answer: the same as package dec's; they leave the world as it is. -/
namespace Go.Proofs.YtannndpamhgknaaGreatDoor.De
open Go.RowKit

set_option maxHeartbeats 1000000 in
theorem rnorm_any (m : Int) (s : Nat) (w : World) (hs : s ≤ 18) (h0 : -1000000000000000000 < m) (h1 : m < 1000000000000000000) :
    Calls Tryz.prog 70 #[.int .i64 m, .int .i64 s] w fun e w' => e = .returned (.tuple #[.int .i64 (Dc.norm m s).1, .int .i64 (Dc.norm m s).2]) ∧ w' = w := by
  go_enter Tryz.func70, Tryz.ntmps70
  go_wp2_with fail
  go_loop [0, 1] (fun x y => ∃ (n : Int) (t : Nat), x = .int .i64 n ∧ y = .int .i64 t ∧ t ≤ 18 ∧ -1000000000000000000 < n ∧ n < 1000000000000000000 ∧ Hid (Dc.norm n t = Dc.norm m s)) (fun _ y => (intOf y).toNat)
  case atStart => exact ⟨m, s, rfl, rfl, hs, h0, h1, hid rfl⟩
  case round =>
    obtain ⟨n, t, rfl, rfl, ht, n0, n1, he⟩ := hrel
    by_cases hz : t = 0
    · subst hz
      go_wp2
      go_ret2
      rw [← he.out]
      exact ⟨rfl, rfl⟩
    · have hz2 : decide (0 < (t : Int)) = true := by simp; omega
      by_cases hm : n % 10 = 0
      · have HE := hid (td0 n 10 hm)
        have HN := hid (norm_step n t (by omega) hm)
        have hw : wrap64 (n.tdiv 10) = n.tdiv 10 := by rw [td0 n 10 hm]; exact IntWalk.wrap64_in _ (by omega)
        have hm' : (n.tmod 10 == 0) = true := by rw [beq_iff_eq, tm0 n 10 (by decide)]; exact hm
        go_wp2
        go_round
        case rel => exact ⟨n / 10, t - 1, by rw [HE.out], by rw [show ((t - 1 : Nat) : Int) = (t : Int) - 1 by omega], by omega, by omega, by omega, HN.out.symm.trans he.out⟩
        case measure => simp [intOf]; omega
      · have HN := hid (norm_stop n t (Or.inr hm))
        have hm' : (n.tmod 10 == 0) = false := by rw [beq_eq_false_iff_ne, ne_eq, tm0 n 10 (by decide)]; exact hm
        go_wp2
        go_ret2
        rw [← he.out, HN.out]
        exact ⟨rfl, rfl⟩

end Go.Proofs.YtannndpamhgknaaGreatDoor.De

/- Plain facts on the text of a decimal: numerals, digits behind the point, what the digits are worth; no program is spoken of. -/
namespace Go.Proofs.YtannndpamhgknaaGreatDoor.De
namespace Dc
open Go.Lib (decDigits nDigits)

/-- a number's last k digits -/
def pad : Nat → Nat → List UInt8
  | _, 0 => []
  | n, k + 1 => pad (n / 10) k ++ [UInt8.ofNat (48 + n % 10)]
theorem pad_length : ∀ (k n : Nat), (pad n k).length = k
  | 0, _ => rfl
  | k + 1, n => by simp [pad, pad_length k]
/-- from the other end -/
theorem pad_front : ∀ (k n : Nat), pad n (k + 1) = UInt8.ofNat (48 + n / 10 ^ k % 10) :: pad n k
  | 0, n => by simp [pad]
  | k + 1, n => by
    rw [pad, pad_front k (n / 10), pad, List.cons_append, Nat.div_div_eq_div_mul, show 10 * 10 ^ k = 10 ^ (k + 1) by rw [Nat.pow_succ, Nat.mul_comm]]
theorem dec_one : ∀ (s r : Nat), r < 10 ^ s → decDigits (10 ^ s + r) = 49 :: pad r s
  | 0, r, h => by
    obtain rfl : r = 0 := by simp at h; exact h
    rw [Lib.decDigits_one (by decide)]; rfl
  | s + 1, r, h => by
    have hp : 1 ≤ 10 ^ s := Nat.one_le_pow _ _ (by decide)
    rw [Nat.pow_succ] at h
    rw [decDigits, dif_neg (by rw [Nat.pow_succ]; omega), show (10 ^ (s + 1) + r) / 10 = 10 ^ s + r / 10 by rw [Nat.pow_succ]; omega, show (10 ^ (s + 1) + r) % 10 = r % 10 by rw [Nat.pow_succ]; omega, dec_one s (r / 10) (by omega)]
    rfl
theorem dec_pad (u : Nat) : decDigits u = pad u (nDigits u) := by
  induction u using Nat.strongRecOn with
  | _ u ih =>
    by_cases h : u < 10
    · rw [Lib.decDigits_one h, Lib.nDigits_small h]; simp [pad, Nat.mod_eq_of_lt h]
    · rw [decDigits, dif_neg h, Lib.nDigits_big h, ih (u / 10) (by omega)]; rfl
theorem nDigits_low (u : Nat) (k : Nat) (h : k < nDigits u) : k = 0 ∨ 10 ^ k ≤ u := by
  induction u using Nat.strongRecOn generalizing k with
  | _ u ih =>
    by_cases hu : u < 10
    · rw [Lib.nDigits_small hu] at h; omega
    · rw [Lib.nDigits_big hu] at h
      cases k with
      | zero => exact Or.inl rfl
      | succ k =>
        right
        rw [Nat.pow_succ]
        rcases ih (u / 10) (by omega) k (by omega) with h | h
        · subst h; simp; omega
        · omega

/-- the sign -/
def sgn (m : Int) : List UInt8 := if m < 0 then [45] else []
/-- the text of a decimal -/
def text (m : Int) (s : Nat) : List UInt8 := sgn m ++ decDigits (m.natAbs / 10 ^ s) ++ (if s = 0 then [] else 46 :: pad (m.natAbs % 10 ^ s) s)

/-- what the digits of a text are worth, read on from n -/
def worth : Int → List UInt8 → Int
  | n, [] => n
  | n, c :: l => worth (if 48 ≤ c.toNat ∧ c.toNat ≤ 57 then 10 * n + (c.toNat - 48) else n) l
theorem worth_append : ∀ (l r : List UInt8) (n : Int), worth n (l ++ r) = worth (worth n l) r
  | [], _, _ => rfl
  | c :: l, r, n => by simp only [List.cons_append, worth]; exact worth_append l r _
theorem worth_mono : ∀ (l : List UInt8) (n : Int), 0 ≤ n → n ≤ worth n l
  | [], n, _ => Int.le_refl _
  | c :: l, n, h => by
    simp only [worth]
    split
    · have := worth_mono l (10 * n + (c.toNat - 48)) (by omega); omega
    · exact worth_mono l n h
theorem dig (n : Nat) : (UInt8.ofNat (48 + n % 10)).toNat = 48 + n % 10 := by
  rw [UInt8.toNat_ofNat']; omega
theorem worth_pad : ∀ (k n : Nat) (a : Int), worth a (pad n k) = a * (10 ^ k : Nat) + (n % 10 ^ k : Nat)
  | 0, n, a => by simp [pad, worth, Nat.mod_one]
  | k + 1, n, a => by
    rw [pad, worth_append, worth_pad k (n / 10) a]
    simp only [worth, dig]
    rw [if_pos (by omega)]
    have e : n % 10 ^ (k + 1) = 10 * (n / 10 % 10 ^ k) + n % 10 := by
      rw [Nat.pow_succ, Nat.mul_comm, Nat.mod_mul]; omega
    rw [e, Nat.pow_succ]
    generalize n / 10 % 10 ^ k = x
    generalize 10 ^ k = y
    simp only [Int.natCast_mul, Int.natCast_add, Int.mul_add]
    rw [← Int.mul_assoc a]
    omega
theorem worth_dec (u : Nat) : worth 0 (decDigits u) = u := by
  rw [dec_pad, worth_pad, Nat.mod_eq_of_lt (Lib.lt_pow_nDigits u)]; omega
end Dc
end Go.Proofs.YtannndpamhgknaaGreatDoor.De

/- The library's contract of strconv.Itoa at this program: of every int its decimal numeral; it reads one table of the library's. -/
namespace Go.Proofs.YtannndpamhgknaaGreatDoor.De
open Go.Shelf Go.Proofs Go.RowKit
def sh_laysM171_ren : Go.Shelf.Ren := ⟨fun | 171 => 84 | 243 => 115 | 246 => 131 | 283 => 146 | 284 => 147 | 285 => 148 | 286 => 149 | 129 => 161 | 317 => 160 | 318 => 162 | 319 => 163 | 320 => 164 | 337 => 175 | 338 => 176 | n => n, fun | 3 => 3 | 9 => 9 | 2 => 2 | 4 => 4 | 171 => 172 | 0 => 0 | 53 => 173 | 37 => 79 | 5 => 5 | 173 => 176 | 212 => 192 | 51 => 193 | 20 => 20 | 213 => 194 | 46 => 112 | 232 => 211 | 233 => 212 | n => n, fun | 17 => 4 | 18 => 6 | 19 => 7 | n => n⟩
theorem sh_laysM171 : Go.Proofs.LaysM.n171 Tryz.prog sh_laysM171_ren := {
  mixed := by kernel_rfl
  f129 := Tryz.func161.trans (congrArg some (by kernel_rfl))
  f171 := Tryz.func84.trans (congrArg some (by kernel_rfl))
  f243 := Tryz.func115.trans (congrArg some (by kernel_rfl))
  f246 := Tryz.func131.trans (congrArg some (by kernel_rfl))
  f283 := Tryz.func146.trans (congrArg some (by kernel_rfl))
  f284 := Tryz.func147.trans (congrArg some (by kernel_rfl))
  f285 := Tryz.func148.trans (congrArg some (by kernel_rfl))
  f286 := Tryz.func149.trans (congrArg some (by kernel_rfl))
  f317 := Tryz.func160.trans (congrArg some (by kernel_rfl))
  f318 := Tryz.func162.trans (congrArg some (by kernel_rfl))
  f319 := Tryz.func163.trans (congrArg some (by kernel_rfl))
  f320 := Tryz.func164.trans (congrArg some (by kernel_rfl))
  f337 := Tryz.func175.trans (congrArg some (by kernel_rfl))
  f338 := Tryz.func176.trans (congrArg some (by kernel_rfl))
  t0 := Tryz.underlying0
  a0 := Tryz.isAgg0
  z0 := Tryz.sizeOf0
  v0 := Tryz.zeroValue0
  t2 := Tryz.underlying2
  a2 := Tryz.isAgg2
  z2 := Tryz.sizeOf2
  v2 := Tryz.zeroValue2
  t3 := Tryz.underlying3
  a3 := Tryz.isAgg3
  z3 := Tryz.sizeOf3
  v3 := Tryz.zeroValue3
  t4 := Tryz.underlying4
  a4 := Tryz.isAgg4
  z4 := Tryz.sizeOf4
  v4 := Tryz.zeroValue4
  t5 := Tryz.underlying5
  a5 := Tryz.isAgg5
  z5 := Tryz.sizeOf5
  v5 := Tryz.zeroValue5
  t9 := Tryz.underlying9
  a9 := Tryz.isAgg9
  z9 := Tryz.sizeOf9
  v9 := Tryz.zeroValue9
  t20 := Tryz.underlying20
  a20 := Tryz.isAgg20
  z20 := Tryz.sizeOf20
  v20 := Tryz.zeroValue20
  t37 := Tryz.underlying79
  a37 := Tryz.isAgg79
  z37 := Tryz.sizeOf79
  v37 := Tryz.zeroValue79
  t46 := Tryz.underlying112
  a46 := Tryz.isAgg112
  z46 := Tryz.sizeOf112
  v46 := Tryz.zeroValue112
  t51 := Tryz.underlying193
  a51 := Tryz.isAgg193
  z51 := Tryz.sizeOf193
  v51 := Tryz.zeroValue193
  t53 := Tryz.underlying173
  a53 := Tryz.isAgg173
  z53 := Tryz.sizeOf173
  v53 := Tryz.zeroValue173
  t171 := Tryz.underlying172
  a171 := Tryz.isAgg172
  z171 := Tryz.sizeOf172
  v171 := Tryz.zeroValue172
  t173 := Tryz.underlying176
  a173 := Tryz.isAgg176
  z173 := Tryz.sizeOf176
  v173 := Tryz.zeroValue176
  t212 := Tryz.underlying192
  a212 := Tryz.isAgg192
  z212 := Tryz.sizeOf192
  v212 := Tryz.zeroValue192
  t213 := Tryz.underlying194
  a213 := Tryz.isAgg194
  z213 := Tryz.sizeOf194
  t232 := Tryz.underlying211
  a232 := Tryz.isAgg211
  z232 := Tryz.sizeOf211
  v232 := Tryz.zeroValue211
  t233 := Tryz.underlying212
  a233 := Tryz.isAgg212
  z233 := Tryz.sizeOf212
  v233 := Tryz.zeroValue212
  g17 := by kernel_rfl
  g18 := by kernel_rfl
  g19 := by kernel_rfl
  i0 := by kernel_rfl
  i2 := by kernel_rfl
  i3 := by kernel_rfl
  i4 := by kernel_rfl
  i5 := by kernel_rfl
  i9 := by kernel_rfl
  i20 := by kernel_rfl
  i37 := by kernel_rfl
  i46 := by kernel_rfl
  i51 := by kernel_rfl
  i53 := by kernel_rfl
  i171 := by kernel_rfl
  i173 := by kernel_rfl
  i212 := by kernel_rfl
  i232 := by kernel_rfl
  i233 := by kernel_rfl
  m17 := by kernel_rfl
  m18 := by kernel_rfl
  m19 := by kernel_rfl }
open Go.RowKit Go.Sort Go.Lib in
/-- strconv.Itoa: "Itoa is equivalent to FormatInt(int64(i), 10).": i's DECIMAL NUMERAL ('Lib.itoa': a '-' where i is negative, then the digits), FOR EVERY int. The world behind the call: the world before it, new blocks behind the heap (the library's 'var a [24]byte'), draws. (LAID: no walk: one application.) -/
theorem sh_strconv_Itoa (n : Int) (h0 : -9223372036854775808 ≤ n) (h1 : n ≤ 9223372036854775807) (w : World) (htab : Lib.TabIs Tryz.prog w "internal/strconv.uint64pow10" .u64 Lib.pow10Tab) :
    Calls Tryz.prog 84 #[.int .i64 n] w fun e w' => e = .returned (.string ⟨(Lib.itoa n).toArray⟩) ∧ ∃ k os, w' = grow (w.drewN k) os := Any.strconv_Itoa sh_laysM171 n h0 h1 w htab
open Go.RowKit Go.Sort Go.Lib in
def Tab (w : World) : Prop := Lib.TabIs Tryz.prog w "internal/strconv.uint64pow10" .u64 Lib.pow10Tab
open Go.RowKit in
theorem Tab.on {w w' : World} (h : Tab w) (hb : Below w.heap.size w w') : Tab w' := Lib.tabBelow_of_tabIs h w' hb
open Go.RowKit Go.Sort Go.Lib in
theorem itoa_any (n : Int) (h0 : -9223372036854775808 ≤ n) (h1 : n ≤ 9223372036854775807) (w : World) (htab : Tab w) :
    Calls Tryz.prog 84 #[.int .i64 n] w fun e w' => e = .returned (.string ⟨(Lib.itoa n).toArray⟩) ∧ Below w.heap.size w w' :=
  (sh_strconv_Itoa n h0 h1 w htab).mono fun e w' h => ⟨h.1, by obtain ⟨k, os, rfl⟩ := h.2; exact Lib.below_grow _ _ (Nat.le_refl _) _ _⟩
end Go.Proofs.YtannndpamhgknaaGreatDoor.De

/- The text that package dec writes of a decimal. -/
namespace Go.Proofs.YtannndpamhgknaaGreatDoor.De
open Go.RowKit

theorem itoa_nat (u : Nat) (w : World) (h : u ≤ 9223372036854775807) (htab : Tab w) :
    Calls Tryz.prog 84 #[.int .i64 u] w fun e w' => e = .returned (.string ⟨(Lib.decDigits u).toArray⟩) ∧ Below w.heap.size w w' := by
  have := itoa_any u (by omega) (by omega) w htab
  rwa [Lib.itoa_nonneg] at this

set_option maxHeartbeats 1000000 in
theorem text_p0 (m : Int) (A : ByteArray) (w : World) (h0 : 0 ≤ m) (h1 : m < 1000000000000000000) (htab : Tab w) (hA : A.size ≤ 100)
    (HI : Hid (∀ w, Tab w → Calls Tryz.prog 84 #[.int .i64 m] w fun e w' => e = .returned (.string A) ∧ Below w.heap.size w w')) :
    Calls Tryz.prog 118 #[.int .i64 m, .int .i64 0] w fun e w' => e = .returned (.string (⟨#[]⟩ ++ A)) ∧ Below w.heap.size w w' := by
  have HP : Hid (∀ w, Calls Tryz.prog 134 #[.int .i64 0] w fun e w' => e = .returned (.int .i64 1) ∧ w' = w) := fun w => power_any 0 w (by omega)
  have HR : Hid (∀ w, Calls Tryz.prog 127 #[.agg #[.int .i64 m, .int .i64 0]] w fun e w' => e = .returned (.bool true) ∧ Below w.heap.size w w') := fun w => isRight_yes m 0 w (by omega) (by omega) (by omega) (by omega)
  have d0 := DA.new w m 0
  go_enter Tryz.func118, Tryz.ntmps118
  go_wp2_with fail
  refine (HR.out _).mono ?_
  rintro e w1 ⟨rfl, b1⟩
  have d1 := d0.on b1 d0.size
  have c0 := d1.c0
  have f0 := d1.f 0
  have B1 := hid (up_trans (up_alloc w (.cells #[.int .i64 m, .int .i64 0] 162)) b1)
  have d2 := d1
  have B2 := B1
  go_wp2_with fail
  refine (HP.out _).mono ?_
  rintro e w2 ⟨rfl, rfl⟩
  go_wp2_with fail
  refine (HI.out _ (htab.on B2.out)).mono ?_
  rintro e w3 ⟨rfl, b3⟩
  go_wp2
  go_ret
  exact ⟨rfl, up_trans B2.out b3⟩

set_option maxHeartbeats 1000000 in
theorem text_ps (m s p q r : Int) (A B : ByteArray) (w : World) (h0 : 0 ≤ m) (h1 : m < 1000000000000000000) (s0 : 0 < s) (s1 : s ≤ 18) (htab : Tab w) (hp0 : 0 < p) (hp1 : p ≤ 1000000000000000000)
    (hq : m.tdiv p = q) (hr : m.tmod p = r) (hr0 : 0 ≤ r) (hr1 : r < p) (hq0 : 0 ≤ q) (hq1 : q ≤ 1000000000000000000) (hA : A.size ≤ 100) (hB : 1 ≤ B.size) (hB' : B.size ≤ 100)
    (HP : Hid (∀ w, Calls Tryz.prog 134 #[.int .i64 s] w fun e w' => e = .returned (.int .i64 p) ∧ w' = w))
    (HI : Hid (∀ w, Tab w → Calls Tryz.prog 84 #[.int .i64 q] w fun e w' => e = .returned (.string A) ∧ Below w.heap.size w w'))
    (HJ : Hid (∀ w, Tab w → Calls Tryz.prog 84 #[.int .i64 (p + r)] w fun e w' => e = .returned (.string B) ∧ Below w.heap.size w w')) :
    Calls Tryz.prog 118 #[.int .i64 m, .int .i64 s] w fun e w' => e = .returned (.string (⟨#[]⟩ ++ A ++ ⟨#[46]⟩ ++ B.extract 1 B.size)) ∧ Below w.heap.size w w' := by
  have hs : (s == 0) = false := by simp; omega
  have HR : Hid (∀ w, Calls Tryz.prog 127 #[.agg #[.int .i64 m, .int .i64 s]] w fun e w' => e = .returned (.bool true) ∧ Below w.heap.size w w') := fun w => isRight_yes m s w (by omega) (by omega) (by omega) (by omega)
  have d0 := DA.new w m s
  go_enter Tryz.func118, Tryz.ntmps118
  go_wp2_with fail
  refine (HR.out _).mono ?_
  rintro e w1 ⟨rfl, b1⟩
  have d1 := d0.on b1 d0.size
  have c0 := d1.c0
  have f0 := d1.f 0
  have B1 := hid (up_trans (up_alloc w (.cells #[.int .i64 m, .int .i64 s] 162)) b1)
  have d2 := d1
  have B2 := B1
  go_wp2_with fail
  refine (HP.out _).mono ?_
  rintro e w2 ⟨rfl, rfl⟩
  go_wp2_with fail
  refine (HI.out _ (htab.on B2.out)).mono ?_
  rintro e w3 ⟨rfl, b3⟩
  have d3 := d2.on b3 d2.size
  have c3 := d3.c0
  have B3 := hid (up_trans B2.out b3)
  go_wp2_with fail
  refine (HJ.out _ (htab.on B3.out)).mono ?_
  rintro e w4 ⟨rfl, b4⟩
  go_wp2
  go_ret
  exact ⟨rfl, up_trans B3.out b4⟩

set_option maxHeartbeats 1000000 in
theorem text_n0 (m : Int) (A : ByteArray) (w : World) (h0 : m < 0) (h1 : -1000000000000000000 < m) (htab : Tab w) (hA : A.size ≤ 100)
    (HI : Hid (∀ w, Tab w → Calls Tryz.prog 84 #[.int .i64 (-m)] w fun e w' => e = .returned (.string A) ∧ Below w.heap.size w w')) :
    Calls Tryz.prog 118 #[.int .i64 m, .int .i64 0] w fun e w' => e = .returned (.string (⟨#[45]⟩ ++ A)) ∧ Below w.heap.size w w' := by
  have HP : Hid (∀ w, Calls Tryz.prog 134 #[.int .i64 0] w fun e w' => e = .returned (.int .i64 1) ∧ w' = w) := fun w => power_any 0 w (by omega)
  have HR : Hid (∀ w, Calls Tryz.prog 127 #[.agg #[.int .i64 m, .int .i64 0]] w fun e w' => e = .returned (.bool true) ∧ Below w.heap.size w w') := fun w => isRight_yes m 0 w (by omega) (by omega) (by omega) (by omega)
  have d0 := DA.new w m 0
  go_enter Tryz.func118, Tryz.ntmps118
  go_wp2_with fail
  refine (HR.out _).mono ?_
  rintro e w1 ⟨rfl, b1⟩
  have d1 := d0.on b1 d0.size
  have c0 := d1.c0
  have f0 := d1.f 0
  have B1 := hid (up_trans (up_alloc w (.cells #[.int .i64 m, .int .i64 0] 162)) b1)
  have d2 := d1.set0 (-m)
  have c2 := d2.c0
  have B2 := hid (B1.out.setCell (p := ⟨w.heap.size, 0, none⟩) (Nat.le_refl _) (.int .i64 (-m)))
  go_wp2_with fail
  refine (HP.out _).mono ?_
  rintro e w2 ⟨rfl, rfl⟩
  go_wp2_with fail
  refine (HI.out _ (htab.on B2.out)).mono ?_
  rintro e w3 ⟨rfl, b3⟩
  go_wp2
  go_ret
  exact ⟨rfl, up_trans B2.out b3⟩

set_option maxHeartbeats 1000000 in
theorem text_ns (m s p q r : Int) (A B : ByteArray) (w : World) (h0 : m < 0) (h1 : -1000000000000000000 < m) (s0 : 0 < s) (s1 : s ≤ 18) (htab : Tab w) (hp0 : 0 < p) (hp1 : p ≤ 1000000000000000000)
    (hq : (-m).tdiv p = q) (hr : (-m).tmod p = r) (hr0 : 0 ≤ r) (hr1 : r < p) (hq0 : 0 ≤ q) (hq1 : q ≤ 1000000000000000000) (hA : A.size ≤ 100) (hB : 1 ≤ B.size) (hB' : B.size ≤ 100)
    (HP : Hid (∀ w, Calls Tryz.prog 134 #[.int .i64 s] w fun e w' => e = .returned (.int .i64 p) ∧ w' = w))
    (HI : Hid (∀ w, Tab w → Calls Tryz.prog 84 #[.int .i64 q] w fun e w' => e = .returned (.string A) ∧ Below w.heap.size w w'))
    (HJ : Hid (∀ w, Tab w → Calls Tryz.prog 84 #[.int .i64 (p + r)] w fun e w' => e = .returned (.string B) ∧ Below w.heap.size w w')) :
    Calls Tryz.prog 118 #[.int .i64 m, .int .i64 s] w fun e w' => e = .returned (.string (⟨#[45]⟩ ++ A ++ ⟨#[46]⟩ ++ B.extract 1 B.size)) ∧ Below w.heap.size w w' := by
  have hs : (s == 0) = false := by simp; omega
  have HR : Hid (∀ w, Calls Tryz.prog 127 #[.agg #[.int .i64 m, .int .i64 s]] w fun e w' => e = .returned (.bool true) ∧ Below w.heap.size w w') := fun w => isRight_yes m s w (by omega) (by omega) (by omega) (by omega)
  have d0 := DA.new w m s
  go_enter Tryz.func118, Tryz.ntmps118
  go_wp2_with fail
  refine (HR.out _).mono ?_
  rintro e w1 ⟨rfl, b1⟩
  have d1 := d0.on b1 d0.size
  have c0 := d1.c0
  have f0 := d1.f 0
  have B1 := hid (up_trans (up_alloc w (.cells #[.int .i64 m, .int .i64 s] 162)) b1)
  have d2 := d1.set0 (-m)
  have c2 := d2.c0
  have B2 := hid (B1.out.setCell (p := ⟨w.heap.size, 0, none⟩) (Nat.le_refl _) (.int .i64 (-m)))
  go_wp2_with fail
  refine (HP.out _).mono ?_
  rintro e w2 ⟨rfl, rfl⟩
  go_wp2_with fail
  refine (HI.out _ (htab.on B2.out)).mono ?_
  rintro e w3 ⟨rfl, b3⟩
  have d3 := d2.on b3 d2.size
  have c3 := d3.c0
  have B3 := hid (up_trans B2.out b3)
  go_wp2_with fail
  refine (HJ.out _ (htab.on B3.out)).mono ?_
  rintro e w4 ⟨rfl, b4⟩
  go_wp2
  go_ret
  exact ⟨rfl, up_trans B3.out b4⟩

theorem nd_le (u : Nat) (h : u < 10 ^ 30) : Lib.nDigits u ≤ 30 := by
  by_cases hc : Lib.nDigits u ≤ 30
  · exact hc
  · rcases Dc.nDigits_low u 30 (by omega) with h1 | h1 <;> omega
theorem dd_size (u : Nat) (h : u < 10 ^ 30) : (ByteArray.mk (Lib.decDigits u).toArray).size ≤ 100 := by
  have := nd_le u h
  show (Lib.decDigits u).toArray.size ≤ 100
  rw [List.size_toArray, Lib.decDigits_length]; omega
theorem ten_nat (s : Nat) : Dc.ten s = ((10 ^ s : Nat) : Int) := by unfold Dc.ten; simp
theorem mk_app (x y : List UInt8) : (ByteArray.mk x.toArray ++ ByteArray.mk y.toArray) = ByteArray.mk (x ++ y).toArray := ByteArray.mk_append_mk x y
theorem tail_of (c : UInt8) (l : List UInt8) : (ByteArray.mk (c :: l).toArray).extract 1 (ByteArray.mk (c :: l).toArray).size = ⟨l.toArray⟩ := by
  apply ByteArray.ext
  rw [ByteArray.data_extract]
  show (c :: l).toArray.extract 1 (c :: l).toArray.size = l.toArray
  simp

theorem text_any (m : Int) (s : Nat) (w : World) (hs : s ≤ 18) (h0 : -1000000000000000000 < m) (h1 : m < 1000000000000000000) (htab : Tab w) :
    Calls Tryz.prog 118 #[.int .i64 m, .int .i64 s] w fun e w' => e = .returned (.string ⟨(Dc.text m s).toArray⟩) ∧ Below w.heap.size w w' := by
  obtain ⟨a, ha⟩ : ∃ a : Nat, a = m.natAbs := ⟨_, rfl⟩
  have a1 : a < 1000000000000000000 := by omega
  by_cases hz : s = 0
  · subst hz
    have HI : Hid (∀ w, Tab w → Calls Tryz.prog 84 #[.int .i64 (a : Int)] w fun e w' => e = .returned (.string ⟨(Lib.decDigits a).toArray⟩) ∧ Below w.heap.size w w') := fun w ht => itoa_nat a w (by omega) ht
    have hA := dd_size a (by omega)
    by_cases hm : m < 0
    · rw [show (a : Int) = -m by omega] at HI
      have := text_n0 m _ w hm h0 htab hA HI
      have e : Dc.text m 0 = [45] ++ Lib.decDigits a := by unfold Dc.text Dc.sgn; rw [if_pos hm, ← ha]; simp
      rw [e, ← mk_app]; exact this
    · rw [show (a : Int) = m by omega] at HI
      have := text_p0 m _ w (by omega) h1 htab hA HI
      have e : Dc.text m 0 = [] ++ Lib.decDigits a := by unfold Dc.text Dc.sgn; rw [if_neg hm, ← ha]; simp
      rw [e, ← mk_app]; exact this
  · have hp : 0 < 10 ^ s := Nat.pow_pos (by decide)
    have hp18 : 10 ^ s ≤ 1000000000000000000 := by
      have := (ten_bd s hs).2
      rw [ten_nat] at this
      omega
    have hr1 : a % 10 ^ s < 10 ^ s := Nat.mod_lt _ hp
    have hq1 : a / 10 ^ s ≤ a := Nat.div_le_self _ _
    have HP : Hid (∀ w, Calls Tryz.prog 134 #[.int .i64 s] w fun e w' => e = .returned (.int .i64 ((10 ^ s : Nat) : Int)) ∧ w' = w) := fun w => by
      have := power_any s w hs
      rwa [ten_nat] at this
    have HI : Hid (∀ w, Tab w → Calls Tryz.prog 84 #[.int .i64 ((a / 10 ^ s : Nat) : Int)] w fun e w' => e = .returned (.string ⟨(Lib.decDigits (a / 10 ^ s)).toArray⟩) ∧ Below w.heap.size w w') := fun w ht => itoa_nat _ w (by omega) ht
    have HJ : Hid (∀ w, Tab w → Calls Tryz.prog 84 #[.int .i64 (((10 ^ s : Nat) : Int) + ((a % 10 ^ s : Nat) : Int))] w fun e w' => e = .returned (.string ⟨(49 :: Dc.pad (a % 10 ^ s) s).toArray⟩) ∧ Below w.heap.size w w') := fun w ht => by
      have := itoa_nat (10 ^ s + a % 10 ^ s) w (by omega) ht
      rw [Dc.dec_one s _ hr1, Int.natCast_add] at this
      exact this
    have hA := dd_size (a / 10 ^ s) (by omega)
    have hB : (ByteArray.mk (49 :: Dc.pad (a % 10 ^ s) s).toArray).size = s + 1 := by
      show (49 :: Dc.pad (a % 10 ^ s) s).toArray.size = s + 1
      simp [Dc.pad_length]
    have eq : (a : Int).tdiv ((10 ^ s : Nat) : Int) = ((a / 10 ^ s : Nat) : Int) := rfl
    have er : (a : Int).tmod ((10 ^ s : Nat) : Int) = ((a % 10 ^ s : Nat) : Int) := rfl
    by_cases hm : m < 0
    · rw [show (a : Int) = -m by omega] at eq er
      have := text_ns m s _ _ _ _ _ w hm h0 (by omega) (by omega) htab (by omega) (by omega) eq er (Int.natCast_nonneg _) (by omega) (Int.natCast_nonneg _) (by omega) hA (by omega) (by omega) HP HI HJ
      have e : Dc.text m s = [45] ++ Lib.decDigits (a / 10 ^ s) ++ [46] ++ Dc.pad (a % 10 ^ s) s := by unfold Dc.text Dc.sgn; rw [if_pos hm, if_neg hz, ← ha]; simp
      rw [tail_of] at this
      rw [e, ← mk_app, ← mk_app, ← mk_app]; exact this
    · rw [show (a : Int) = m by omega] at eq er
      have := text_ps m s _ _ _ _ _ w (by omega) h1 (by omega) (by omega) htab (by omega) (by omega) eq er (Int.natCast_nonneg _) (by omega) (Int.natCast_nonneg _) (by omega) hA (by omega) (by omega) HP HI HJ
      have e : Dc.text m s = [] ++ Lib.decDigits (a / 10 ^ s) ++ [46] ++ Dc.pad (a % 10 ^ s) s := by unfold Dc.text Dc.sgn; rw [if_neg hm, if_neg hz, ← ha]; simp
      rw [tail_of] at this
      rw [e, ← mk_app, ← mk_app, ← mk_app]; exact this
end Go.Proofs.YtannndpamhgknaaGreatDoor.De
