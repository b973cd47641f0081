/- What the small functions of package dec and of the reference answer: bounds, powers of ten, a decimal in memory made longer or shorter by one digit; each for every argument in the stated range. -/
import Derived.Test.YtengcdodoblabaaGreatDoorProg
import Derived.Test.YtengcdodoblabaaGreatDoorDeMath
import Derived.WalkKit
import Derived.WalkSpells
import Derived.WalkSmall
import Derived.WalkMore
import Derived.ScopeJumps
import Derived.Deep.QuietTactic
import Derived.BigQuiet
namespace Go.Proofs.YtengcdodoblabaaGreatDoor.De
open Go.RowKit

theorem hid {p : Prop} (h : p) : Hid p := h
theorem ret_int {k : IntKind} {a b : Int} (h : a = b) : Ending.returned (.int k a) = .returned (.int k b) := by rw [h]
theorem ret_bool {a b : Bool} (h : a = b) : Ending.returned (.bool a) = .returned (.bool b) := by rw [h]
theorem up_trans {w w1 w2 : World} (h : Below w.heap.size w w1) (k : Below w1.heap.size w1 w2) : Below w.heap.size w w2 := h.trans (k.mono h.size)
theorem up_alloc (w : World) (o : Obj) : Below w.heap.size w (w.alloc o) := (Below.refl _ _).alloc (Nat.le_refl _) o

theorem tm0 (n d : Int) (hd : 0 < d) : n.tmod d = 0 ↔ n % d = 0 := by
  have h4 := Int.emod_nonneg n (show d ≠ 0 by omega)
  have h5 := Int.emod_lt_of_pos n hd
  rw [Int.tmod_eq_emod]
  split
  · omega
  · rename_i hc
    have : ¬ d ∣ n := fun h => hc (Or.inr h)
    have h6 : n % d ≠ 0 := fun h => this (Int.dvd_of_emod_eq_zero h)
    constructor
    · intro h; omega
    · intro h; exact absurd h h6
theorem td0 (n d : Int) (h : n % d = 0) : n.tdiv d = n / d := by
  rw [Int.tdiv_eq_ediv]
  rw [if_pos (Or.inr (Int.dvd_of_emod_eq_zero h))]; omega

/-- a decimal in memory -/
def DA (b : Nat) (m s : Int) (w : World) : Prop := w.heap[b]? = some (.cells #[.int .i64 m, .int .i64 s] 94)
theorem DA.c0 {b : Nat} {m s : Int} {w : World} (h : DA b m s w) : w.cell? ⟨b, 0, none⟩ = some (.int .i64 m) := by unfold DA at h; simp [World.cell?, h]
theorem DA.c1 {b : Nat} {m s : Int} {w : World} (h : DA b m s w) : w.cell? ⟨b, 1, none⟩ = some (.int .i64 s) := by unfold DA at h; simp [World.cell?, h]
theorem DA.f {b : Nat} {m s : Int} {w : World} (h : DA b m s w) (o : Nat) : w.frozen? ⟨b, o, none⟩ = false := by unfold DA at h; simp [World.frozen?, h]
theorem DA.on {b B : Nat} {m s : Int} {w w' : World} (h : DA b m s w) (hb : Below B w w') (hB : b < B) : DA b m s w' := by unfold DA; rw [hb.block b hB]; exact h
theorem DA.size {b : Nat} {m s : Int} {w : World} (h : DA b m s w) : b < w.heap.size := by
  unfold DA at h
  exact (Array.getElem?_eq_some_iff.1 h).1
theorem DA.drew {b : Nat} {m s : Int} {w : World} (h : DA b m s w) : DA b m s w.drew := h
theorem DA.drewN {b : Nat} {m s : Int} {w : World} (h : DA b m s w) (n : Nat) : DA b m s (w.drewN n) := h
theorem DA.set0 {b : Nat} {m s : Int} {w : World} (h : DA b m s w) (m' : Int) : DA b m' s (w.setCell ⟨b, 0, none⟩ (.int .i64 m')) := by
  unfold DA at *
  simp [World.setCell, Array.getElem?_modify, h]
theorem DA.set1 {b : Nat} {m s : Int} {w : World} (h : DA b m s w) (s' : Int) : DA b m s' (w.setCell ⟨b, 1, none⟩ (.int .i64 s')) := by
  unfold DA at *
  simp [World.setCell, Array.getElem?_modify, h]
theorem DA.new (w : World) (m s : Int) : DA w.heap.size m s (w.alloc (.cells #[.int .i64 m, .int .i64 s] 94)) := by
  unfold DA; show (w.heap.push _)[w.heap.size]? = _; simp

def inB (n a b : Int) : Bool := decide (a ≤ n) && decide (n ≤ b)
set_option maxHeartbeats 400000 in
theorem dwithin_any (n a b : Int) (w : World) :
    Calls Tryz.prog 118 #[.int .i64 n, .int .i64 a, .int .i64 b] w fun e w' => e = .returned (.bool (inB n a b)) ∧ w' = w := by
  by_cases h1 : a ≤ n
  · by_cases h2 : n ≤ b
    · go_enter Tryz.func118, Tryz.ntmps118
      go_wp2
      go_ret
      exact ⟨ret_bool (by simp [inB, h1, h2]), rfl⟩
    · go_enter Tryz.func118, Tryz.ntmps118
      go_wp2
      go_ret
      exact ⟨ret_bool (by simp [inB, h1, h2]), rfl⟩
  · go_enter Tryz.func118, Tryz.ntmps118
    go_wp2
    go_ret
    exact ⟨ret_bool (by rw [inB, decide_eq_false (by omega), Bool.false_and]), rfl⟩
theorem inB_true {n a b : Int} (h : a ≤ n) (h' : n ≤ b) : inB n a b = true := by simp [inB, h, h']
theorem inB_false {n a b : Int} (h : n < a ∨ b < n) : inB n a b = false := by
  unfold inB
  rcases h with h | h
  · rw [decide_eq_false (by omega), Bool.false_and]
  · rw [decide_eq_false (p := n ≤ b) (by omega), Bool.and_false]
theorem dwithin_in (n a b : Int) (w : World) (h : a ≤ n) (h' : n ≤ b) :
    Calls Tryz.prog 118 #[.int .i64 n, .int .i64 a, .int .i64 b] w fun e w' => e = .returned (.bool true) ∧ w' = w := by
  rw [← inB_true h h']; exact dwithin_any n a b w

set_option maxHeartbeats 400000 in
theorem isRight_yes (m s : Int) (w : World) (h0 : -1000000000000000000 < m) (h1 : m < 1000000000000000000) (h2 : 0 ≤ s) (h3 : s ≤ 18) :
    Calls Tryz.prog 107 #[.agg #[.int .i64 m, .int .i64 s]] w fun e w' => e = .returned (.bool true) ∧ Below w.heap.size w w' := by
  have HM : Hid (∀ w, Calls Tryz.prog 118 #[.int .i64 m, .int .i64 (-999999999999999999), .int .i64 999999999999999999] w fun e w' => e = .returned (.bool true) ∧ w' = w) := fun w => dwithin_in m _ _ w (by omega) (by omega)
  have HS : Hid (∀ w, Calls Tryz.prog 118 #[.int .i64 s, .int .i64 0, .int .i64 18] w fun e w' => e = .returned (.bool true) ∧ w' = w) := fun w => dwithin_in s _ _ w h2 h3
  clear h0 h1 h2 h3
  go_enter Tryz.func107, Tryz.ntmps107
  go_wp2_with fail
  refine (HM.out _).mono ?_
  rintro e w1 ⟨rfl, rfl⟩
  go_wp2_with fail
  refine (HS.out _).mono ?_
  rintro e w1 ⟨rfl, rfl⟩
  go_wp2
  go_ret
  exact ⟨rfl, up_alloc _ _⟩

theorem powS (n : Nat) : Dc.ten n * 10 = Dc.ten (n + 1) := by rw [Dc.tenS, Int.mul_comm]
theorem ten_bd (n : Nat) (h : n ≤ 18) : 1 ≤ Dc.ten n ∧ Dc.ten n ≤ 1000000000000000000 := by
  have := Dc.ten_pos n
  have := Dc.ten_le h
  rw [Dc.ten18] at this
  omega
theorem ten_bd' (n : Nat) (h : n < 18) : Dc.ten n ≤ 100000000000000000 := by
  have := Dc.ten_le (show n ≤ 17 by omega)
  have e : Dc.ten 17 = 100000000000000000 := by decide
  omega

set_option maxHeartbeats 400000 in
theorem power_any (n : Nat) (w : World) (hn : n ≤ 18) :
    Calls Tryz.prog 109 #[.int .i64 n] w fun e w' => e = .returned (.int .i64 (Dc.ten n)) ∧ w' = w := by
  go_enter Tryz.func109, Tryz.ntmps109
  go_wp2_with fail
  go_loop [3, 5] (fun p i => ∃ k : Nat, k ≤ n ∧ i = .int .i64 k ∧ p = .int .i64 (Dc.ten k)) (fun _ i => (19 - intOf i).toNat)
  case atStart => exact ⟨0, by omega, rfl, rfl⟩
  case round =>
    obtain ⟨k, hk, rfl, rfl⟩ := hrel
    by_cases hlt : k < n
    · have b1 := Dc.ten_pos k
      have b2 := ten_bd' k (by omega)
      go_wp2
      go_round
      case rel => exact ⟨k + 1, by omega, by go_num, by rw [powS]⟩
      case measure => simp [intOf]; omega
    · obtain rfl : k = n := by omega
      go_wp2
      go_ret
      exact ⟨rfl, rfl⟩

set_option maxHeartbeats 400000 in
theorem rten_any (n : Nat) (w : World) (hn : n ≤ 18) :
    Calls Tryz.prog 111 #[.int .i64 n] w fun e w' => e = .returned (.int .i64 (Dc.ten n)) ∧ w' = w := by
  go_enter Tryz.func111, Tryz.ntmps111
  go_wp2_with fail
  go_loop [3, 4] (fun p i => ∃ k : Nat, k ≤ n ∧ i = .int .i64 k ∧ p = .int .i64 (Dc.ten k)) (fun _ i => (19 - intOf i).toNat)
  case atStart => exact ⟨0, by omega, rfl, rfl⟩
  case round =>
    obtain ⟨k, hk, rfl, rfl⟩ := hrel
    by_cases hlt : k < n
    · have b1 := Dc.ten_pos k
      have b2 := ten_bd' k (by omega)
      go_wp2
      go_round
      case rel => exact ⟨k + 1, by omega, by go_num, by rw [Dc.tenS]⟩
      case measure => simp [intOf]; omega
    · obtain rfl : k = n := by omega
      go_wp2
      go_ret
      exact ⟨rfl, rfl⟩

set_option maxHeartbeats 400000 in
theorem nan_any (a : Int) (w : World) :
    Calls Tryz.prog 115 #[.int .i64 a] w fun e w' => e = .returned (.bool false) ∧ w' = w := by
  go_enter Tryz.func115, Tryz.ntmps115
  go_wp2
  go_ret
  exact ⟨rfl, rfl⟩

set_option maxHeartbeats 400000 in
theorem compare_any (a b : Int) (w : World) :
    Calls Tryz.prog 101 #[.int .i64 a, .int .i64 b] w fun e w' => e = .returned (.int .i64 (Dc.ord a b)) ∧ w' = w := by
  have h : a < b ∨ b < a ∨ a = b := by omega
  rcases h with h | h | h
  · rw [Dc.ord_lt h]
    go_enter Tryz.func101, Tryz.ntmps101
    go_wp2_with (go_at_call 115; refine (nan_any _ _).mono ?_; rintro e w' ⟨rfl, rfl⟩)
    go_ret
    exact ⟨rfl, rfl⟩
  · rw [Dc.ord_gt h]
    go_enter Tryz.func101, Tryz.ntmps101
    go_wp2_with (go_at_call 115; refine (nan_any _ _).mono ?_; rintro e w' ⟨rfl, rfl⟩)
    go_ret
    exact ⟨rfl, rfl⟩
  · subst h
    rw [Dc.ord_self]
    go_enter Tryz.func101, Tryz.ntmps101
    go_wp2_with (go_at_call 115; refine (nan_any _ _).mono ?_; rintro e w' ⟨rfl, rfl⟩)
    go_ret
    exact ⟨rfl, rfl⟩

set_option maxHeartbeats 400000 in
theorem shorter_zero (b : Nat) (m : Int) (w : World) (h : DA b m 0 w) :
    Calls Tryz.prog 120 #[.pointer (some ⟨b, 0, none⟩)] w fun e w' => e = .returned (.bool false) ∧ w' = w := by
  have hc := h.c1
  clear h
  go_enter Tryz.func120, Tryz.ntmps120
  go_wp2
  go_ret
  exact ⟨rfl, rfl⟩

set_option maxHeartbeats 400000 in
theorem shorter_no (b : Nat) (m s : Int) (w : World) (h : DA b m s w) (hs : 0 < s) (hm : ¬ m % 10 = 0) :
    Calls Tryz.prog 120 #[.pointer (some ⟨b, 0, none⟩)] w fun e w' => e = .returned (.bool false) ∧ w' = w := by
  have hc := h.c1
  have hc0 := h.c0
  rw [← tm0 m 10 (by decide)] at hm
  have hm' : (m.tmod 10 != 0) = true := by simpa using hm
  have hs' : (s == 0) = false := by simp; omega
  clear h hm
  go_enter Tryz.func120, Tryz.ntmps120
  go_wp2
  go_ret
  exact ⟨rfl, rfl⟩

set_option maxHeartbeats 1000000 in
theorem shorter_yes (b : Nat) (m s : Int) (w : World) (h : DA b m s w) (hs : 0 < s) (hs' : s ≤ 18) (hm : m % 10 = 0) (h0 : -1000000000000000000 < m) (h1 : m < 1000000000000000000) :
    Calls Tryz.prog 120 #[.pointer (some ⟨b, 0, none⟩)] w fun e w' => e = .returned (.bool true) ∧ DA b (m / 10) (s - 1) w' ∧ Below b w w' := by
  have hc := h.c1
  have hc0 := h.c0
  have f0 := h.f 0
  have f1 := h.f 1
  have H := hid h
  have hw : wrap64 (m.tdiv 10) = m.tdiv 10 := by rw [td0 m 10 hm]; exact IntWalk.wrap64_in _ (by omega)
  have hc1' := (h.set0 (m.tdiv 10)).c1
  have f1' := (h.set0 (m.tdiv 10)).f 1
  have HE := hid (td0 m 10 hm)
  rw [← tm0 m 10 (by decide)] at hm
  have hm' : (m.tmod 10 != 0) = false := by simpa using hm
  have hs2 : (s == 0) = false := by simp; omega
  clear h hm
  go_enter Tryz.func120, Tryz.ntmps120
  go_wp2
  go_region
  all_goals
    go_wp2
    go_ret
    rw [← HE.out]
    refine ⟨rfl, ((H.out.set0 _).set1 _), ?_⟩
    first | exact (((Below.refl b w).setCell (Nat.le_refl _) _).setCell (Nat.le_refl _) _).drew

set_option maxHeartbeats 400000 in
theorem longer_end (b : Nat) (m : Int) (w : World) (h : DA b m 18 w) :
    Calls Tryz.prog 119 #[.pointer (some ⟨b, 0, none⟩)] w fun e w' => e = .returned (.bool false) ∧ w' = w := by
  have hc := h.c1
  clear h
  go_enter Tryz.func119, Tryz.ntmps119
  go_wp2
  go_ret
  exact ⟨rfl, rfl⟩

set_option maxHeartbeats 400000 in
theorem longer_no (b : Nat) (m s : Int) (w : World) (h : DA b m s w) (hs : s < 18) (hm : ¬ (-99999999999999999 ≤ m ∧ m ≤ 99999999999999999)) :
    Calls Tryz.prog 119 #[.pointer (some ⟨b, 0, none⟩)] w fun e w' => e = .returned (.bool false) ∧ w' = w := by
  have hc := h.c1
  have hc0 := h.c0
  have HW : Hid (∀ w, Calls Tryz.prog 118 #[.int .i64 m, .int .i64 (-99999999999999999), .int .i64 99999999999999999] w fun e w' => e = .returned (.bool false) ∧ w' = w) := fun w => by
    have := dwithin_any m (-99999999999999999) 99999999999999999 w
    rw [inB_false (by omega)] at this
    exact this
  have hs2 : (s == 18) = false := by simp; omega
  clear h hm
  go_enter Tryz.func119, Tryz.ntmps119
  go_wp2_with fail
  refine (HW.out _).mono ?_
  rintro e w1 ⟨rfl, rfl⟩
  go_wp2
  go_ret
  exact ⟨rfl, rfl⟩

set_option maxHeartbeats 1000000 in
theorem longer_yes (b : Nat) (m s : Int) (w : World) (h : DA b m s w) (hs0 : 0 ≤ s) (hs : s < 18) (h0 : -99999999999999999 ≤ m) (h1 : m ≤ 99999999999999999) :
    Calls Tryz.prog 119 #[.pointer (some ⟨b, 0, none⟩)] w fun e w' => e = .returned (.bool true) ∧ DA b (10 * m) (s + 1) w' ∧ Below b w w' := by
  have hc := h.c1
  have hc0 := h.c0
  have f0 := h.f 0
  have f1 := h.f 1
  have H := hid h
  have hc1' := (h.set0 (m * 10)).c1
  have f1' := (h.set0 (m * 10)).f 1
  have HW : Hid (∀ w, Calls Tryz.prog 118 #[.int .i64 m, .int .i64 (-99999999999999999), .int .i64 99999999999999999] w fun e w' => e = .returned (.bool true) ∧ w' = w) := fun w => dwithin_in m _ _ w h0 h1
  have hs2 : (s == 18) = false := by simp; omega
  clear h
  go_enter Tryz.func119, Tryz.ntmps119
  go_wp2_with fail
  refine (HW.out _).mono ?_
  rintro e w1 ⟨rfl, rfl⟩
  go_wp2
  go_region
  all_goals
    go_wp2
    go_ret
    rw [Int.mul_comm 10 m]
    refine ⟨rfl, ((H.out.set0 _).set1 _), ?_⟩
    first | exact (((Below.refl b _).setCell (Nat.le_refl _) _).setCell (Nat.le_refl _) _).drew
end Go.Proofs.YtengcdodoblabaaGreatDoor.De
