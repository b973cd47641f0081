/- What the statements' own helpers answer: a number brought into a range, and the chapter's example with its rules, which holds. -/
import Derived.Test.YtohgaknojkdohaaGreatDoorGrGram
namespace Go.Proofs.YtohgaknojkdohaaGreatDoor.Gr
open Go.RowKit

theorem tmod_neg (n d : Int) (hd : 0 < d) (h : n.tmod d < 0) : n.tmod d + d = n % d := by
  rw [Int.tmod_eq_emod] at *
  have h4 := Int.emod_nonneg n (show d ≠ 0 by omega)
  split at h
  · omega
  · rename_i hc; rw [if_neg hc]; omega
theorem tmod_pos (n d : Int) (hd : 0 < d) (h : 0 ≤ n.tmod d) : n.tmod d = n % d := by
  rw [Int.tmod_eq_emod] at *
  have h5 := Int.emod_lt_of_pos n hd
  split at h
  · rename_i hc; rw [if_pos hc]; omega
  · omega
theorem lwithin_any (a n : Int) (w : World) (hn : 0 < n) (hn1 : n ≤ 100000000) : Calls Tryz.prog 93 #[.int .i64 a, .int .i64 n] w fun e w' => e = .returned (.int .i64 (a % n)) ∧ w' = w := by
  have hz : (n == 0) = false := by simp; omega
  have hm1 : n ≠ -1 := by omega
  have hz' : n ≠ 0 := by omega
  have t1 : -n < a.tmod n ∧ a.tmod n < n := by
    rw [Int.tmod_eq_emod]
    have h4 := Int.emod_nonneg a (show n ≠ 0 by omega)
    have h5 := Int.emod_lt_of_pos a hn
    have h6 : ((n.natAbs : Nat) : Int) = n := by omega
    split
    · omega
    · rename_i hc
      have : a % n ≠ 0 := fun h => hc (Or.inr (Int.dvd_of_emod_eq_zero h))
      omega
  by_cases h : a.tmod n < 0
  · have E := hid (tmod_neg a n hn h)
    generalize a % n = q at *
    go_enter Tryz.func93, Tryz.ntmps93
    go_wp2
    go_ret
    exact ⟨ret_int E.out, rfl⟩
  · have E := hid (tmod_pos a n hn (by omega))
    generalize a % n = q at *
    go_enter Tryz.func93, Tryz.ntmps93
    go_wp2
    go_ret
    exact ⟨ret_int E.out, rfl⟩

theorem row_two (w : World) (x y : Int) (g : Nat) (hg : g = w.heap.size) : Row (w.alloc (.cells #[.int .i64 x, .int .i64 y] 3)) (.slice (some ⟨g, 0, none⟩) 2 2) [x, y] := by
  subst hg
  refine ⟨_, _, rfl, by unfold maxLen; simp, fun j hj => ⟨_, rfl, ?_⟩⟩
  rw [Addr.add_lit, new_cell]
  have hj2 : j < 2 := by simpa using hj
  rcases (show j = 0 ∨ j = 1 by omega) with rfl | rfl <;> rfl
theorem rules_nil (w : World) : RulesAt w (.slice none 0 0) [] := ⟨none, 0, rfl, by simp, fun j hj => by simp at hj⟩
theorem rules_one (w : World) (r : Rule) (sv pv : Value) (h1 : Row w sv r.rhs) (h2 : Row w pv r.p) (g : Nat) (hg : g = w.heap.size) : RulesAt (w.alloc (.cells #[.int .i64 r.lhs, sv, .int .i64 r.op, pv, .int .i64 r.cost] 56)) (.slice (some ⟨g, 0, none⟩) 1 1) [r] := by
  subst hg
  refine ⟨_, _, rfl, by simp, fun j hj => ⟨_, _, rfl, ?_⟩⟩
  obtain rfl : j = 0 := by simp at hj; exact hj
  exact ⟨sv, pv, by rw [new_cell]; rfl, by rw [new_cell]; rfl, by rw [new_cell]; rfl, by rw [new_cell]; rfl, by rw [new_cell]; rfl, h1.on (up_alloc _ _), h2.on (up_alloc _ _)⟩
theorem rules_two (w : World) (r r' : Rule) (sv pv sv' pv' : Value) (h1 : Row w sv r.rhs) (h2 : Row w pv r.p) (h1' : Row w sv' r'.rhs) (h2' : Row w pv' r'.p) (g : Nat) (hg : g = w.heap.size) : RulesAt (w.alloc (.cells #[.int .i64 r.lhs, sv, .int .i64 r.op, pv, .int .i64 r.cost, .int .i64 r'.lhs, sv', .int .i64 r'.op, pv', .int .i64 r'.cost] 56)) (.slice (some ⟨g, 0, none⟩) 2 2) [r, r'] := by
  subst hg
  refine ⟨_, _, rfl, by simp, fun j hj => ⟨_, _, rfl, ?_⟩⟩
  have hj2 : j < 2 := by simpa using hj
  rcases (show j = 0 ∨ j = 1 by omega) with rfl | rfl
  · exact ⟨sv, pv, by rw [new_cell]; rfl, by rw [new_cell]; rfl, by rw [new_cell]; rfl, by rw [new_cell]; rfl, by rw [new_cell]; rfl, h1.on (up_alloc _ _), h2.on (up_alloc _ _)⟩
  · exact ⟨sv', pv', by rw [new_cell]; rfl, by rw [new_cell]; rfl, by rw [new_cell]; rfl, by rw [new_cell]; rfl, by rw [new_cell]; rfl, h1'.on (up_alloc _ _), h2'.on (up_alloc _ _)⟩

/-! the chapter's example -/
def aR : Rule := ⟨0, [1], 0, [0], 0⟩
def bR : Rule := ⟨1, [0], 0, [0], 0⟩
theorem right_a : right aR = true := by decide
theorem right_b : right bR = true := by decide
theorem edge_a (L : Nat) (hL : 1 ≤ L) (x y : Nat) : edge L [aR] x y = true ↔ x = 0 ∧ y = 1 := by
  simp [edge, aR]
  omega
theorem reach_a (L : Nat) (hL : 1 ≤ L) (x y : Nat) : Reach (edge L [aR]) x y ↔ x = 0 ∧ y = 1 := by
  constructor
  · intro h
    exact h (fun y => x = 0 ∧ y = 1) (fun y e => (edge_a L hL x y).1 e) (fun p q hp e => by have := (edge_a L hL p q).1 e; omega)
  · intro h
    exact .step ((edge_a L hL x y).2 h)
theorem check_nil : check [] = true := by
  have : noRound [] := fun i h => by
    obtain ⟨y, hy⟩ := h.first
    simp [edge] at hy
  simp [check_eq, this]
theorem check_a : check [aR] = true := by
  have : noRound [aR] := fun i h => by
    have := (reach_a 1 (by decide) i i).1 h
    omega
  simp [check_eq, this, right_a]
theorem check_ab : check [aR, bR] = false := by
  have : ¬ noRound [aR, bR] := fun h => h 0 ((Reach.step (y := 1) (by decide)).snoc (by decide))
  simp [check_eq, this]
theorem units_a : (unitsL [aR] 0).length = 1 := by
  have : unitsL [aR] 0 = symL (fun j => decide (j = 1)) := symL_congr (fun j _ => by rw [Bool.eq_iff_iff, edge_a 1 (by decide)]; simp)
  rw [this]; decide
theorem reached_a : reachedL [aR] = [0, 1] := by
  have : reachedL [aR] = symL (fun j => decide (j = 0 ∨ j = 1)) := symL_congr (fun j _ => by rw [Bool.eq_iff_iff, reachedS_iff (by simp [right_a]), reach_a 6 (by decide)]; simp)
  rw [this]; decide

end Go.Proofs.YtohgaknojkdohaaGreatDoor.Gr
