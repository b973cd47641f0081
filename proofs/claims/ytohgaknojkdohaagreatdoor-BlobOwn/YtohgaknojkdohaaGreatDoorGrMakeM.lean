/- What the statements' Make makes of a raw rule, in plain words; it is a right rule. -/
import Derived.Test.YtohgaknojkdohaaGreatDoorGrRaws
import Derived.Test.YtohgaknojkdohaaGreatDoorGrBoxes
namespace Go.Proofs.YtohgaknojkdohaaGreatDoor.Gr
open Go.RowKit

def classes : List Int := [0, 0, 0, 1, 2, 3, 50, 51, 52, 53, 54]
def mkOp (r : Raw) : Int := r.op % 16
def mkN (r : Raw) : Nat := (lows.getD (mkOp r).toNat 0).toNat
def takeAt (l : List Int) (i : Nat) : Int := if i < l.length then l.getD i 0 else (i : Int)
def partOf (sym : Int) (k : Int) : Int := if (k.tdiv 20) % 2 = 0 then -1 - classes.getD ((k.tdiv 40) % 11).toNat 0 else k % sym
def mkPart (r : Raw) (sym : Int) (i : Nat) : Int := partOf sym (takeAt r.rhs i)
/-- How many parts: the loop's condition, round by round. -/
def mkGo (r : Raw) (i : Nat) : Bool := decide (i < 1 + r.rhs.length % 3) || (decide (i < mkN r) && decide ((r.op.tdiv 16) % 2 = 0))
def mkC (r : Raw) : Nat := if (r.op.tdiv 16) % 2 = 0 then max (1 + r.rhs.length % 3) (mkN r) else 1 + r.rhs.length % 3
def mkRhs (r : Raw) (sym : Int) (j : Nat) : List Int := (List.range j).map (mkPart r sym)
def mkPs (r : Raw) (c : Nat) (j : Nat) : List Int := (List.range j).map fun i : Nat => takeAt r.p i % (c : Int)
def mkRule (r : Raw) (sym : Int) : Rule := ⟨r.lhs % sym, mkRhs r sym (mkC r), mkOp r, mkPs r (mkC r) (mkN r), r.cost % 101⟩

theorem mkRhs_succ (r : Raw) (sym : Int) (j : Nat) : mkRhs r sym (j + 1) = mkRhs r sym j ++ [mkPart r sym j] := by simp [mkRhs, List.range_succ]
theorem mkPs_succ (r : Raw) (c j : Nat) : mkPs r c (j + 1) = mkPs r c j ++ [takeAt r.p j % (c : Int)] := by simp [mkPs, List.range_succ]
theorem mkRhs_length (r : Raw) (sym : Int) (j : Nat) : (mkRhs r sym j).length = j := by simp [mkRhs]
theorem mkPs_length (r : Raw) (c j : Nat) : (mkPs r c j).length = j := by simp [mkPs]
theorem mkOp_range (r : Raw) : 0 ≤ mkOp r ∧ mkOp r < 16 := by unfold mkOp; omega
theorem lows_range (k : Nat) (h : k < 16) : 1 ≤ lows.getD k 0 ∧ lows.getD k 0 ≤ 3 ∧ lows.getD k 0 ≤ highs.getD k 0 := by
  have : ∀ k : Fin 16, 1 ≤ lows.getD k.1 0 ∧ lows.getD k.1 0 ≤ 3 ∧ lows.getD k.1 0 ≤ highs.getD k.1 0 := by decide
  exact this ⟨k, h⟩
theorem mkN_eq (r : Raw) : ((mkN r : Nat) : Int) = lows.getD (mkOp r).toNat 0 := by
  have h := mkOp_range r
  have := lows_range (mkOp r).toNat (by omega)
  unfold mkN
  omega
theorem mkN_range (r : Raw) : 1 ≤ mkN r ∧ mkN r ≤ 3 := by
  have h := mkOp_range r
  have := lows_range (mkOp r).toNat (by omega)
  unfold mkN
  omega
theorem mkGo_iff (r : Raw) (i : Nat) : mkGo r i = decide (i < mkC r) := by
  unfold mkGo mkC
  by_cases h : (r.op.tdiv 16) % 2 = 0
  · rw [if_pos h]
    rw [Bool.eq_iff_iff]
    simp [h]
    omega
  · rw [if_neg h]
    simp [h]
theorem mkC_range (r : Raw) : 1 ≤ mkC r ∧ mkC r ≤ 3 := by
  have := mkN_range r
  have h3 : r.rhs.length % 3 < 3 := Nat.mod_lt _ (by decide)
  unfold mkC
  split <;> omega
theorem classes_range (k : Nat) : 0 ≤ classes.getD k 0 ∧ classes.getD k 0 ≤ 54 := by
  by_cases h : k < 11
  · have : ∀ k : Fin 11, 0 ≤ classes.getD k.1 0 ∧ classes.getD k.1 0 ≤ 54 := by decide
    exact this ⟨k, h⟩
  · rw [List.getD_eq_getElem?_getD, List.getElem?_eq_none (by simp [classes]; omega)]
    decide
theorem part_range (sym k : Int) (hs : 1 ≤ sym ∧ sym ≤ 20) : -61 ≤ partOf sym k ∧ partOf sym k ≤ 19 := by
  unfold partOf
  split
  · have := classes_range ((k.tdiv 40) % 11).toNat
    omega
  · have h1 := Int.emod_nonneg k (show sym ≠ 0 by omega)
    have h2 := Int.emod_lt_of_pos k (show 0 < sym by omega)
    omega
theorem make_right (r : Raw) (sym : Int) (hs : 1 ≤ sym ∧ sym ≤ 20) : right (mkRule r sym) = true := by
  have hC := mkC_range r
  have hN := mkN_range r
  have hO := mkOp_range r
  have h1 : inB (r.lhs % sym) 0 19 = true := inB_true (by
    have h1 := Int.emod_nonneg r.lhs (show sym ≠ 0 by omega)
    have h2 := Int.emod_lt_of_pos r.lhs (show 0 < sym by omega)
    omega)
  have h2 : inB ((mkC r : Nat) : Int) 1 6 = true := inB_true (by omega)
  have h3 : (mkRhs r sym (mkC r)).all isPart = true := by
    rw [List.all_eq_true]
    intro x hx
    obtain ⟨i, _, rfl⟩ := List.mem_map.1 hx
    exact inB_true (part_range sym _ hs)
  have h4 : inB (r.cost % 101) 0 100 = true := inB_true (by omega)
  have h5 : inB (mkOp r) 0 15 = true := inB_true (by omega)
  have h6 : asked (mkOp r) ((mkN r : Nat) : Int) = true := by
    have := lows_range (mkOp r).toNat (by omega)
    have e := mkN_eq r
    exact inB_true (by omega)
  have h7 : (mkPs r (mkC r) (mkN r)).all (isPlace (mkC r)) = true := by
    rw [List.all_eq_true]
    intro x hx
    obtain ⟨i, _, rfl⟩ := List.mem_map.1 hx
    have h1 := Int.emod_nonneg (takeAt r.p i) (show ((mkC r : Nat) : Int) ≠ 0 by omega)
    have h2 := Int.emod_lt_of_pos (takeAt r.p i) (show 0 < ((mkC r : Nat) : Int) by omega)
    exact inB_true (by omega)
  simp only [right, isSym, rhsOk, actOk, mkRule, mkRhs_length, mkPs_length, h1, h2, h3, h4, h5, h6, h7, Bool.and_self]

end Go.Proofs.YtohgaknojkdohaaGreatDoor.Gr
