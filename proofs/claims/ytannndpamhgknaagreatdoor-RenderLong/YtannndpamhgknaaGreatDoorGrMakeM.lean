/- What the statements' Make makes of a raw rule, in plain words; it is a right rule. -/
import Derived.Test.YtannndpamhgknaaGreatDoorGrRaws
import Derived.Test.YtannndpamhgknaaGreatDoorGrBoxes
namespace Go.Proofs.YtannndpamhgknaaGreatDoor.Gr
open Go.RowKit

def classes : List Int := [0, 0, 0, 1, 2, 3, 50, 51, 52, 53, 54]
def mkOp (r : Raw) : Int := r.op % 16
def mkN (r : Raw) : Nat := (lows.getD (mkOp r).toNat 0).toNat
def takeAt (l : List Int) (i : Nat) : Int := if i < l.length then l.getD i 0 else (i : Int)
def partOf (sym : Int) (k : Int) : Int := if (k.tdiv 20) % 2 = 0 then -1 - classes.getD ((k.tdiv 40) % 11).toNat 0 else k % sym
def mkPart (r : Raw) (sym : Int) (i : Nat) : Int := partOf sym (takeAt r.rhs i)
/-- How many parts: the loop's condition, round by round. -/
def mkGo (r : Raw) (i : Nat) : Bool := decide (i < 1 + r.rhs.length % 3) || (decide (i < mkN r) && decide ((r.op.tdiv 16) % 2 = 0))
def mkC (r : Raw) : Nat := if (r.op.tdiv 16) % 2 = 0 then max (1 + r.rhs.length % 3) (mkN r) else 1 + r.rhs.length % 3
def mkRhs (r : Raw) (sym : Int) (j : Nat) : List Int := (List.range j).map (mkPart r sym)
def mkPs (r : Raw) (c : Nat) (j : Nat) : List Int := (List.range j).map fun i : Nat => takeAt r.p i % (c : Int)
def mkRule (r : Raw) (sym : Int) : Rule := ⟨r.lhs % sym, mkRhs r sym (mkC r), mkOp r, mkPs r (mkC r) (mkN r), r.cost % 101⟩

theorem mkRhs_succ (r : Raw) (sym : Int) (j : Nat) : mkRhs r sym (j + 1) = mkRhs r sym j ++ [mkPart r sym j] := by simp [mkRhs, List.range_succ]
theorem mkPs_succ (r : Raw) (c j : Nat) : mkPs r c (j + 1) = mkPs r c j ++ [takeAt r.p j % (c : Int)] := by simp [mkPs, List.range_succ]
theorem mkRhs_length (r : Raw) (sym : Int) (j : Nat) : (mkRhs r sym j).length = j := by simp [mkRhs]
theorem mkPs_length (r : Raw) (c j : Nat) : (mkPs r c j).length = j := by simp [mkPs]
theorem mkOp_range (r : Raw) : 0 ≤ mkOp r ∧ mkOp r < 16 := by unfold mkOp; omega
theorem lows_range (k : Nat) (h : k < 16) : 1 ≤ lows.getD k 0 ∧ lows.getD k 0 ≤ 3 ∧ lows.getD k 0 ≤ highs.getD k 0 := by
  have : ∀ k : Fin 16, 1 ≤ lows.getD k.1 0 ∧ lows.getD k.1 0 ≤ 3 ∧ lows.getD k.1 0 ≤ highs.getD k.1 0 := by decide
  exact this ⟨k, h⟩
theorem mkN_eq (r : Raw) : ((mkN r : Nat) : Int) = lows.getD (mkOp r).toNat 0 := by
  have h := mkOp_range r
  have := lows_range (mkOp r).toNat (by omega)
  unfold mkN
  omega
theorem mkN_range (r : Raw) : 1 ≤ mkN r ∧ mkN r ≤ 3 := by
  have h := mkOp_range r
  have := lows_range (mkOp r).toNat (by omega)
  unfold mkN
  omega
theorem mkGo_iff (r : Raw) (i : Nat) : mkGo r i = decide (i < mkC r) := by
  unfold mkGo mkC
  by_cases h : (r.op.tdiv 16) % 2 = 0
  · rw [if_pos h]
    rw [Bool.eq_iff_iff]
    simp [h]
    omega
  · rw [if_neg h]
    simp [h]
theorem mkC_range (r : Raw) : 1 ≤ mkC r ∧ mkC r ≤ 3 := by
  have := mkN_range r
  have h3 : r.rhs.length % 3 < 3 := Nat.mod_lt _ (by decide)
  unfold mkC
  split <;> omega
theorem classes_range (k : Nat) : 0 ≤ classes.getD k 0 ∧ classes.getD k 0 ≤ 54 := by
  by_cases h : k < 11
  · have : ∀ k : Fin 11, 0 ≤ classes.getD k.1 0 ∧ classes.getD k.1 0 ≤ 54 := by decide
    exact this ⟨k, h⟩
  · rw [List.getD_eq_getElem?_getD, List.getElem?_eq_none (by simp [classes]; omega)]
    decide
end Go.Proofs.YtannndpamhgknaaGreatDoor.Gr
