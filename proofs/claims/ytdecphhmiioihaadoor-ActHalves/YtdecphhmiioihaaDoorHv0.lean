/- Times by halves of a day: what is made of them. The table of how many numbers a kind has, and what an action stops with, are as listed. -/
import Derived.Test.YtdecphhmiioihaaDoorCards
import Derived.Test.YtdecphhmiioihaaDoorTie
import Derived.Test.YtdecphhmiioihaaDoorTab
import Derived.ProofKit
import Derived.OpenShut
import Derived.Lay
import Derived.SevenTiedAt
import Derived.Stop.Joined
import Derived.Lib.LaidTab
namespace Go.Proofs.YtdecphhmiioihaaDoor
open Go.ChangeShapes Go.WideShapes Go.ChangeAt Go.RowKit

theorem time_right (h i s : Int) : rightB ⟨5, [h, i, s]⟩ = Ci.clockB h i s := by
  show (wholeB ⟨5, [h, i, s]⟩ && Ci.clockB h i s) = _
  rw [show wholeB ⟨5, [h, i, s]⟩ = true from rfl, Bool.true_and]
theorem clock_iff (h i s : Int) : Ci.clockB h i s = true ↔ (0 ≤ h ∧ h ≤ 23) ∧ (0 ≤ i ∧ i ≤ 59) ∧ (0 ≤ s ∧ s ≤ 59) := by
  unfold Ci.clockB Ci.inB
  simp [and_assoc]
theorem half2_made (r : Mom) (x h : Int) (h0 : 0 ≤ h) (h1 : h ≤ 1) :
    doO 4 (madeO 4 r [⟨1, [x, 2]⟩, ⟨2, [h]⟩]) = if 1 ≤ x ∧ x ≤ 12 then some ⟨5, [x % 12 + 12 * h, 0, 0]⟩ else none := by
  show doO 4 (half2O ⟨1, [x, 2]⟩ ⟨2, [h]⟩) = _
  have e : half2O ⟨1, [x, 2]⟩ ⟨2, [h]⟩ = if inB x 1 12 = true then if inB h 0 1 = true then some ⟨5, [x % 12 + 12 * h, 0, 0]⟩ else none else none := rfl
  rw [e, if_pos (inB_true h0 h1)]
  by_cases hh : 1 ≤ x ∧ x ≤ 12
  · rw [if_pos hh, if_pos (inB_true hh.1 hh.2)]
    refine if_pos (.inr ?_)
    rw [time_right, clock_iff]; omega
  · rw [if_neg hh, if_neg (by rw [inB_iff]; exact hh)]; rfl
theorem half3_made (r : Mom) (x n h : Int) (h0 : 0 ≤ h) (h1 : h ≤ 1) (hn : 0 ≤ n) :
    doO 4 (madeO 4 r [⟨1, [x, 2]⟩, ⟨1, [n, 2]⟩, ⟨2, [h]⟩]) = if (1 ≤ x ∧ x ≤ 12) ∧ n ≤ 59 then some ⟨5, [x % 12 + 12 * h, n, 0]⟩ else none := by
  show doO 4 (half3O ⟨1, [x, 2]⟩ ⟨1, [n, 2]⟩ ⟨2, [h]⟩) = _
  have e : half3O ⟨1, [x, 2]⟩ ⟨1, [n, 2]⟩ ⟨2, [h]⟩ = if inB x 1 12 = true then if inB h 0 1 = true then some ⟨5, [x % 12 + 12 * h, n, 0]⟩ else none else none := rfl
  rw [e, if_pos (inB_true h0 h1)]
  by_cases hh : 1 ≤ x ∧ x ≤ 12
  · rw [if_pos (inB_true hh.1 hh.2)]
    show (if (4 : Nat) = 0 ∨ rightB ⟨5, [x % 12 + 12 * h, n, 0]⟩ = true then some _ else none) = _
    by_cases hn2 : n ≤ 59
    · rw [if_pos (show (1 ≤ x ∧ x ≤ 12) ∧ n ≤ 59 from ⟨hh, hn2⟩)]
      refine if_pos (Or.inr ?_)
      rw [time_right, clock_iff]; omega
    · rw [if_neg (show ¬ ((1 ≤ x ∧ x ≤ 12) ∧ n ≤ 59) from fun h => hn2 h.2)]
      refine if_neg ?_
      rw [time_right, clock_iff]; omega
  · rw [if_neg (show ¬ ((1 ≤ x ∧ x ≤ 12) ∧ n ≤ 59) from fun h => hh h.1), if_neg (show ¬ inB x 1 12 = true by rw [inB_iff]; exact hh)]; rfl
end Go.Proofs.YtdecphhmiioihaaDoor
