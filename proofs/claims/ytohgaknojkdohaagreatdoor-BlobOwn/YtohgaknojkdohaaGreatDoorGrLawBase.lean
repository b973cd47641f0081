/- What the laws over raw rules have in common. -/
import Derived.Test.YtohgaknojkdohaaGreatDoorGrGrow3
import Derived.Test.YtohgaknojkdohaaGreatDoorGrRawArgs
import Derived.Test.YtohgaknojkdohaaGreatDoorGrMakeM
namespace Go.Proofs.YtohgaknojkdohaaGreatDoor.Gr
open Go.RowKit

theorem off_fresh {w : World} {B : Nat} {sv v : Value} {xs : List Int} (h : RowNew w B sv xs) (hv : ∀ k, v.ownBlock = some k → k < B) : Off sv xs v := by
  cases xs with
  | nil => exact .inl rfl
  | cons x xs =>
    obtain ⟨g, cap, rfl, hg, _⟩ := h.at (by simp)
    exact .inr (fun e => by have := hv g e.symm; omega)
theorem rule_small (r : Raw) (sym : Int) : (mkRule r sym).rhs.length ≤ maxLen ∧ (mkRule r sym).p.length ≤ maxLen := by
  have h1 := mkC_range r
  have h2 := mkN_range r
  simp only [mkRule, mkRhs_length, mkPs_length]
  unfold maxLen
  omega
theorem few_raw {l : List Raw} (h : few l = true) : l.length ≤ 80 ∧ ∀ r ∈ l, r.rhs.length ≤ 20 ∧ r.p.length ≤ 20 := by
  simp only [few, Bool.and_eq_true, decide_eq_true_eq, List.all_eq_true] at h
  refine ⟨h.2, fun r hr => ?_⟩
  have := h.1 r hr
  simpa [fewRaw] using this
/-- A rule of a row that the call itself made: its cells, its rows. -/
theorem RulesNew.get {w : World} {B : Nat} {v : Value} {rs : List Rule} (h : RulesNew w B v rs) {j : Nat} {r : Rule} (hj : rs[j]? = some r) :
    ∃ g cap sv pv, v = .slice (some ⟨g, 0, none⟩) rs.length cap ∧ w.cell? ⟨g, j * 5, none⟩ = some (.int .i64 r.lhs) ∧ w.cell? ⟨g, j * 5 + 1, none⟩ = some sv ∧ w.cell? ⟨g, j * 5 + 2, none⟩ = some (.int .i64 r.op)
      ∧ w.cell? ⟨g, j * 5 + 3, none⟩ = some pv ∧ w.cell? ⟨g, j * 5 + 4, none⟩ = some (.int .i64 r.cost) ∧ Row w sv r.rhs ∧ Row w pv r.p ∧ Off sv r.rhs v ∧ Off pv r.p v := by
  obtain ⟨cs, h1, h2⟩ := h
  have hjl := (List.getElem?_eq_some_iff.1 hj).1
  rcases h1.2 with ⟨rfl, h0⟩ | ⟨g, cap, cur, rfl, _⟩
  · omega
  · obtain ⟨sv, pv, a0, a1, a2, a3, a4, h5, h6, h7, h8⟩ := h2 j r hj
    have hc : ∀ k, k < rs.length * 5 → w.cell? ⟨g, k, none⟩ = cs[k]? := fun k hk => h1.cellAt k hk
    exact ⟨g, cap, sv, pv, rfl, by rw [hc _ (by omega), a0], by rw [hc _ (by omega), a1], by rw [hc _ (by omega), a2], by rw [hc _ (by omega), a3], by rw [hc _ (by omega), a4], h5, h6, h7, h8⟩

end Go.Proofs.YtohgaknojkdohaaGreatDoor.Gr
