/- Rows of rules: what the program's 'all' answers of them. -/
import Derived.Test.YtannndpamhgknaaGreatDoorGrRight
namespace Go.Proofs.YtannndpamhgknaaGreatDoor.Gr
open Go.RowKit

/-- The five cells of one rule. -/
def RuleIn (w : World) (g o : Nat) (r : Rule) : Prop := ∃ sv pv, w.cell? ⟨g, o, none⟩ = some (.int .i64 r.lhs) ∧ w.cell? ⟨g, o + 1, none⟩ = some sv ∧ w.cell? ⟨g, o + 2, none⟩ = some (.int .i64 r.op)
  ∧ w.cell? ⟨g, o + 3, none⟩ = some pv ∧ w.cell? ⟨g, o + 4, none⟩ = some (.int .i64 r.cost) ∧ Row w sv r.rhs ∧ Row w pv r.p
theorem RuleIn.on {w w' : World} {g o : Nat} {r : Rule} (h : RuleIn w g o r) (hb : Below w.heap.size w w') : RuleIn w' g o r := by
  obtain ⟨sv, pv, h0, h1, h2, h3, h4, h5, h6⟩ := h
  exact ⟨sv, pv, (hb.cell (lt_of_cell h0)).trans h0, (hb.cell (lt_of_cell h1)).trans h1, (hb.cell (lt_of_cell h2)).trans h2, (hb.cell (lt_of_cell h3)).trans h3, (hb.cell (lt_of_cell h4)).trans h4, h5.on hb, h6.on hb⟩

def nilRule : Rule := ⟨0, [], 0, [], 0⟩
/-- A slice of rules: its value and the rules that it holds. -/
def RulesAt (w : World) (v : Value) (rs : List Rule) : Prop :=
  ∃ (ad : Option Addr) (cap : Nat), v = .slice ad rs.length cap ∧ rs.length ≤ 1000000 ∧ ∀ j, j < rs.length → ∃ g o, ad = some ⟨g, o, none⟩ ∧ RuleIn w g (o + j * 5) (rs.getD j nilRule)
theorem RulesAt.on {w w' : World} {v : Value} {rs : List Rule} (h : RulesAt w v rs) (hb : Below w.heap.size w w') : RulesAt w' v rs := by
  obtain ⟨ad, cap, h1, h0, h2⟩ := h
  refine ⟨ad, cap, h1, h0, fun j hj => ?_⟩
  obtain ⟨g, o, h3, h4⟩ := h2 j hj
  exact ⟨g, o, h3, h4.on hb⟩
theorem rule_at {rs : List Rule} {j : Nat} (h : j < rs.length) : rs[j]? = some (rs.getD j nilRule) := by
  rw [List.getD_eq_getElem?_getD, List.getElem?_eq_getElem h]; rfl

end Go.Proofs.YtannndpamhgknaaGreatDoor.Gr
