/- Right of package gram answers what the document says of a rule, whatever its numbers are. -/
import Derived.Test.YtannndpamhgknaaGreatDoorGrLeaf
namespace Go.Proofs.YtannndpamhgknaaGreatDoor.Gr
open Go.RowKit

theorem cell_of_row (w : World) (g o : Nat) (cs : Array Value) (t : TypeId) (fr : Nat × Nat) (h : w.heap[g]? = some (.cells cs t fr)) : w.cell? ⟨g, o, none⟩ = cs[o]? := by
  simp [World.cell?, h]
theorem row_new (w : World) (o : Obj) : (w.alloc o).heap[w.heap.size]? = some o := by
  show (w.heap.push o)[w.heap.size]? = some o
  simp
theorem new_cell (w : World) (cs : Array Value) (t : TypeId) (k : Nat) : (w.alloc (.cells cs t)).cell? ⟨w.heap.size, k, none⟩ = cs[k]? := cell_of_row _ _ _ _ _ _ (row_new w _)

/-- A rule's value, and the rule that it is. -/
def RuleAt (w : World) (v : Value) (r : Rule) : Prop := ∃ sv pv, v = ruleV r sv pv ∧ Row w sv r.rhs ∧ Row w pv r.p
theorem RuleAt.on {w w' : World} {v : Value} {r : Rule} (h : RuleAt w v r) (hb : Below w.heap.size w w') : RuleAt w' v r := by
  obtain ⟨sv, pv, h1, h2, h3⟩ := h
  exact ⟨sv, pv, h1, h2.on hb, h3.on hb⟩

end Go.Proofs.YtannndpamhgknaaGreatDoor.Gr
