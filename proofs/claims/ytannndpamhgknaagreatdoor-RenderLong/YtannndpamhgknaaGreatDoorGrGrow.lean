/- Rows of rules that the call itself makes, rule by rule. -/
import Derived.Test.YtannndpamhgknaaGreatDoorGrKnown
import Derived.Deep.AppendLies
namespace Go.Proofs.YtannndpamhgknaaGreatDoor.Gr
open Go.RowKit

theorem info_rule : (Tryz.prog.info? 120).map (fun i => (i.zero, i.size, i.bytes)) = some (some (.agg #[.int .i64 0, .slice none 0 0, .int .i64 0, .slice none 0 0, .int .i64 0]), 5, 72) := by kernel_rfl

/-- A rule's row does not lie in the row of rules. -/
def Off (sv : Value) (xs : List Int) (v : Value) : Prop := xs = [] ∨ sv.ownBlock ≠ v.ownBlock
/-- The five cells of rule j, in a list of cells. -/
def RuleCells (w : World) (v : Value) (cs : List Value) (j : Nat) (r : Rule) : Prop :=
  ∃ sv pv, cs[j * 5]? = some (.int .i64 r.lhs) ∧ cs[j * 5 + 1]? = some sv ∧ cs[j * 5 + 2]? = some (.int .i64 r.op) ∧ cs[j * 5 + 3]? = some pv ∧ cs[j * 5 + 4]? = some (.int .i64 r.cost) ∧ Row w sv r.rhs ∧ Row w pv r.p ∧ Off sv r.rhs v ∧ Off pv r.p v
/-- A row of rules that the call itself made, from block B on. -/
def RulesNew (w : World) (B : Nat) (v : Value) (rs : List Rule) : Prop :=
  ∃ cs : List Value, w.ownsRow B 120 5 v rs.length cs ∧ ∀ j r, rs[j]? = some r → RuleCells w v cs j r

theorem RulesNew.nil (w : World) (B : Nat) : RulesNew w B (.slice none 0 0) [] := ⟨[], World.ownsRow_nil _ _ _ _, fun j r h => by simp at h⟩
theorem RulesNew.on {w w' : World} {B : Nat} {v : Value} {rs : List Rule} (h : RulesNew w B v rs) (hb : Below w.heap.size w w') : RulesNew w' B v rs := by
  obtain ⟨cs, h1, h2⟩ := h
  refine ⟨cs, owns_below h1 hb, fun j r hr => ?_⟩
  obtain ⟨sv, pv, a0, a1, a2, a3, a4, h5, h6, h7⟩ := h2 j r hr
  exact ⟨sv, pv, a0, a1, a2, a3, a4, h5.on hb, h6.on hb, h7⟩
theorem RulesNew.own {w : World} {B : Nat} {v : Value} {rs : List Rule} (h : RulesNew w B v rs) : ∀ k, v.ownBlock = some k → B ≤ k ∧ k < w.heap.size := by
  obtain ⟨cs, h1, _⟩ := h
  exact h1.lt
theorem RulesNew.rules {w : World} {B : Nat} {v : Value} {rs : List Rule} (h : RulesNew w B v rs) (hl : rs.length ≤ 1000000) : RulesAt w v rs := by
  obtain ⟨cs, h1, h2⟩ := h
  rcases h1.2 with ⟨rfl, h0⟩ | ⟨g, cap, cur, rfl, hb, hg, hn, hm, hs, ht⟩
  · have : rs = [] := List.eq_nil_of_length_eq_zero h0
    subst this
    exact rules_nil w
  · refine ⟨_, _, rfl, hl, fun j hj => ⟨g, 0, rfl, ?_⟩⟩
    obtain ⟨sv, pv, a0, a1, a2, a3, a4, h5, h6, _⟩ := h2 j _ (rule_at hj)
    have hc : ∀ k, k < rs.length * 5 → w.cell? ⟨g, k, none⟩ = cs[k]? := fun k hk => h1.cellAt k hk
    rw [Nat.zero_add]
    exact ⟨sv, pv, by rw [hc _ (by omega), a0], by rw [hc _ (by omega), a1], by rw [hc _ (by omega), a2], by rw [hc _ (by omega), a3], by rw [hc _ (by omega), a4], h5, h6⟩

end Go.Proofs.YtannndpamhgknaaGreatDoor.Gr
