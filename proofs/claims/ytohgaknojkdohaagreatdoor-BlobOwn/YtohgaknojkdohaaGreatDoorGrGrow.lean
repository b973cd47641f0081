/- Rows of rules that the call itself makes, rule by rule. -/
import Derived.Test.YtohgaknojkdohaaGreatDoorGrKnown
import Derived.Deep.AppendLies
namespace Go.Proofs.YtohgaknojkdohaaGreatDoor.Gr
open Go.RowKit

theorem info_rule : (Tryz.prog.info? 56).map (fun i => (i.zero, i.size, i.bytes)) = some (some (.agg #[.int .i64 0, .slice none 0 0, .int .i64 0, .slice none 0 0, .int .i64 0]), 5, 72) := by kernel_rfl

/-- A rule's row does not lie in the row of rules. -/
def Off (sv : Value) (xs : List Int) (v : Value) : Prop := xs = [] ∨ sv.ownBlock ≠ v.ownBlock
/-- The five cells of rule j, in a list of cells. -/
def RuleCells (w : World) (v : Value) (cs : List Value) (j : Nat) (r : Rule) : Prop :=
  ∃ sv pv, cs[j * 5]? = some (.int .i64 r.lhs) ∧ cs[j * 5 + 1]? = some sv ∧ cs[j * 5 + 2]? = some (.int .i64 r.op) ∧ cs[j * 5 + 3]? = some pv ∧ cs[j * 5 + 4]? = some (.int .i64 r.cost) ∧ Row w sv r.rhs ∧ Row w pv r.p ∧ Off sv r.rhs v ∧ Off pv r.p v
/-- A row of rules that the call itself made, from block B on. -/
def RulesNew (w : World) (B : Nat) (v : Value) (rs : List Rule) : Prop :=
  ∃ cs : List Value, w.ownsRow B 56 5 v rs.length cs ∧ ∀ j r, rs[j]? = some r → RuleCells w v cs j r

theorem RulesNew.nil (w : World) (B : Nat) : RulesNew w B (.slice none 0 0) [] := ⟨[], World.ownsRow_nil _ _ _ _, fun j r h => by simp at h⟩
theorem RulesNew.on {w w' : World} {B : Nat} {v : Value} {rs : List Rule} (h : RulesNew w B v rs) (hb : Below w.heap.size w w') : RulesNew w' B v rs := by
  obtain ⟨cs, h1, h2⟩ := h
  refine ⟨cs, owns_below h1 hb, fun j r hr => ?_⟩
  obtain ⟨sv, pv, a0, a1, a2, a3, a4, h5, h6, h7⟩ := h2 j r hr
  exact ⟨sv, pv, a0, a1, a2, a3, a4, h5.on hb, h6.on hb, h7⟩
theorem RulesNew.own {w : World} {B : Nat} {v : Value} {rs : List Rule} (h : RulesNew w B v rs) : ∀ k, v.ownBlock = some k → B ≤ k ∧ k < w.heap.size := by
  obtain ⟨cs, h1, _⟩ := h
  exact h1.lt
theorem RulesNew.rules {w : World} {B : Nat} {v : Value} {rs : List Rule} (h : RulesNew w B v rs) (hl : rs.length ≤ 1000000) : RulesAt w v rs := by
  obtain ⟨cs, h1, h2⟩ := h
  rcases h1.2 with ⟨rfl, h0⟩ | ⟨g, cap, cur, rfl, hb, hg, hn, hm, hs, ht⟩
  · have : rs = [] := List.eq_nil_of_length_eq_zero h0
    subst this
    exact rules_nil w
  · refine ⟨_, _, rfl, hl, fun j hj => ⟨g, 0, rfl, ?_⟩⟩
    obtain ⟨sv, pv, a0, a1, a2, a3, a4, h5, h6, _⟩ := h2 j _ (rule_at hj)
    have hc : ∀ k, k < rs.length * 5 → w.cell? ⟨g, k, none⟩ = cs[k]? := fun k hk => h1.cellAt k hk
    rw [Nat.zero_add]
    exact ⟨sv, pv, by rw [hc _ (by omega), a0], by rw [hc _ (by omega), a1], by rw [hc _ (by omega), a2], by rw [hc _ (by omega), a3], by rw [hc _ (by omega), a4], h5, h6⟩

theorem off_new {w : World} {B : Nat} {v : Value} {rs : List Rule} (h : RulesNew w B v rs) {g : Nat} (hg : w.heap.size ≤ g) (o n c : Nat) (xs : List Int) : Off (.slice (some ⟨g, o, none⟩) n c) xs v :=
  .inr (fun e => by have := (h.own g e.symm).2; omega)

theorem wpList_append_rule (w : World) {ops : Array Oper} {rest : List Oper} {o : Oper} {a : Act} {Q : Exit → Act → World → Prop} (hgd : o.guard = none) (s x : Operand)
    (ho : o.op = .call { callee := .builtin .append, args := #[s, x], argTypes := #[41, 41] })
    (B : Nat) (v : Value) (rs : List Rule) (hs : a.eval s = v) (h : RulesNew w B v rs) (r : Rule) (sv pv : Value) (h1 : Row w sv r.rhs) (h2 : Row w pv r.p) (o1 : Off sv r.rhs v) (o2 : Off pv r.p v)
    (g0 : Nat) (hx : a.eval x = .slice (some ⟨g0, 0, none⟩) 1 1) (hbox : Box w g0 (.int .i64 r.lhs) sv (.int .i64 r.op) pv (.int .i64 r.cost)) (hl : rs.length ≤ 1000000) (hB : B ≤ w.heap.size)
    (hK : ∀ g cap w', RulesNew w' B (.slice (some ⟨g, 0, none⟩) (rs.length + 1) cap) (rs ++ [r]) → w.grownBy w' v.ownBlock → (v.ownBlock = some g ∨ g = w.heap.size) → wpList Tryz.prog ops Q rest (a.put o.dst (.slice (some ⟨g, 0, none⟩) (rs.length + 1) cap)) w') : wpList Tryz.prog ops Q (o :: rest) a w := by
  obtain ⟨i0, hi, hz0, hz1, hz2⟩ := info_parts info_rule
  obtain ⟨cs, ho1, hrs⟩ := h
  have hcl := ho1.1
  have hsv : sv.oneCell' = true := by obtain ⟨ad, cap, rfl, _⟩ := h1; rfl
  have hpv : pv.oneCell' = true := by obtain ⟨ad, cap, rfl, _⟩ := h2; rfl
  refine wpList_append_lies w hgd s x 41 ho B 56 i0 _ 5 72 Tryz.underlying41 hi hz0 hz1 hz2 rfl (by decide) v rs.length cs hs ho1 ⟨g0, 0, none⟩ 1 1 [.int .i64 r.lhs, sv, .int .i64 r.op, pv, .int .i64 r.cost] hx rfl ?_ ?_ (by decide) (by unfold maxLen; omega) (by omega) hB w.heap.size rfl ?_
  · intro j u hj
    rw [Addr.add_lit, Nat.zero_add]
    obtain ⟨b0, b1, b2, b3, b4⟩ := hbox
    match j with
    | 0 => simp at hj; rw [b0, hj]
    | 1 => simp at hj; rw [b1, hj]
    | 2 => simp at hj; rw [b2, hj]
    | 3 => simp at hj; rw [b3, hj]
    | 4 => simp at hj; rw [b4, hj]
    | k + 5 => simp at hj
  · intro u hu
    simp only [List.mem_cons, List.not_mem_nil, or_false] at hu
    rcases hu with rfl | rfl | rfl | rfl | rfl
    · rfl
    · exact hsv
    · rfl
    · exact hpv
    · rfl
  · intro g cap w' ho2 hg hloc hlt
    refine hK g cap w' ⟨cs ++ [.int .i64 r.lhs, sv, .int .i64 r.op, pv, .int .i64 r.cost], by rw [List.length_append]; exact ho2, fun j q hq => ?_⟩ hg hloc
    have hoff : ∀ (u : Value) (xs : List Int), Row w u xs → Off u xs v → Row w' u xs ∧ Off u xs (.slice (some ⟨g, 0, none⟩) (rs.length + 1) cap) := by
      intro u xs hu hof
      refine ⟨row_kept hu hg hof, ?_⟩
      rcases row_block hu with e | ⟨gb, e1, e2⟩
      · exact .inl e
      · rcases hof with e | e
        · exact .inl e
        · right
          rcases hloc with e3 | e3
          · rw [e3] at e; exact e
          · rw [e1]
            simp only [Value.ownBlock, ne_eq, Option.some.injEq]
            omega
    by_cases hj : j < rs.length
    · rw [List.getElem?_append_left hj] at hq
      obtain ⟨u, p, a0, a1, a2, a3, a4, h5, h6, h7, h8⟩ := hrs j q hq
      have k1 := hoff u _ h5 h7
      have k2 := hoff p _ h6 h8
      exact ⟨u, p, by rw [List.getElem?_append_left (by omega)]; exact a0, by rw [List.getElem?_append_left (by omega)]; exact a1, by rw [List.getElem?_append_left (by omega)]; exact a2, by rw [List.getElem?_append_left (by omega)]; exact a3, by rw [List.getElem?_append_left (by omega)]; exact a4, k1.1, k2.1, k1.2, k2.2⟩
    · rw [List.getElem?_append_right (by omega)] at hq
      have hj2 : j = rs.length := by
        have := (List.getElem?_eq_some_iff.1 hq).1
        simp at this; omega
      subst hj2
      simp at hq
      subst hq
      have k1 := hoff sv _ h1 o1
      have k2 := hoff pv _ h2 o2
      have hx : ∀ k, (cs ++ [Value.int .i64 r.lhs, sv, .int .i64 r.op, pv, .int .i64 r.cost])[rs.length * 5 + k]? = [Value.int .i64 r.lhs, sv, .int .i64 r.op, pv, .int .i64 r.cost][k]? := by
        intro k
        have e : rs.length * 5 + k - cs.length = k := by omega
        rw [List.getElem?_append_right (by omega), e]
      exact ⟨sv, pv, hx 0, hx 1, hx 2, hx 3, hx 4, k1.1, k2.1, k1.2, k2.2⟩

end Go.Proofs.YtohgaknojkdohaaGreatDoor.Gr
