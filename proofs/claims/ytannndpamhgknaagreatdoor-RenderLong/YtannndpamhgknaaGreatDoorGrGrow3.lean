/- Rows of rules that the call itself makes: one rule more, in a region that draws its order. -/
import Derived.Test.YtannndpamhgknaaGreatDoorGrGrow2
import Derived.Deep.RegionLaw
import Derived.Deep.AppendLies
namespace Go.Proofs.YtannndpamhgknaaGreatDoor.Gr
open Go.RowKit

theorem step_append_rule (w : World) {ops : Array Oper} {o : Oper} {a : Act} {K : Act → World → Prop} {Q : Exit → Act → World → Prop} {E : Prop} (hgd : o.guard = none) (s x : Operand)
    (ho : o.op = .call { callee := .builtin .append, args := #[s, x], argTypes := #[30, 30] })
    (B : Nat) (v : Value) (rs : List Rule) (hs : a.eval s = v) (h : RulesNew w B v rs) (r : Rule) (sv pv : Value) (h1 : Row w sv r.rhs) (h2 : Row w pv r.p) (o1 : Off sv r.rhs v) (o2 : Off pv r.p v)
    (g0 : Nat) (hx : a.eval x = .slice (some ⟨g0, 0, none⟩) 1 1) (hbox : Box w g0 (.int .i64 r.lhs) sv (.int .i64 r.op) pv (.int .i64 r.cost)) (hl : rs.length ≤ 1000000) (hB : B ≤ w.heap.size)
    (hK : ∀ g cap w', RulesNew w' B (.slice (some ⟨g, 0, none⟩) (rs.length + 1) cap) (rs ++ [r]) → w.grownBy w' v.ownBlock → (v.ownBlock = some g ∨ g = w.heap.size) → K (a.put o.dst (.slice (some ⟨g, 0, none⟩) (rs.length + 1) cap)) w') : if Region.wanted o (yielded ops a.tmps) = true then Oper.wp Tryz.prog o a w K Q else E := by
  obtain ⟨i0, hi, hz0, hz1, hz2⟩ := info_parts info_rule
  obtain ⟨cs, ho1, hrs⟩ := h
  have hcl := ho1.1
  have hsv : sv.oneCell' = true := by obtain ⟨ad, cap, rfl, _⟩ := h1; rfl
  have hpv : pv.oneCell' = true := by obtain ⟨ad, cap, rfl, _⟩ := h2; rfl
  refine step_append_lies w hgd s x 30 ho B 120 i0 _ 5 72 Tryz.underlying30 hi hz0 hz1 hz2 rfl (by decide) v rs.length cs hs ho1 ⟨g0, 0, none⟩ 1 1 [.int .i64 r.lhs, sv, .int .i64 r.op, pv, .int .i64 r.cost] hx rfl ?_ ?_ (by decide) (by unfold maxLen; omega) (by omega) hB w.heap.size rfl ?_
  · intro j u hj
    rw [Addr.add_lit, Nat.zero_add]
    obtain ⟨b0, b1, b2, b3, b4⟩ := hbox
    match j with
    | 0 => simp at hj; rw [b0, hj]
    | 1 => simp at hj; rw [b1, hj]
    | 2 => simp at hj; rw [b2, hj]
    | 3 => simp at hj; rw [b3, hj]
    | 4 => simp at hj; rw [b4, hj]
    | k + 5 => simp at hj
  · intro u hu
    simp only [List.mem_cons, List.not_mem_nil, or_false] at hu
    rcases hu with rfl | rfl | rfl | rfl | rfl
    · rfl
    · exact hsv
    · rfl
    · exact hpv
    · rfl
  · intro g cap w' ho2 hg hloc hlt
    refine hK g cap w' ⟨cs ++ [.int .i64 r.lhs, sv, .int .i64 r.op, pv, .int .i64 r.cost], by rw [List.length_append]; exact ho2, fun j q hq => ?_⟩ hg hloc
    have hoff : ∀ (u : Value) (xs : List Int), Row w u xs → Off u xs v → Row w' u xs ∧ Off u xs (.slice (some ⟨g, 0, none⟩) (rs.length + 1) cap) := by
      intro u xs hu hof
      refine ⟨row_kept hu hg hof, ?_⟩
      rcases row_block hu with e | ⟨gb, e1, e2⟩
      · exact .inl e
      · rcases hof with e | e
        · exact .inl e
        · right
          rcases hloc with e3 | e3
          · rw [e3] at e; exact e
          · rw [e1]
            simp only [Value.ownBlock, ne_eq, Option.some.injEq]
            omega
    by_cases hj : j < rs.length
    · rw [List.getElem?_append_left hj] at hq
      obtain ⟨u, p, a0, a1, a2, a3, a4, h5, h6, h7, h8⟩ := hrs j q hq
      have k1 := hoff u _ h5 h7
      have k2 := hoff p _ h6 h8
      exact ⟨u, p, by rw [List.getElem?_append_left (by omega)]; exact a0, by rw [List.getElem?_append_left (by omega)]; exact a1, by rw [List.getElem?_append_left (by omega)]; exact a2, by rw [List.getElem?_append_left (by omega)]; exact a3, by rw [List.getElem?_append_left (by omega)]; exact a4, k1.1, k2.1, k1.2, k2.2⟩
    · rw [List.getElem?_append_right (by omega)] at hq
      have hj2 : j = rs.length := by
        have := (List.getElem?_eq_some_iff.1 hq).1
        simp at this; omega
      subst hj2
      simp at hq
      subst hq
      have k1 := hoff sv _ h1 o1
      have k2 := hoff pv _ h2 o2
      have hx : ∀ k, (cs ++ [Value.int .i64 r.lhs, sv, .int .i64 r.op, pv, .int .i64 r.cost])[rs.length * 5 + k]? = [Value.int .i64 r.lhs, sv, .int .i64 r.op, pv, .int .i64 r.cost][k]? := by
        intro k
        have e : rs.length * 5 + k - cs.length = k := by omega
        rw [List.getElem?_append_right (by omega), e]
      exact ⟨sv, pv, hx 0, hx 1, hx 2, hx 3, hx 4, k1.1, k2.1, k1.2, k2.2⟩

end Go.Proofs.YtannndpamhgknaaGreatDoor.Gr
