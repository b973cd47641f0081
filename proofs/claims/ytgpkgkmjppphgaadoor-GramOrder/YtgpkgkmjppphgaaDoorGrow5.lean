/- A whole row of rules appended to another, at an operation that is guarded. -/
import Derived.Test.YtgpkgkmjppphgaaDoorGrow4
namespace Go.Proofs.YtgpkgkmjppphgaaDoor
open Go.RowKit

theorem wpList_append_rules_g (w0 w : World) (hbw : Below w0.heap.size w0 w) {ops : Array Oper} {rest : List Oper} {o : Oper} {a : Act} {Q : Exit → Act → World → Prop} (hw : Region.wanted o (yielded ops a.tmps) = true) (s x : Operand)
    (ho : o.op = .call { callee := .builtin .append, args := #[s, x], argTypes := #[36, 36] })
    (B : Nat) (v : Value) (rs : List Rule) (hs : a.eval s = v) (h : RulesNew w B v rs) (hv : ∀ g, v.ownBlock = some g → w0.heap.size ≤ g)
    (xv : Value) (qs : List Rule) (hx : a.eval x = xv) (hq : RulesAt w0 xv qs) (hnil : ∀ n c, xv = .slice none n c → c = 0) (hl : rs.length + qs.length ≤ 1000000) (hB : B ≤ w.heap.size)
    (hK : ∀ v' w', RulesNew w' B v' (rs ++ qs) → w.grownBy w' v.ownBlock → (v'.ownBlock = v.ownBlock ∨ v'.ownBlock = some w.heap.size) → wpList Tryd.prog ops Q rest (a.put o.dst v') w') : wpList Tryd.prog ops Q (o :: rest) a w := by
  refine wpList_step fun K hK' => ?_
  rw [if_pos hw]
  obtain ⟨v', w', hr, h2, h3, h4⟩ := run_append_rules w0 w hbw o.type B v rs h hv xv qs hq hnil hl hB
  unfold Oper.wp execOp
  simp only [ho, resolve, invoke, builtin, Sem.run_bind, Sem.run_pure, Result.andThen_ok, List.map_toArray, List.map_cons, List.map_nil, hs, hx, hr]
  exact hK' _ _ (hK v' w' h2 h3 h4)

end Go.Proofs.YtgpkgkmjppphgaaDoor
