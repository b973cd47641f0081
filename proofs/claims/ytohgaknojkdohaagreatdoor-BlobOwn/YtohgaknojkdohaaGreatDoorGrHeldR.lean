/- A rule in a variable of the call's own, its rows made ahead of it: what stores into it, and into its rows, leave. -/
import Derived.Test.YtohgaknojkdohaaGreatDoorGrBoxes
import Derived.Test.YtohgaknojkdohaaGreatDoorGrMake
namespace Go.Proofs.YtohgaknojkdohaaGreatDoor.Gr
open Go.RowKit

theorem key_cut {G T : Prop} (rest : G → T) (key : G) : T := rest key
/-- The variable at block g: a rule whose rows the call made, elsewhere. -/
def HeldR (w : World) (B g : Nat) (r : Rule) (sv pv : Value) : Prop :=
  w.heap[g]? = some (.cells #[.int .i64 r.lhs, sv, .int .i64 r.op, pv, .int .i64 r.cost] 56 (0, 0)) ∧ RowNew w B sv r.rhs ∧ RowNew w B pv r.p ∧ sv.ownBlock ≠ some g ∧ pv.ownBlock ≠ some g

section
variable {w : World} {B g : Nat} {r : Rule} {sv pv : Value}
theorem HeldR.box (h : HeldR w B g r sv pv) : Box w g (.int .i64 r.lhs) sv (.int .i64 r.op) pv (.int .i64 r.cost) := by
  have := h.1
  exact ⟨by rw [cell_of_row _ _ _ _ _ _ this]; rfl, by rw [cell_of_row _ _ _ _ _ _ this]; rfl, by rw [cell_of_row _ _ _ _ _ _ this]; rfl, by rw [cell_of_row _ _ _ _ _ _ this]; rfl, by rw [cell_of_row _ _ _ _ _ _ this]; rfl⟩
theorem HeldR.frozen (h : HeldR w B g r sv pv) (j : Nat) : w.frozen? ⟨g, j, none⟩ = false := frozen_of_row _ _ _ _ _ h.1
theorem HeldR.lt (h : HeldR w B g r sv pv) : g < w.heap.size := (Array.getElem?_eq_some_iff.1 h.1).1
theorem HeldR.on {w' : World} (h : HeldR w B g r sv pv) (hb : Below w.heap.size w w') : HeldR w' B g r sv pv :=
  ⟨(hb.block g h.lt).trans h.1, h.2.1.on hb, h.2.2.1.on hb, h.2.2.2.1, h.2.2.2.2⟩
theorem HeldR.drew (h : HeldR w B g r sv pv) : HeldR w.drew B g r sv pv := h.on (Below.refl _ _).drew
theorem HeldR.rule (h : HeldR w B g r sv pv) (h1 : r.rhs.length ≤ maxLen) (h2 : r.p.length ≤ maxLen) : RuleAt w (.agg #[.int .i64 r.lhs, sv, .int .i64 r.op, pv, .int .i64 r.cost]) r :=
  ⟨sv, pv, rfl, h.2.1.row h1, h.2.2.1.row h2⟩
theorem own_ne {v : Value} {k : Nat} (h : v.ownBlock ≠ some k) : v.ownBlock = none ∨ v.ownBlock ≠ some k := .inr h
theorem HeldR.lhs (h : HeldR w B g r sv pv) (z : Int) : HeldR (w.setCell ⟨g, 0, none⟩ (.int .i64 z)) B g { r with lhs := z } sv pv :=
  ⟨by rw [heap_setCell_same w g 0 _ _ _ h.1]; rfl, h.2.1.kept (set_grown w g 0 _) (.inr h.2.2.2.1), h.2.2.1.kept (set_grown w g 0 _) (.inr h.2.2.2.2), h.2.2.2.1, h.2.2.2.2⟩
theorem HeldR.op (h : HeldR w B g r sv pv) (z : Int) : HeldR (w.setCell ⟨g, 2, none⟩ (.int .i64 z)) B g { r with op := z } sv pv :=
  ⟨by rw [heap_setCell_same w g 2 _ _ _ h.1]; rfl, h.2.1.kept (set_grown w g 2 _) (.inr h.2.2.2.1), h.2.2.1.kept (set_grown w g 2 _) (.inr h.2.2.2.2), h.2.2.2.1, h.2.2.2.2⟩
theorem HeldR.cost (h : HeldR w B g r sv pv) (z : Int) : HeldR (w.setCell ⟨g, 4, none⟩ (.int .i64 z)) B g { r with cost := z } sv pv :=
  ⟨by rw [heap_setCell_same w g 4 _ _ _ h.1]; rfl, h.2.1.kept (set_grown w g 4 _) (.inr h.2.2.2.1), h.2.2.1.kept (set_grown w g 4 _) (.inr h.2.2.2.2), h.2.2.2.1, h.2.2.2.2⟩
theorem HeldR.newRhs (h : HeldR w B g r sv pv) {v : Value} {xs : List Int} (hv : RowNew w B v xs) (hn : v.ownBlock ≠ some g) : HeldR (w.setCell ⟨g, 1, none⟩ v) B g { r with rhs := xs } v pv :=
  ⟨by rw [heap_setCell_same w g 1 _ _ _ h.1]; rfl, hv.kept (set_grown w g 1 _) (.inr hn), h.2.2.1.kept (set_grown w g 1 _) (.inr h.2.2.2.2), hn, h.2.2.2.2⟩
theorem HeldR.newP (h : HeldR w B g r sv pv) {v : Value} {xs : List Int} (hv : RowNew w B v xs) (hn : v.ownBlock ≠ some g) : HeldR (w.setCell ⟨g, 3, none⟩ v) B g { r with p := xs } sv v :=
  ⟨by rw [heap_setCell_same w g 3 _ _ _ h.1]; rfl, h.2.1.kept (set_grown w g 3 _) (.inr h.2.2.2.1), hv.kept (set_grown w g 3 _) (.inr hn), h.2.2.2.1, hn⟩
theorem row_some {v : Value} {xs : List Int} (h : RowNew w B v xs) (hx : 0 < xs.length) (k : Nat) (z : Int) : ∃ ys, ys.length = xs.length ∧ RowNew (w.setCell ⟨k, 0, none⟩ (.int .i64 z)) B v ys := by
  by_cases e : v.ownBlock = some k
  · obtain ⟨g', cap, rfl, _, _⟩ := h.at hx
    simp only [Value.ownBlock, Option.some.injEq] at e
    subst e
    refine ⟨xs.set 0 z, by simp, ?_⟩
    have := (World.ownsRow.stored h 0 (.int .i64 z)).1
    unfold RowNew
    rw [List.length_set, List.map_set]
    exact this
  · exact ⟨xs, rfl, h.kept (set_grown w k 0 _) (.inr e)⟩
theorem HeldR.cell0 (h : HeldR w B g r sv pv) (h1 : 0 < r.rhs.length) (h2 : 0 < r.p.length) {k : Nat} (hk : k ≠ g) (z : Int) : ∃ r', r'.rhs.length = r.rhs.length ∧ r'.p.length = r.p.length ∧ r'.lhs = r.lhs ∧ r'.op = r.op ∧ r'.cost = r.cost ∧ HeldR (w.setCell ⟨k, 0, none⟩ (.int .i64 z)) B g r' sv pv := by
  obtain ⟨xs, l1, q1⟩ := row_some h.2.1 h1 k z
  obtain ⟨ps, l2, q2⟩ := row_some h.2.2.1 h2 k z
  exact ⟨⟨r.lhs, xs, r.op, ps, r.cost⟩, l1, l2, rfl, rfl, rfl, (Below.heap_setCell _ _ _ _ (fun e => hk e.symm)).trans h.1, q1, q2, h.2.2.2.1, h.2.2.2.2⟩
theorem row_at0 {gs n c : Nat} {xs : List Int} (h : RowNew w B (.slice (some ⟨gs, 0, none⟩) n c) xs) (hx : 0 < xs.length) : ∃ z, w.cell? ⟨gs, 0, none⟩ = some (.int .i64 z) ∧ w.frozen? ⟨gs, 0, none⟩ = false ∧ B ≤ gs := by
  obtain ⟨g', c', e, hb, hc⟩ := h.at hx
  simp only [Value.slice.injEq, Option.some.injEq, Addr.mk.injEq, and_true] at e
  obtain ⟨rfl, _, _⟩ := e
  exact ⟨_, (hc 0 hx).1, (hc 0 hx).2, hb⟩
/-- The cell of a row of numbers just made. -/
theorem lit_cell (w : World) (zs : List Int) (m : Nat) (hm : m < zs.length) (a : Array Value) (ha : a = (zs.map (Value.int .i64)).toArray) : ∃ z, (w.alloc (.cells a 3)).cell? ⟨w.heap.size, m, none⟩ = some (.int .i64 z) := by
  subst ha
  refine ⟨zs[m], ?_⟩
  rw [new_cell, List.getElem?_toArray, List.getElem?_map, List.getElem?_eq_getElem hm]
  rfl
theorem lit_get (zs : List Int) (m : Nat) (hm : m < zs.length) : ∃ z, (∀ h : m < (zs.map (Value.int .i64)).length, (zs.map (Value.int .i64))[m]'h = Value.int .i64 z) ∧ (zs.map (Value.int .i64))[m]? = some (Value.int .i64 z) :=
  ⟨zs[m], fun h => by simp, by rw [List.getElem?_map, List.getElem?_eq_getElem hm]; rfl⟩
theorem held_new {wm : World} {B : Nat} {r : Rule} {sv pv : Value} (h1 : RowNew wm B sv r.rhs) (h2 : RowNew wm B pv r.p) :
    HeldR (wm.alloc (.cells #[.int .i64 r.lhs, sv, .int .i64 r.op, pv, .int .i64 r.cost] 56)) B wm.heap.size r sv pv := by
  have o1 : sv.ownBlock ≠ some wm.heap.size := fun e => by have := (World.ownsRow.lt h1 _ e).2; omega
  have o2 : pv.ownBlock ≠ some wm.heap.size := fun e => by have := (World.ownsRow.lt h2 _ e).2; omega
  exact ⟨row_new wm _, h1.on (up_alloc wm _), h2.on (up_alloc wm _), o1, o2⟩
theorem row_lit (w : World) (zs : List Int) (g n : Nat) (hg : g = w.heap.size) (hn : n = zs.length) (hl : n ≤ maxLen) (a : Array Value) (ha : a = (zs.map (Value.int .i64)).toArray) : Row (w.alloc (.cells a 3)) (.slice (some ⟨g, 0, none⟩) n n) zs := by
  subst hg hn ha
  refine ⟨_, _, rfl, hl, fun j hj => ⟨_, rfl, ?_⟩⟩
  rw [Addr.add_lit, Nat.zero_add, new_cell, List.getElem?_toArray, List.getElem?_map, getD_at hj]
  rfl
/-- A row that is being made anew, from block N on, beside the variable and its rows, which lie ahead of N. -/
structure AP (W1 : World) (N B g : Nat) (q : Rule) (sv pv : Value) (w : World) (v : Value) (xs : List Int) : Prop where
  held : HeldR w B g q sv pv
  row : RowNew w B v xs
  own : ∀ k, v.ownBlock = some k → N ≤ k
  lt : g < N ∧ (∀ k, sv.ownBlock = some k → k < N) ∧ (∀ k, pv.ownBlock = some k → k < N)
  bel : Below W1.heap.size W1 w
  le : W1.heap.size ≤ N ∧ B ≤ N ∧ N ≤ w.heap.size ∧ W1.heap.size ≤ g
section
variable {W1 : World} {N : Nat} {q : Rule} {v : Value} {xs : List Int}
theorem ap_start (h : HeldR w B g q sv pv) (hb : Below W1.heap.size W1 w) (hB : B ≤ w.heap.size) (hg : W1.heap.size ≤ g) : AP W1 w.heap.size B g q sv pv (w.alloc (.cells #[] 3)) (.slice (some ⟨w.heap.size, 0, none⟩) 0 0) [] :=
  ⟨h.on (up_alloc _ _), row_made w B hB _ rfl, fun k e => by simp only [Value.ownBlock, Option.some.injEq] at e; omega, ⟨h.lt, fun k e => (World.ownsRow.lt h.2.1 k e).2, fun k e => (World.ownsRow.lt h.2.2.1 k e).2⟩, hb.alloc hb.size _, ⟨hb.size, hB, by simp, hg⟩⟩
theorem AP.alloc (h : AP W1 N B g q sv pv w v xs) (o : Obj) : AP W1 N B g q sv pv (w.alloc o) v xs :=
  ⟨h.held.on (up_alloc _ _), h.row.on (up_alloc _ _), h.own, h.lt, h.bel.alloc h.bel.size _, ⟨h.le.1, h.le.2.1, by have := h.le.2.2.1; simp; omega, h.le.2.2.2⟩⟩
theorem AP.append (h : AP W1 N B g q sv pv w v xs) {w' : World} {v' : Value} {ys : List Int} (hr : RowNew w' B v' ys) (hg : w.grownBy w' v.ownBlock) (hl : v'.ownBlock = v.ownBlock ∨ v'.ownBlock = some w.heap.size) : AP W1 N B g q sv pv w' v' ys := by
  have hle := h.le
  have hlt := h.lt
  have e1 : ∀ k, k < N → some k ≠ v.ownBlock := fun k hk e => by have := h.own k e.symm; omega
  have n1 : ∀ u : Value, (∀ k, u.ownBlock = some k → k < N) → u.ownBlock = none ∨ u.ownBlock ≠ v.ownBlock := fun u hu => by
    cases e : u.ownBlock with
    | none => exact .inl rfl
    | some k => exact .inr (e1 k (hu k e))
  refine ⟨⟨(hg.block g h.held.lt (e1 g hlt.1)).trans h.held.1, h.held.2.1.kept hg (n1 sv hlt.2.1), h.held.2.2.1.kept hg (n1 pv hlt.2.2), h.held.2.2.2.1, h.held.2.2.2.2⟩, hr, fun k e => ?_, hlt, h.bel.grown hg (by have := h.bel.size; omega) (fun k e => by have := h.own k e; omega), ⟨hle.1, hle.2.1, by have := hg.size; omega, hle.2.2.2⟩⟩
  rcases hl with e2 | e2
  · exact h.own k (e2.symm.trans e)
  · rw [e2] at e; injection e with e; omega
theorem AP.ne (h : AP W1 N B g q sv pv w v xs) : v.ownBlock ≠ some g := fun e => by have := h.own g e; have := h.lt.1; omega
theorem AP.endRhs (h : AP W1 N B g q sv pv w v xs) : HeldR (w.setCell ⟨g, 1, none⟩ v) B g { q with rhs := xs } v pv := h.held.newRhs h.row h.ne
theorem AP.endP (h : AP W1 N B g q sv pv w v xs) : HeldR (w.setCell ⟨g, 3, none⟩ v) B g { q with p := xs } sv v := h.held.newP h.row h.ne
end
end

end Go.Proofs.YtohgaknojkdohaaGreatDoor.Gr
