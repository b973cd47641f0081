/- A rule that is made piece by piece in a variable of the call's own: its rows grow, the rest stays. -/
import Derived.Test.YtannndpamhgknaaGreatDoorGrGrow
import Derived.Deep.RegionLaw
import Derived.Deep.AppendLies
namespace Go.Proofs.YtannndpamhgknaaGreatDoor.Gr
open Go.RowKit

/-- The variable at block gb: a rule whose rows the call made, behind the variable itself. -/
def Made (w : World) (gb : Nat) (r : Rule) (sv pv : Value) : Prop :=
  w.heap[gb]? = some (.cells #[.int .i64 r.lhs, sv, .int .i64 r.op, pv, .int .i64 r.cost] 120 (0, 0)) ∧ RowNew w (gb + 1) sv r.rhs ∧ RowNew w (gb + 1) pv r.p ∧ ∀ g, sv.ownBlock = some g → pv.ownBlock ≠ some g

section
variable {w : World} {gb : Nat} {r : Rule} {sv pv : Value}
theorem Made.box (h : Made w gb r sv pv) : Box w gb (.int .i64 r.lhs) sv (.int .i64 r.op) pv (.int .i64 r.cost) := by
  have := h.1
  exact ⟨by rw [cell_of_row _ _ _ _ _ _ this]; rfl, by rw [cell_of_row _ _ _ _ _ _ this]; rfl, by rw [cell_of_row _ _ _ _ _ _ this]; rfl, by rw [cell_of_row _ _ _ _ _ _ this]; rfl, by rw [cell_of_row _ _ _ _ _ _ this]; rfl⟩
theorem Made.frozen (h : Made w gb r sv pv) (j : Nat) : w.frozen? ⟨gb, j, none⟩ = false := by
  simp [World.frozen?, h.1]
theorem Made.lt (h : Made w gb r sv pv) : gb < w.heap.size := (Array.getElem?_eq_some_iff.1 h.1).1
theorem Made.on {w' : World} (h : Made w gb r sv pv) (hb : Below w.heap.size w w') : Made w' gb r sv pv :=
  ⟨(hb.block gb h.lt).trans h.1, h.2.1.on hb, h.2.2.1.on hb, h.2.2.2⟩
theorem Made.rule (h : Made w gb r sv pv) (h1 : r.rhs.length ≤ maxLen) (h2 : r.p.length ≤ maxLen) : RuleAt w (.agg #[.int .i64 r.lhs, sv, .int .i64 r.op, pv, .int .i64 r.cost]) r :=
  ⟨sv, pv, rfl, h.2.1.row h1, h.2.2.1.row h2⟩
theorem one_cell (w : World) (x : Int) (t : TypeId) : ∀ j u, [Value.int .i64 x][j]? = some u → (w.alloc (.cells #[.int .i64 x] t)).cell? ((⟨w.heap.size, 0, none⟩ : Addr).add j) = some u := by
  intro j u h
  rw [Addr.add_lit, Nat.zero_add, new_cell]
  cases j with
  | zero => simpa using h
  | succ j => simp at h
theorem one_oneCell (x : Int) : ∀ u ∈ [Value.int .i64 x], u.oneCell' = true := by
  intro u h
  rw [List.mem_singleton] at h
  subst h
  rfl

theorem Made.mid (h : Made w gb r sv pv) {o : Obj} {w2 : World} {row : Option Nat} (hg : (w.alloc o).grownBy w2 row) (hr : row = sv.ownBlock ∨ row = pv.ownBlock) : w2.heap[gb]? = some (.cells #[.int .i64 r.lhs, sv, .int .i64 r.op, pv, .int .i64 r.cost] 120 (0, 0)) := by
  have h1 := h.on (up_alloc w o)
  refine (hg.block gb h1.lt (fun e => ?_)).trans h1.1
  rcases hr with e2 | e2
  · have := (World.ownsRow.lt h.2.1 gb (by rw [← e2, e])).1; omega
  · have := (World.ownsRow.lt h.2.2.1 gb (by rw [← e2, e])).1; omega
theorem mid_cell {w2 : World} {gb : Nat} {v0 v1 v2 v3 v4 : Value} {t : TypeId} (h : w2.heap[gb]? = some (.cells #[v0, v1, v2, v3, v4] t (0, 0))) : (w2.cell? ⟨gb, 1, none⟩ = some v1 ∧ w2.cell? ⟨gb, 3, none⟩ = some v3) ∧ w2.frozen? ⟨gb, 1, none⟩ = false ∧ w2.frozen? ⟨gb, 3, none⟩ = false :=
  ⟨⟨by rw [cell_of_row _ _ _ _ _ _ h]; rfl, by rw [cell_of_row _ _ _ _ _ _ h]; rfl⟩, frozen_of_row _ _ _ _ _ h, frozen_of_row _ _ _ _ _ h⟩

theorem undrew {w w2 : World} {row : Option Nat} (h : w.drew.grownBy w2 row) : w.grownBy w2 row := ⟨h.os, h.tape, h.output, h.size, h.block⟩

/-- What an append to a row leaves, behind the store into the variable: the first row. -/
theorem Made.push_rhs (h : Made w gb r sv pv) {x : Int} {g cap : Nat} {w2 : World} (ho : w2.ownsRow (gb + 1) 3 1 (.slice (some ⟨g, 0, none⟩) (r.rhs.length + 1) cap) (r.rhs.length + 1) (r.rhs.map (Value.int .i64) ++ [.int .i64 x])) (hg : (w.alloc (.cells #[.int .i64 x] 3)).grownBy w2 sv.ownBlock) (hl : sv.ownBlock = some g ∨ g = w.heap.size + 1) :
    Made (w2.setCell ⟨gb, 1, none⟩ (.slice (some ⟨g, 0, none⟩) (r.rhs.length + 1) cap)) gb { r with rhs := r.rhs ++ [x] } (.slice (some ⟨g, 0, none⟩) (r.rhs.length + 1) cap) pv ∧ Below gb w (w2.setCell ⟨gb, 1, none⟩ (.slice (some ⟨g, 0, none⟩) (r.rhs.length + 1) cap)) := by
  have hgb := h.lt
  have hsv : ∀ k, sv.ownBlock = some k → gb + 1 ≤ k ∧ k < w.heap.size := World.ownsRow.lt h.2.1
  have hpv : ∀ k, pv.ownBlock = some k → gb + 1 ≤ k ∧ k < w.heap.size := World.ownsRow.lt h.2.2.1
  have hgg : gb + 1 ≤ g := by
    rcases hl with e | e
    · exact (hsv g e).1
    · omega
  have hgs : (w2.setCell ⟨gb, 1, none⟩ (.slice (some ⟨g, 0, none⟩) (r.rhs.length + 1) cap)).heap[g]? = w2.heap[g]? := Below.heap_setCell _ _ _ _ (by show g ≠ gb; omega)
  have h1 := h.on (up_alloc w (.cells #[.int .i64 x] 3))
  have hkeep : w2.heap[gb]? = some (.cells #[.int .i64 r.lhs, sv, .int .i64 r.op, pv, .int .i64 r.cost] 120 (0, 0)) := (hg.block gb h1.lt (fun e => by have := (hsv gb e.symm).1; omega)).trans h1.1
  have hpp : pv.ownBlock = none ∨ pv.ownBlock ≠ sv.ownBlock := by
    cases e : pv.ownBlock with
    | none => exact .inl rfl
    | some k => exact .inr (fun e2 => h.2.2.2 k e2.symm e)
  have hst : w2.grownBy (w2.setCell ⟨gb, 1, none⟩ (.slice (some ⟨g, 0, none⟩) (r.rhs.length + 1) cap)) (some gb) := ⟨rfl, rfl, rfl, by simp [World.setCell], fun k _ hk => Below.heap_setCell _ _ _ _ (fun e => hk (by rw [e]))⟩
  refine ⟨⟨?_, ?_, ?_, ?_⟩, ?_⟩
  · rw [heap_setCell_same w2 gb 1 _ _ _ hkeep]; rfl
  · have hr : RowNew w2 (gb + 1) (.slice (some ⟨g, 0, none⟩) (r.rhs.length + 1) cap) (r.rhs ++ [x]) := by
      unfold RowNew
      simpa using ho
    exact hr.kept hst (.inr (fun e => by simp [Value.ownBlock] at e; omega))
  · exact (h1.2.2.1.kept hg hpp).kept hst (.inr (fun e => by have := (hpv gb e).1; omega))
  · intro k hk e
    simp only [Value.ownBlock, Option.some.injEq] at hk
    subst hk
    rcases hl with e2 | e2
    · exact h.2.2.2 g e2 e
    · have := (hpv g e).2; omega
  · refine (((Below.refl gb w).alloc (by omega) _).grown hg (by simp; omega) (fun k e => by have := (hsv k e).1; omega)).setCell (p := ⟨gb, 1, none⟩) (Nat.le_refl _) _
/-- The second row. -/
theorem Made.push_p (h : Made w gb r sv pv) {x : Int} {g cap : Nat} {w2 : World} (ho : w2.ownsRow (gb + 1) 3 1 (.slice (some ⟨g, 0, none⟩) (r.p.length + 1) cap) (r.p.length + 1) (r.p.map (Value.int .i64) ++ [.int .i64 x])) (hg : (w.alloc (.cells #[.int .i64 x] 3)).grownBy w2 pv.ownBlock) (hl : pv.ownBlock = some g ∨ g = w.heap.size + 1) :
    Made (w2.setCell ⟨gb, 3, none⟩ (.slice (some ⟨g, 0, none⟩) (r.p.length + 1) cap)) gb { r with p := r.p ++ [x] } sv (.slice (some ⟨g, 0, none⟩) (r.p.length + 1) cap) ∧ Below gb w (w2.setCell ⟨gb, 3, none⟩ (.slice (some ⟨g, 0, none⟩) (r.p.length + 1) cap)) := by
  have hgb := h.lt
  have hsv : ∀ k, sv.ownBlock = some k → gb + 1 ≤ k ∧ k < w.heap.size := World.ownsRow.lt h.2.1
  have hpv : ∀ k, pv.ownBlock = some k → gb + 1 ≤ k ∧ k < w.heap.size := World.ownsRow.lt h.2.2.1
  have hgg : gb + 1 ≤ g := by
    rcases hl with e | e
    · exact (hpv g e).1
    · omega
  have h1 := h.on (up_alloc w (.cells #[.int .i64 x] 3))
  have hkeep : w2.heap[gb]? = some (.cells #[.int .i64 r.lhs, sv, .int .i64 r.op, pv, .int .i64 r.cost] 120 (0, 0)) := (hg.block gb h1.lt (fun e => by have := (hpv gb e.symm).1; omega)).trans h1.1
  have hpp : sv.ownBlock = none ∨ sv.ownBlock ≠ pv.ownBlock := by
    cases e : sv.ownBlock with
    | none => exact .inl rfl
    | some k => exact .inr (fun e2 => h.2.2.2 k e e2.symm)
  have hst : w2.grownBy (w2.setCell ⟨gb, 3, none⟩ (.slice (some ⟨g, 0, none⟩) (r.p.length + 1) cap)) (some gb) := ⟨rfl, rfl, rfl, by simp [World.setCell], fun k _ hk => Below.heap_setCell _ _ _ _ (fun e => hk (by rw [e]))⟩
  refine ⟨⟨?_, ?_, ?_, ?_⟩, ?_⟩
  · rw [heap_setCell_same w2 gb 3 _ _ _ hkeep]; rfl
  · exact (h1.2.1.kept hg hpp).kept hst (.inr (fun e => by have := (hsv gb e).1; omega))
  · have hr : RowNew w2 (gb + 1) (.slice (some ⟨g, 0, none⟩) (r.p.length + 1) cap) (r.p ++ [x]) := by
      unfold RowNew
      simpa using ho
    exact hr.kept hst (.inr (fun e => by simp [Value.ownBlock] at e; omega))
  · intro k hk e
    simp only [Value.ownBlock, Option.some.injEq] at e
    subst e
    rcases hl with e2 | e2
    · exact h.2.2.2 g hk e2
    · have := (hsv g hk).2; omega
  · refine (((Below.refl gb w).alloc (by omega) _).grown hg (by simp; omega) (fun k e => by have := (hpv k e).1; omega)).setCell (p := ⟨gb, 3, none⟩) (Nat.le_refl _) _
theorem push_rhs {lhs op cost x : Int} {xs ps : List Int} {n g cap H : Nat} {w2 : World} (h : Made w gb ⟨lhs, xs, op, ps, cost⟩ sv pv) (hn : xs.length = n) (ho : w2.ownsRow (gb + 1) 3 1 (.slice (some ⟨g, 0, none⟩) (n + 1) cap) (n + 1) (xs.map (Value.int .i64) ++ [.int .i64 x])) (hg : (w.alloc (.cells #[.int .i64 x] 3)).grownBy w2 sv.ownBlock) (hl : sv.ownBlock = some g ∨ g = H) (hH : H = w.heap.size + 1) :
    Made (w2.setCell ⟨gb, 1, none⟩ (.slice (some ⟨g, 0, none⟩) (n + 1) cap)) gb ⟨lhs, xs ++ [x], op, ps, cost⟩ (.slice (some ⟨g, 0, none⟩) (n + 1) cap) pv ∧ Below gb w (w2.setCell ⟨gb, 1, none⟩ (.slice (some ⟨g, 0, none⟩) (n + 1) cap)) := by
  subst hn hH
  exact h.push_rhs ho hg hl
theorem push_p {lhs op cost x : Int} {xs ps : List Int} {n g cap H : Nat} {w2 : World} (h : Made w gb ⟨lhs, xs, op, ps, cost⟩ sv pv) (hn : ps.length = n) (ho : w2.ownsRow (gb + 1) 3 1 (.slice (some ⟨g, 0, none⟩) (n + 1) cap) (n + 1) (ps.map (Value.int .i64) ++ [.int .i64 x])) (hg : (w.alloc (.cells #[.int .i64 x] 3)).grownBy w2 pv.ownBlock) (hl : pv.ownBlock = some g ∨ g = H) (hH : H = w.heap.size + 1) :
    Made (w2.setCell ⟨gb, 3, none⟩ (.slice (some ⟨g, 0, none⟩) (n + 1) cap)) gb ⟨lhs, xs, op, ps ++ [x], cost⟩ sv (.slice (some ⟨g, 0, none⟩) (n + 1) cap) ∧ Below gb w (w2.setCell ⟨gb, 3, none⟩ (.slice (some ⟨g, 0, none⟩) (n + 1) cap)) := by
  subst hn hH
  exact h.push_p ho hg hl
/-- The row of a rule that is being made, as an append asks for it. -/
theorem made_rhs {lhs op cost : Int} {xs ps : List Int} {n : Nat} (h : Made w gb ⟨lhs, xs, op, ps, cost⟩ sv pv) (hn : xs.length = n) (o : Obj) : (w.alloc o).ownsRow (gb + 1) 3 1 sv n (xs.map (Value.int .i64)) := by
  subst hn
  exact World.ownsRow.alloc h.2.1 o
theorem made_p {lhs op cost : Int} {xs ps : List Int} {n : Nat} (h : Made w gb ⟨lhs, xs, op, ps, cost⟩ sv pv) (hn : ps.length = n) (o : Obj) : (w.alloc o).ownsRow (gb + 1) 3 1 pv n (ps.map (Value.int .i64)) := by
  subst hn
  exact World.ownsRow.alloc h.2.2.1 o
end

end Go.Proofs.YtannndpamhgknaaGreatDoor.Gr
