/- The chapter's example and its rules, as the statements ask for them first: it holds. -/
import Derived.Test.YtannndpamhgknaaGreatDoorGrBase
namespace Go.Proofs.YtannndpamhgknaaGreatDoor.Gr
open Go.RowKit

/-- A block's five cells. -/
def Box (w : World) (g : Nat) (v0 v1 v2 v3 v4 : Value) : Prop := w.cell? ⟨g, 0, none⟩ = some v0 ∧ w.cell? ⟨g, 1, none⟩ = some v1 ∧ w.cell? ⟨g, 2, none⟩ = some v2 ∧ w.cell? ⟨g, 3, none⟩ = some v3 ∧ w.cell? ⟨g, 4, none⟩ = some v4
theorem Box.on {w w' : World} {g : Nat} {v0 v1 v2 v3 v4 : Value} (h : Box w g v0 v1 v2 v3 v4) (hb : Below w.heap.size w w') : Box w' g v0 v1 v2 v3 v4 :=
  ⟨(hb.cell (lt_of_cell h.1)).trans h.1, (hb.cell (lt_of_cell h.2.1)).trans h.2.1, (hb.cell (lt_of_cell h.2.2.1)).trans h.2.2.1, (hb.cell (lt_of_cell h.2.2.2.1)).trans h.2.2.2.1, (hb.cell (lt_of_cell h.2.2.2.2)).trans h.2.2.2.2⟩
theorem box_new (w : World) (v0 v1 v2 v3 v4 : Value) (t : TypeId) (g : Nat) (hg : g = w.heap.size) : Box (w.alloc (.cells #[v0, v1, v2, v3, v4] t)) g v0 v1 v2 v3 v4 := by
  subst hg
  exact ⟨by rw [new_cell]; rfl, by rw [new_cell]; rfl, by rw [new_cell]; rfl, by rw [new_cell]; rfl, by rw [new_cell]; rfl⟩

theorem UnitsAt.on {w w' : World} {B : Nat} {v : Value} {f : Nat → List Int} (h : UnitsAt w B v f) (hb : Below w.heap.size w w') : UnitsAt w' B v f := by
  obtain ⟨g, us, rfl, ho, hu⟩ := h
  refine ⟨g, us, rfl, owns_below ho hb, fun i hi => ?_⟩
  obtain ⟨u, h1, h2⟩ := hu i hi
  exact ⟨u, h1, h2.on hb⟩
theorem UnitsAt.cell {w : World} {B g : Nat} {us : List Value} (ho : w.ownsRow B 25 1 (.slice (some ⟨g, 0, none⟩) 20 20) 20 us) {i : Nat} {u : Value} (h1 : us[i]? = some u) : w.cell? ⟨g, i, none⟩ = some u := by
  have hl : i < us.length := (List.getElem?_eq_some_iff.1 h1).1
  have := ho.1
  rw [ho.cellAt i (by omega)]; exact h1

theorem RowNew.at {w : World} {B : Nat} {v : Value} {xs : List Int} (h : RowNew w B v xs) (hx : 0 < xs.length) : ∃ g cap, v = .slice (some ⟨g, 0, none⟩) xs.length cap ∧ B ≤ g ∧ ∀ j, j < xs.length → w.cell? ⟨g, j, none⟩ = some (.int .i64 (xs.getD j 0)) ∧ w.frozen? ⟨g, j, none⟩ = false := by
  have h0 := h
  obtain ⟨_, ⟨rfl, h0⟩ | ⟨g, cap, cur, rfl, hb, _⟩⟩ := h
  · omega
  · refine ⟨g, cap, rfl, hb, fun j hj => ⟨?_, World.ownsRow.frozenAt h0 j⟩⟩
    rw [World.ownsRow.cellAt h0 j (by omega), List.getElem?_map, getD_at hj]
    rfl

end Go.Proofs.YtannndpamhgknaaGreatDoor.Gr
