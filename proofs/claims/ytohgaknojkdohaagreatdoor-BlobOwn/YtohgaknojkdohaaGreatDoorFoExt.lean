/- A region that draws its order, whose calls may make memory: one walk in the order of the text serves every order. -/
import Derived.Test.YtohgaknojkdohaaGreatDoorFoBase
namespace Go.Proofs.YtohgaknojkdohaaGreatDoor.Fo
open Go.RowKit
/-- a world that has grown out of w: below w's size it is as w is -/
structure Ext (w : World) where
  out : World
  below : Below w.heap.size w out
theorem Ext.cells {w : World} (s : Ext w) (b o : Nat) (h : b < w.heap.size) : s.out.cell? ⟨b, o, none⟩ = w.cell? ⟨b, o, none⟩ := s.below.cell (p := ⟨b, o, none⟩) h
theorem Ext.to {w w' : World} (s : Ext w) (h : Below s.out.heap.size s.out w') : ∃ s' : Ext w, w' = s'.out :=
  ⟨⟨w', s.below.trans (h.mono s.below.size)⟩, rfl⟩
theorem Ext.same {w : World} (s : Ext w) : ∃ s' : Ext w, s.out = s'.out := ⟨s, rfl⟩
section
variable {P : Program}
theorem wp_region_ext {id : Nat} {Q : Exit → Act → World → Prop} {a : Act} {w : World} {l : List Oper} (hm : P.follows .mixedOrders = true) (hB : Region.lexB .any l.toArray = true)
    (h : wpQuiet P l.toArray (fun w' => ∃ s : Ext w, w' = s.out) (fun a' => ∀ w', (∃ s : Ext w, w' = s.out) → Q .normal a' w') l a) : (Code.region id l.toArray true).wp P Q a w :=
  wp_region_quiet (C := fun w' => ∃ s : Ext w, w' = s.out) hm hB ⟨⟨w.drew, (Below.refl _ _).drew⟩, rfl⟩ (by simpa using h)
theorem wp_region_ext2 {id : Nat} {Q : Exit → Act → World → Prop} {a : Act} {w : World} {l : List Oper} (hm : P.follows .mixedOrders = true) (hB : Region.lexB .any l.toArray = true)
    (h : Nonempty (Ext w) → (∀ (s : Ext w) (b o : Nat), b < w.heap.size → s.out.cell? ⟨b, o, none⟩ = w.cell? ⟨b, o, none⟩) → wpQuiet P l.toArray (fun w' => ∃ s : Ext w, w' = s.out) (fun a' => ∀ w', (∃ s : Ext w, w' = s.out) → Q .normal a' w') l a) : (Code.region id l.toArray true).wp P Q a w :=
  wp_region_ext hm hB (h ⟨⟨_, Below.refl _ _⟩⟩ (fun s b o => s.cells b o))
end
/-- A row of ints that the text itself wrote down. -/
theorem row_holds' {w : World} {g : Nat} {t : TypeId} {fr : Nat × Nat} {cs : Array Value} (xs : List Int) (hcs : cs = (xs.map (Value.int .i64)).toArray) (hg : w.heap[g]? = some (.cells cs t fr)) : Holds w g 0 xs := by
  intro j hj
  rw [cell_of_row w g _ cs t fr hg, hcs]
  simp [List.getD, hj]
theorem row_old {w : World} {g : Nat} {x o : Obj} (h : w.heap[g]? = some x) : (w.alloc o).heap[g]? = some x := by
  have hlt : g < w.heap.size := (Array.getElem?_eq_some_iff.1 h).1
  rw [Lib.alloc_old w o g hlt]; exact h
theorem row_new (w : World) (o : Obj) : (w.alloc o).heap[w.heap.size]? = some o := by
  show (w.heap.push o)[w.heap.size]? = some o
  simp
theorem row_new2 (w : World) (o o' : Obj) : ((w.alloc o).alloc o').heap[w.heap.size + 1]? = some o' := by
  have := row_new (w.alloc o) o'
  rwa [show (w.alloc o).heap.size = w.heap.size + 1 by simp] at this
theorem Tab.ext {w : World} (h : Tab w) (s : Ext w) : Tab s.out := h.on s.below
end Go.Proofs.YtohgaknojkdohaaGreatDoor.Fo
