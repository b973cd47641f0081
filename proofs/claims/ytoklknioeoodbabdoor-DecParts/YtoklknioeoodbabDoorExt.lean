/- A region that draws its order, whose calls may make memory: one walk in the order of the text serves every order. -/
import Derived.Test.YtoklknioeoodbabDoorLeaf
namespace Go.Proofs.YtoklknioeoodbabDoor
open Go.RowKit
/-- a world that has grown out of w: below w's size it is as w is -/
structure Ext (w : World) where
  out : World
  below : Below w.heap.size w out
theorem Ext.cells {w : World} (s : Ext w) (b o : Nat) (h : b < w.heap.size) : s.out.cell? ⟨b, o, none⟩ = w.cell? ⟨b, o, none⟩ := s.below.cell (p := ⟨b, o, none⟩) h
theorem Ext.to {w w' : World} (s : Ext w) (h : Below s.out.heap.size s.out w') : ∃ s' : Ext w, w' = s'.out :=
  ⟨⟨w', s.below.trans (h.mono s.below.size)⟩, rfl⟩
theorem Ext.same {w : World} (s : Ext w) : ∃ s' : Ext w, s.out = s'.out := ⟨s, rfl⟩
section
variable {P : Program}
theorem wp_region_ext {id : Nat} {Q : Exit → Act → World → Prop} {a : Act} {w : World} {l : List Oper} (hm : P.follows .mixedOrders = true) (hB : Region.lexB .any l.toArray = true)
    (h : wpQuiet P l.toArray (fun w' => ∃ s : Ext w, w' = s.out) (fun a' => ∀ w', (∃ s : Ext w, w' = s.out) → Q .normal a' w') l a) : (Code.region id l.toArray true).wp P Q a w :=
  wp_region_quiet (C := fun w' => ∃ s : Ext w, w' = s.out) hm hB ⟨⟨w.drew, (Below.refl _ _).drew⟩, rfl⟩ (by simpa using h)
theorem wp_region_ext2 {id : Nat} {Q : Exit → Act → World → Prop} {a : Act} {w : World} {l : List Oper} (hm : P.follows .mixedOrders = true) (hB : Region.lexB .any l.toArray = true)
    (h : Nonempty (Ext w) → (∀ (s : Ext w) (b o : Nat), b < w.heap.size → s.out.cell? ⟨b, o, none⟩ = w.cell? ⟨b, o, none⟩) → wpQuiet P l.toArray (fun w' => ∃ s : Ext w, w' = s.out) (fun a' => ∀ w', (∃ s : Ext w, w' = s.out) → Q .normal a' w') l a) : (Code.region id l.toArray true).wp P Q a w :=
  wp_region_ext hm hB (h ⟨⟨_, Below.refl _ _⟩⟩ (fun s b o => s.cells b o))
end
end Go.Proofs.YtoklknioeoodbabDoor
