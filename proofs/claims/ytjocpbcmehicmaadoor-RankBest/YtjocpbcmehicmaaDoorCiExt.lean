/- A region that draws its order, whose calls may make memory: one walk in the order of the text serves every order; what the worlds on the way read of old memory is handed to the walk. -/
import Derived.Test.YtjocpbcmehicmaaDoorCiMid
namespace Go.Proofs.YtjocpbcmehicmaaDoor.Ci
open Go.RowKit
section
variable {P : Program}
theorem wp_region_ext2 {id : Nat} {Q : Exit → Act → World → Prop} {a : Act} {w : World} {l : List Oper} (hm : P.follows .mixedOrders = true) (hB : Region.lexB .any l.toArray = true)
    (h : Nonempty (Ext w) → (∀ (s : Ext w) (b o : Nat), b < w.heap.size → s.out.cell? ⟨b, o, none⟩ = w.cell? ⟨b, o, none⟩) → wpQuiet P l.toArray (fun w' => ∃ s : Ext w, w' = s.out) (fun a' => ∀ w', (∃ s : Ext w, w' = s.out) → Q .normal a' w') l a) : (Code.region id l.toArray true).wp P Q a w :=
  wp_region_ext hm hB (h ⟨⟨_, Below.refl _ _⟩⟩ (fun s b o => s.cells b o))
end
end Go.Proofs.YtjocpbcmehicmaaDoor.Ci
