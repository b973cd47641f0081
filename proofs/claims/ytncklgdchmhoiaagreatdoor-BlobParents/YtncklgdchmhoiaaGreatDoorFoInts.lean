/- The reference's Ints answers true of two rows of the same numbers. -/
import Derived.Test.YtncklgdchmhoiaaGreatDoorFoExt
namespace Go.Proofs.YtncklgdchmhoiaaGreatDoor.Fo
open Go.RowKit

/-- A slice's value, and the numbers that it holds. -/
def RowAt (w : World) (v : Value) (xs : List Int) : Prop := (v = .slice none 0 0 ∧ xs = []) ∨ ∃ g o c, v = .slice (some ⟨g, o, none⟩) xs.length c ∧ Holds w g o xs

theorem RowAt.on {w w' : World} {v : Value} {xs : List Int} (h : RowAt w v xs) (hb : Below w.heap.size w w') : RowAt w' v xs := by
  rcases h with h | ⟨g, o, c, h1, h2⟩
  · exact .inl h
  · exact .inr ⟨g, o, c, h1, h2.on hb⟩

end Go.Proofs.YtncklgdchmhoiaaGreatDoor.Fo
