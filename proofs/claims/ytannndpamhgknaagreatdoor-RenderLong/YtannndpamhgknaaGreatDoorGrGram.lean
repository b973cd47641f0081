/- Check, Units and Reached of package gram answer what the document says of rules. -/
import Derived.Test.YtannndpamhgknaaGreatDoorGrRowN
import Derived.Test.YtannndpamhgknaaGreatDoorGrIter
import Derived.Maps.OwnSet
import Derived.Maps.OwnOps
namespace Go.Proofs.YtannndpamhgknaaGreatDoor.Gr
open Go.RowKit Go.Maps

theorem Reach.first {E : Nat → Nat → Bool} {f j : Nat} (h : Reach E f j) : ∃ y, E f y = true := h (fun _ => ∃ y, E f y = true) (fun y e => ⟨y, e⟩) (fun _ _ h _ => h)

open Classical in
/-- Twenty rows of numbers, in a row that the call itself made. -/
def UnitsAt (w : World) (B : Nat) (v : Value) (f : Nat → List Int) : Prop :=
  ∃ (g : Nat) (us : List Value), v = .slice (some ⟨g, 0, none⟩) 20 20 ∧ w.ownsRow B 25 1 v 20 us ∧ ∀ i, i < 20 → ∃ u, us[i]? = some u ∧ RowNew w (g + 1) u (f i)
theorem info_slice : (Tryz.prog.info? 25).map (fun i => (i.zero, i.size, i.bytes)) = some (some (.slice none 0 0), 1, 24) := by kernel_rfl

end Go.Proofs.YtannndpamhgknaaGreatDoor.Gr
