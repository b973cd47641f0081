/- What the small functions of package gram answer of one rule: each of its parts held against its bounds, and whether the rule is right. -/
import Derived.Test.YtannndpamhgknaaGreatDoorProg
import Derived.Test.YtannndpamhgknaaGreatDoorGrMath
import Derived.WalkKit
import Derived.WalkSpells
import Derived.WalkSmall
import Derived.WalkMore
import Derived.Deep.QuietTactic
import Derived.BigQuiet
namespace Go.Proofs.YtannndpamhgknaaGreatDoor.Gr
open Go.RowKit

theorem hid {p : Prop} (h : p) : Hid p := h
theorem ret_int {k : IntKind} {a b : Int} (h : a = b) : Ending.returned (.int k a) = .returned (.int k b) := by rw [h]
theorem ret_bool {a b : Bool} (h : a = b) : Ending.returned (.bool a) = .returned (.bool b) := by rw [h]
theorem up_trans {w w1 w2 : World} (h : Below w.heap.size w w1) (k : Below w1.heap.size w1 w2) : Below w.heap.size w w2 := h.trans (k.mono h.size)
theorem up_alloc (w : World) (o : Obj) : Below w.heap.size w (w.alloc o) := (Below.refl _ _).alloc (Nat.le_refl _) o
theorem lt_of_cell {w : World} {a : Addr} {v : Value} (h : w.cell? a = some v) : a.block < w.heap.size := by
  by_cases hb : a.block < w.heap.size
  · exact hb
  · simp [World.cell?, Array.getElem?_eq_none (by omega : w.heap.size ≤ a.block)] at h

theorem getD_at {xs : List Int} {j : Nat} (h : j < xs.length) : xs[j]? = some (xs.getD j 0) := by
  rw [List.getD_eq_getElem?_getD, List.getElem?_eq_getElem h]; rfl

/-- A slice of numbers: its value and what it holds. -/
def Row (w : World) (v : Value) (xs : List Int) : Prop :=
  ∃ (ad : Option Addr) (cap : Nat), v = .slice ad xs.length cap ∧ xs.length ≤ maxLen ∧ ∀ j, j < xs.length → ∃ a, ad = some a ∧ w.cell? (a.add j) = some (.int .i64 (xs.getD j 0))
theorem Row.on {w w' : World} {v : Value} {xs : List Int} (h : Row w v xs) (hb : Below w.heap.size w w') : Row w' v xs := by
  obtain ⟨ad, cap, h1, h0, h2⟩ := h
  refine ⟨ad, cap, h1, h0, fun j hj => ?_⟩
  obtain ⟨a, h3, h4⟩ := h2 j hj
  exact ⟨a, h3, (hb.cell (lt_of_cell h4)).trans h4⟩

/-- A rule's value: its five cells. -/
def ruleV (r : Rule) (sv pv : Value) : Value := .agg #[.int .i64 r.lhs, sv, .int .i64 r.op, pv, .int .i64 r.cost]

end Go.Proofs.YtannndpamhgknaaGreatDoor.Gr
