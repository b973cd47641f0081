/- The reference's Ints answers true of two rows of the same numbers. -/
import Derived.Test.YtgpkgkmjppphgaaDoorRowN
import Derived.Deep.QuietTactic
import Derived.BigQuiet
namespace Go.Proofs.YtgpkgkmjppphgaaDoor
open Go.RowKit

theorem ints_any (xs : List Int) (v1 v2 : Value) (w : World) (h1 : Row w v1 xs) (h2 : Row w v2 xs) : Calls Tryd.prog 23 #[v1, v2] w fun e w' => e = .returned (.bool true) ∧ Below w.heap.size w w' := by
  obtain ⟨ad1, cap1, rfl, hmx, hc1⟩ := h1
  obtain ⟨ad2, cap2, rfl, _, hc2⟩ := h2
  have H1 := hid hc1
  have H2 := hid hc2
  unfold maxLen at hmx
  clear hc1 hc2
  generalize hlen : xs.length = n at *
  have HL := hid hlen
  clear hlen
  go_enter Tryd.func23, Tryd.ntmps23
  go_wp2
  go_loopw [5] (fun v wr => ∃ j : Nat, j ≤ n ∧ v = .int .i64 j ∧ Below w.heap.size w wr) (fun v _ => n - (intOf v).toNat)
  case atStart => exact ⟨0, by omega, rfl, Below.refl _ _⟩
  case round =>
    obtain ⟨j, hj, rfl, hb⟩ := hrel
    by_cases hlt : j < n
    · obtain ⟨a1, rfl, x1⟩ := H1.out j hlt
      obtain ⟨a2, rfl, x2⟩ := H2.out j hlt
      have y1 := (hb.cell (lt_of_cell x1)).trans x1
      have y2 := (hb.cell (lt_of_cell x2)).trans x2
      generalize xs.getD j 0 = y at *
      have HB := hid hb
      clear hb x1 x2
      have hlt2 : (j : Int) < (n : Int) := by omega
      go_wp2
      go_quiet (fail)
      go_wp2
      go_roundw
      case rel => exact ⟨j + 1, by omega, by simp, HB.out.trans (below_drewN (Below.refl _ _) _)⟩
      case measure => simp [intOf]; omega
    · obtain rfl : j = n := by omega
      have HB := hid hb
      clear hb
      go_wp2
      go_ret
      exact ⟨rfl, HB.out⟩

end Go.Proofs.YtgpkgkmjppphgaaDoor
