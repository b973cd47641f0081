/- The reference's Ints answers true of two rows of the same numbers. -/
import Derived.Test.YtigolkgojckciaaDoorExt
namespace Go.Proofs.YtigolkgojckciaaDoor
open Go.RowKit

/-- A slice's value, and the numbers that it holds. -/
def RowAt (w : World) (v : Value) (xs : List Int) : Prop := (v = .slice none 0 0 ∧ xs = []) ∨ ∃ g o c, v = .slice (some ⟨g, o, none⟩) xs.length c ∧ Holds w g o xs

theorem RowAt.on {w w' : World} {v : Value} {xs : List Int} (h : RowAt w v xs) (hb : Below w.heap.size w w') : RowAt w' v xs := by
  rcases h with h | ⟨g, o, c, h1, h2⟩
  · exact .inl h
  · exact .inr ⟨g, o, c, h1, h2.on hb⟩

theorem ints_slices (g1 o1 c1 g2 o2 c2 n : Nat) (xs : List Int) (w : World) (hn : xs.length = n) (hl : n ≤ 1000000) (h1 : Holds w g1 o1 xs) (h2 : Holds w g2 o2 xs) :
    Calls Tryd.prog 13 #[.slice (some ⟨g1, o1, none⟩) n c1, .slice (some ⟨g2, o2, none⟩) n c2] w fun e w' => e = .returned (.bool true) ∧ Below w.heap.size w w' := by
  have H1 := hid h1
  have H2 := hid h2
  have HN := hid hn
  clear h1 h2 hn
  go_enter Tryd.func13, Tryd.ntmps13
  go_wp2
  go_loopw [5] (fun v wr => ∃ j : Nat, j ≤ n ∧ v = .int .i64 j ∧ Below w.heap.size w wr) (fun v _ => n - (intOf v).toNat)
  case atStart => exact ⟨0, by omega, rfl, Below.refl _ _⟩
  case round =>
    obtain ⟨j, hj, rfl, hb⟩ := hrel
    by_cases hlt : j < n
    · have hjl : j < xs.length := by rw [HN.out]; exact hlt
      have x1 := (H1.out.on hb) j hjl
      have x2 := (H2.out.on hb) j hjl
      generalize xs.getD j 0 = y at *
      have HB := hid hb
      clear hb hjl
      have hlt2 : (j : Int) < (n : Int) := by omega
      go_wp2
      go_quiet (fail)
      go_wp2
      go_roundw
      case rel => exact ⟨j + 1, by omega, by simp, HB.out.trans (below_drewN (Below.refl _ _) _)⟩
      case measure => simp [intOf]; omega
    · obtain rfl : j = n := by omega
      have HB := hid hb
      clear hb
      go_wp2
      go_ret
      exact ⟨rfl, HB.out⟩

theorem ints_nils (v1 v2 : Value) (w : World) (h1 : v1 = .slice none 0 0 ∨ ∃ a c, v1 = .slice a 0 c) (h2 : v2 = .slice none 0 0 ∨ ∃ a c, v2 = .slice a 0 c) :
    Calls Tryd.prog 13 #[v1, v2] w fun e w' => e = .returned (.bool true) ∧ Below w.heap.size w w' := by
  obtain ⟨a, c, rfl⟩ : ∃ a c, v1 = .slice a 0 c := by
    rcases h1 with rfl | h
    · exact ⟨_, _, rfl⟩
    · exact h
  obtain ⟨b, d, rfl⟩ : ∃ a c, v2 = .slice a 0 c := by
    rcases h2 with rfl | h
    · exact ⟨_, _, rfl⟩
    · exact h
  go_enter Tryd.func13, Tryd.ntmps13
  go_wp2
  refine wp_loop_rounds 1 ?_
  rw [rounds_succ]
  go_wp2
  go_ret
  exact ⟨rfl, Below.refl _ _⟩

theorem ints_any (v1 v2 : Value) (xs : List Int) (w : World) (hl : xs.length ≤ 1000000) (h1 : RowAt w v1 xs) (h2 : RowAt w v2 xs) :
    Calls Tryd.prog 13 #[v1, v2] w fun e w' => e = .returned (.bool true) ∧ Below w.heap.size w w' := by
  rcases h1 with ⟨rfl, rfl⟩ | ⟨g1, o1, c1, rfl, k1⟩
  · rcases h2 with ⟨rfl, _⟩ | ⟨g2, o2, c2, rfl, k2⟩
    · exact ints_nils _ _ w (.inl rfl) (.inl rfl)
    · exact ints_nils _ _ w (.inl rfl) (.inr ⟨_, _, rfl⟩)
  · rcases h2 with ⟨rfl, rfl⟩ | ⟨g2, o2, c2, rfl, k2⟩
    · exact ints_nils _ _ w (.inr ⟨_, _, rfl⟩) (.inl rfl)
    · exact ints_slices g1 o1 c1 g2 o2 c2 _ xs w rfl hl k1 k2

end Go.Proofs.YtigolkgojckciaaDoor
