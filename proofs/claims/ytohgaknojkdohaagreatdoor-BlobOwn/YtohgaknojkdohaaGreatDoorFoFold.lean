/- What fold.Fold answers for every string of at most a million bytes: its signs made alike, and where they begin and where the text ends, in two new rows of ints; nothing else is touched. -/
import Derived.Test.YtohgaknojkdohaaGreatDoorFoText
import Derived.RegionTactic
import Derived.ChangeAlike
namespace Go.Proofs.YtohgaknojkdohaaGreatDoor.Fo
open Go.RowKit

theorem Tryz.info3 : (Tryz.prog.info? 3).map (fun i => (i.zero, i.size, i.bytes)) = some (some (.int .i64 0), 1, 8) := by kernel_rfl

theorem count_from (s : ByteArray) : ∀ (f pos : Nat), Lib.runeCountFrom s f pos = (signs f (s.data.toList.drop pos)).length
  | 0, _ => rfl
  | f + 1, pos => by
    unfold Lib.runeCountFrom
    by_cases h : pos < s.size
    · rw [if_pos h, count_from s f, signs_at s f pos h, List.length_cons]; omega
    · rw [if_neg h, signs_end s _ pos h]; rfl
theorem count_eq (s : ByteArray) : Lib.runeCount s = (signsOf s.data.toList).length := by
  unfold Lib.runeCount signsOf
  rw [count_from, List.drop_zero, ← Lib.size_eq]

/-- A row of ints from a place of a block on. -/
def Holds (w : World) (g o : Nat) (xs : List Int) : Prop := ∀ j, j < xs.length → w.cell? ⟨g, o + j, none⟩ = some (.int .i64 (xs.getD j 0))

theorem Holds.on {w w' : World} {g o : Nat} {xs : List Int} (h : Holds w g o xs) (hb : Below w.heap.size w w') : Holds w' g o xs := by
  intro j hj
  have := h j hj
  exact (hb.cell (lt_of_cell this)).trans this

theorem owns_iterAt {w : World} {base : Nat} {e : TypeId} {size : Nat} {v : Value} {n : Nat} {xs : List Value} (h : w.ownsRow base e size v n xs) {k : Nat} {s : ByteArray} {pos : Nat} (hk : w.heap[k]? = some (.stringIter s pos)) (pos' : Nat) : (w.iterAt k s pos').ownsRow base e size v n xs := by
  refine ⟨h.1, ?_⟩
  rcases h.2 with hn | ⟨g, cap, cur, hv, hbg, hg, rest⟩
  · exact .inl hn
  · have hkg : g ≠ k := by
      intro e1
      rw [e1, hk] at hg
      cases hg
    exact .inr ⟨g, cap, cur, hv, hbg, (Lib.iterAt_other w k g s pos' hkg).trans hg, rest⟩
theorem owns_on {w w' : World} {base : Nat} {e : TypeId} {size : Nat} {v : Value} {n : Nat} {xs : List Value} (h : w.ownsRow base e size v n xs) (hb : Below w.heap.size w w') : w'.ownsRow base e size v n xs := by
  refine ⟨h.1, ?_⟩
  rcases h.2 with hn | ⟨g, cap, cur, hv, hbg, hg, rest⟩
  · exact .inl hn
  · exact .inr ⟨g, cap, cur, hv, hbg, iter_on hg hb, rest⟩
theorem one_cell (w : World) (x : Int) (t : TypeId) : ∀ j u, [Value.int .i64 x][j]? = some u → (w.alloc (.cells #[.int .i64 x] t)).cell? ((⟨w.heap.size, 0, none⟩ : Addr).add j) = some u := by
  intro j u hj
  match j, hj with
  | 0, hj => simp at hj; subst hj; simp [Addr.add]
theorem one_oneCell (x : Int) : ∀ u ∈ [Value.int .i64 x], u.oneCell' = true := by
  intro u hu
  simp at hu
  subst hu
  rfl

theorem holds_owns {w : World} {base g n cap : Nat} {xs : List Int} (h : w.ownsRow base 3 1 (.slice (some ⟨g, 0, none⟩) n cap) n (xs.map (Value.int .i64))) : Holds w g 0 xs := by
  intro j hj
  have hl : xs.length = n := by have := h.1; simpa using this
  rw [Nat.zero_add, h.cellAt j (by omega)]
  simp [hj]

theorem step_keep {w W W' : World} {B K g : Nat} {o x : Obj} (gr : (W.alloc o).grownBy W' (some g)) (hit : W.heap[K]? = some x) (hK : K ≠ g) (hL : Below B w W) (hB : B ≤ W.heap.size) (hg : B ≤ g) :
    W'.heap[K]? = some x ∧ Below B w W' ∧ W.heap.size + 1 ≤ W'.heap.size := by
  have hlt : K < W.heap.size := (Array.getElem?_eq_some_iff.1 hit).1
  have hs : (W.alloc o).heap.size = W.heap.size + 1 := by simp
  refine ⟨?_, (hL.alloc hB o).grown gr (by omega) (by intro k hk; cases hk; exact hg), by have := gr.size; omega⟩
  rw [gr.block K (by omega) (by intro h; cases h; exact hK rfl), Lib.alloc_old W o K hlt]
  exact hit

end Go.Proofs.YtohgaknojkdohaaGreatDoor.Fo
