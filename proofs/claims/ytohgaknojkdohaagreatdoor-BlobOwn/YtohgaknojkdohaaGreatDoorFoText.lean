/- What fold.Text answers for every string of at most a million bytes: its signs, each made alike, written one behind the other; new memory alone is touched. -/
import Derived.Test.YtohgaknojkdohaaGreatDoorFoLeaf
import Derived.Test.YtohgaknojkdohaaGreatDoorFoShelf
import Derived.BigCall
namespace Go.Proofs.YtohgaknojkdohaaGreatDoor.Fo
open Go.RowKit

theorem signs_at (s : ByteArray) (f pos : Nat) (h : pos < s.size) : signs (f + 1) (s.data.toList.drop pos) = Utf8.decode s pos :: signs f (s.data.toList.drop (pos + (Utf8.decode s pos).2)) := by
  rw [signs_cons _ _ (by intro h0; have := congrArg List.length h0; rw [List.length_drop, ← Lib.size_eq] at this; simp at this; omega), ← decL_drop, List.drop_drop]
theorem signs_end (s : ByteArray) (f pos : Nat) (h : ¬ pos < s.size) : signs f (s.data.toList.drop pos) = [] := by
  rw [List.drop_eq_nil_of_le (by rw [← Lib.size_eq]; omega), signs_nil]
theorem decode_facts (s : ByteArray) (pos : Nat) (h : pos < s.size) : 1 ≤ (Utf8.decode s pos).2 ∧ pos + (Utf8.decode s pos).2 ≤ s.size ∧ (Utf8.decode s pos).2 ≤ 4 ∧ okRune ((Utf8.decode s pos).1 : Int) := by
  have hl : (s.data.toList.drop pos).length = s.size - pos := by rw [List.length_drop, ← Lib.size_eq]
  have := decL_facts (s.data.toList.drop pos) (by intro h0; rw [h0] at hl; simp at hl; omega)
  rw [← decL_drop, hl] at this
  exact ⟨this.1, by omega, this.2.2.1, this.2.2.2⟩

theorem builder_on {T e : TypeId} {B b : Nat} {bs : List Value} {w w' : World} (h : Lib.IsBuilderF T e B b bs w) (hb : Below w.heap.size w w') : Lib.IsBuilderF T e B b bs w' := by
  have key : ∀ (i : Nat) (o : Obj), w.heap[i]? = some o → w'.heap[i]? = some o := by
    intro i o hi
    have hlt : i < w.heap.size := (Array.getElem?_eq_some_iff.1 hi).1
    rw [hb.block i hlt]; exact hi
  have one : ∀ p, Lib.BuilderAtF T e B b p bs w → Lib.BuilderAtF T e B b p bs w' := by
    rintro p ⟨hB, v, hb, hown, hne⟩
    refine ⟨hB, v, key _ _ hb, ⟨hown.1, ?_⟩, hne⟩
    rcases hown.2 with hn | ⟨g, cap, cur, fz, hv, hbg, hg, rest⟩
    · exact .inl hn
    · exact .inr ⟨g, cap, cur, fz, hv, hbg, key _ _ hg, rest⟩
  exact h.elim (fun x => .inl (one _ x)) (fun x => .inr (one _ x))

theorem iter_on {w w' : World} {k : Nat} {o : Obj} (h : w.heap[k]? = some o) (hb : Below w.heap.size w w') : w'.heap[k]? = some o := by
  have hlt : k < w.heap.size := (Array.getElem?_eq_some_iff.1 h).1
  rw [hb.block k hlt]; exact h

theorem text_walk (s : ByteArray) (w : World) (hs : s.size ≤ 1000000) (hT : Tab w) :
    Calls Tryz.prog 137 #[.string s] w fun e w' => e = .returned (.string ⟨(textOf s.data.toList).toArray⟩) ∧ Below w.heap.size w w' := by
  have HT := hid hT
  clear hT
  go_enter Tryz.func137, Tryz.ntmps137
  go_wp2
  go_loopw [] (fun wr => ∃ (pos fuel : Nat) (acc : List UInt8), Lib.IsBuilderF 183 5 w.heap.size w.heap.size (Lib.byteCells acc) wr ∧ wr.heap[w.heap.size + 1]? = some (.stringIter s pos) ∧ Below w.heap.size w wr ∧ acc ++ ((signs fuel (s.data.toList.drop pos)).map fun x => runeZ (x.1 : Int)).flatMap Lib.encodeRune = textOf s.data.toList ∧ s.size ≤ pos + fuel ∧ acc.length ≤ 4 * pos) (fun wr => s.size - wr.iterPos (w.heap.size + 1))
  case atStart =>
    refine ⟨0, s.size, [], (Lib.IsBuilderF.of (Lib.fresh_isBuilder 183 5 w)).alloc _, ?_, ((Below.refl _ w).alloc (Nat.le_refl _) _).alloc (by simp) _, ?_, by omega, by simp⟩
    · have := World.iter_heap (w.alloc (.cells #[.pointer none, .slice none 0 0] 183)) s 0
      simpa using this
    · simp only [textOf, runesOf, signsOf, ← Lib.size_eq, List.drop_zero, List.nil_append]
  case round =>
    obtain ⟨pos, fuel, acc, hI, hit, hbw, hacc, hfu, hal⟩ := hrel
    have hsz : w.heap.size + 1 < wr.heap.size := (Array.getElem?_eq_some_iff.1 hit).1
    by_cases hp : pos < s.size
    · have hnx : ∀ ty, (Instr.next (.pointer (some ⟨w.heap.size + 1, 0, none⟩)) true ty).run Tryz.prog wr = _ := fun ty => Lib.run_next_any_at wr (w.heap.size + 1) s pos ty hit hp
      have hd := decode_facts s pos hp
      have hok := runeZ_ok _ hd.2.2.2
      have hI2 := hI.iterAt hit (pos + (Utf8.decode s pos).2)
      have hit2 := Lib.iterAt_heap wr (w.heap.size + 1) s pos (pos + (Utf8.decode s pos).2) hit
      have hbw2 := Lib.below_iterAt hbw (k := w.heap.size + 1) (by omega) s (pos + (Utf8.decode s pos).2)
      have hsz2 : w.heap.size + 1 < (wr.iterAt (w.heap.size + 1) s (pos + (Utf8.decode s pos).2)).heap.size := by rw [Lib.iterAt_size]; omega
      obtain ⟨f, rfl⟩ : ∃ f, fuel = f + 1 := ⟨fuel - 1, by omega⟩
      rw [signs_at s f pos hp] at hacc
      have HT2 := hid (HT.out.on hbw2)
      have b1 : (0 : Int) ≤ (Utf8.decode s pos).1 ∧ ((Utf8.decode s pos).1 : Int) ≤ 1114111 := by have := hd.2.2.2; unfold okRune at this; omega
      have b2 : 0 ≤ runeZ (Utf8.decode s pos).1 ∧ runeZ (Utf8.decode s pos).1 ≤ 1114111 := by unfold okRune at hok; omega
      have HR := hid (rune_any ((Utf8.decode s pos).1 : Int) (by omega) (by omega) _ HT2.out)
      have HA : Hid (acc ++ (Lib.encodeRune (runeZ (Utf8.decode s pos).1) ++ ((signs f (s.data.toList.drop (pos + (Utf8.decode s pos).2))).map fun x => runeZ (x.1 : Int)).flatMap Lib.encodeRune) = textOf s.data.toList) := hid (by simpa using hacc)
      have HL := hid hbw2
      have HI := hid hI2
      clear hacc hbw hbw2 hI hI2 hok
      go_wp2_with fail
      refine HR.out.mono ?_
      rintro e W1 ⟨rfl, c1⟩
      have hI3 := builder_on HI.out c1
      have hit3 := iter_on hit2 c1
      have hs3 : w.heap.size + 1 < W1.heap.size := by have := c1.size; omega
      have HL3 := hid (HL.out.trans (c1.mono (by omega)))
      clear c1
      go_wp2_with fail
      refine (writeRune_any w.heap.size w.heap.size _ _ (by omega) (by omega) _ hI3 (by rw [Lib.byteCells_length]; omega) (by omega)).mono ?_
      rintro e W2 ⟨rfl, h1, d1, k1⟩
      go_wp2
      go_roundw
      case rel =>
        have hl4 := encodeRune_length (runeZ (Utf8.decode s pos).1)
        refine ⟨pos + (Utf8.decode s pos).2, f, acc ++ Lib.encodeRune (runeZ (Utf8.decode s pos).1), ?_, k1.iter hit3 (by omega), HL3.out.trans d1, ?_, by omega, by simp; omega⟩
        · rw [Lib.byteCells_append, Lib.byteCells_encodeRune]; exact Or.inr h1
        · rw [List.append_assoc]; exact HA.out
      case measure =>
        simp only [World.iterPos, k1.iter hit3 (by omega), hit]
        omega
    · have hnx : ∀ ty, (Instr.next (.pointer (some ⟨w.heap.size + 1, 0, none⟩)) true ty).run Tryz.prog wr = _ := fun ty => Lib.run_next_end_at wr (w.heap.size + 1) s pos ty hit hp
      go_wp2_with fail
      refine (builderString_any w.heap.size w.heap.size acc _ hI (by omega)).mono ?_
      rintro e W1 ⟨rfl, _, b1, _⟩
      go_wp2
      go_ret
      rw [signs_end s fuel pos hp] at hacc
      simp only [List.map_nil, List.flatMap_nil, List.append_nil] at hacc
      subst hacc
      exact ⟨rfl, hbw.trans b1⟩
end Go.Proofs.YtohgaknojkdohaaGreatDoor.Fo
