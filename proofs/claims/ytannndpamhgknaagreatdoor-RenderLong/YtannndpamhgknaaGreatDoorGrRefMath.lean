/- The reference's ways in plain words: a number put among rising ones; the closure of units, cell by cell; what is reached, round by round. -/
import Derived.Test.YtannndpamhgknaaGreatDoorGrMath
namespace Go.Proofs.YtannndpamhgknaaGreatDoor.Gr

/-- A set with one symbol more. -/
def addS (s : Nat → Bool) (m : Nat) (j : Nat) : Bool := s j || decide (j = m)
theorem addS_of {s : Nat → Bool} {m : Nat} (h : s m = true) : symL (addS s m) = symL s := symL_congr (fun j _ => by
  unfold addS
  by_cases e : j = m
  · subst e; simp [h]
  · simp [e])
theorem addS_mono {s : Nat → Bool} {m j : Nat} (h : s j = true) : addS s m j = true := by simp [addS, h]
theorem addS_self (s : Nat → Bool) (m : Nat) : addS s m m = true := by simp [addS]
theorem addS_iff {s : Nat → Bool} {m j : Nat} : addS s m j = true ↔ s j = true ∨ j = m := by simp [addS]

theorem put_new {s : Nat → Bool} {m k0 : Nat} (hm : m < 20) (h1 : ∀ j y, j < k0 → (symL s)[j]? = some y → y < (m : Int)) (h2 : ∀ y, (symL s)[k0]? = some y → (m : Int) < y) :
    (symL s).take k0 ++ [(m : Int)] ++ (symL s).drop k0 = symL (addS s m) := by
  have hs := symL_sorted s
  have hgt : ∀ y ∈ (symL s).drop k0, (m : Int) < y := by
    intro y hy
    obtain ⟨i, hi⟩ := List.getElem?_of_mem hy
    rw [List.getElem?_drop] at hi
    obtain ⟨hlt, e⟩ := List.getElem?_eq_some_iff.1 hi
    have hk : k0 < (symL s).length := by omega
    have h3 := h2 _ (List.getElem?_eq_getElem hk)
    by_cases e0 : i = 0
    · subst e0
      subst e
      exact h3
    · have := List.pairwise_iff_getElem.1 hs k0 (k0 + i) hk hlt (by omega)
      rw [e] at this
      omega
  have hlt : ∀ y ∈ (symL s).take k0, y < (m : Int) := by
    intro y hy
    obtain ⟨i, hi⟩ := List.getElem?_of_mem hy
    rw [List.getElem?_take] at hi
    split at hi
    · exact h1 i y (by assumption) hi
    · cases hi
  refine sorted_ext ?_ (symL_sorted _) (fun x => ?_)
  · rw [List.append_assoc, List.pairwise_append]
    refine ⟨hs.sublist (List.take_sublist _ _), ?_, ?_⟩
    · rw [List.singleton_append, List.pairwise_cons]
      exact ⟨hgt, hs.sublist (List.drop_sublist _ _)⟩
    · intro a ha b hb
      have h4 := hlt a ha
      rcases List.mem_cons.1 hb with e | hb
      · omega
      · have := hgt b hb; omega
  · have e : x ∈ (symL s).take k0 ++ [(m : Int)] ++ (symL s).drop k0 ↔ x ∈ symL s ∨ x = (m : Int) := by
      rw [List.mem_append, List.mem_append, List.mem_singleton]
      have h5 : x ∈ symL s ↔ x ∈ (symL s).take k0 ∨ x ∈ (symL s).drop k0 := by
        rw [← List.mem_append, List.take_append_drop]
      rw [h5]
      constructor
      · rintro ((h | h) | h)
        · exact .inl (.inl h)
        · exact .inr h
        · exact .inl (.inr h)
      · rintro ((h | h) | h)
        · exact .inl (.inl h)
        · exact .inr h
        · exact .inl (.inr h)
    rw [e, mem_symL, mem_symL]
    constructor
    · rintro (⟨k, hk, hsk, rfl⟩ | rfl)
      · exact ⟨k, hk, addS_mono hsk, rfl⟩
      · exact ⟨m, hm, addS_self s m, rfl⟩
    · rintro ⟨k, hk, hsk, rfl⟩
      rcases addS_iff.1 hsk with h | h
      · exact .inl ⟨k, hk, h, rfl⟩
      · subst h; exact .inr rfl
theorem put_old {s : Nat → Bool} {m k0 : Nat} (h : (symL s)[k0]? = some (m : Int)) : s m = true := by
  obtain ⟨k, hk, hs, e⟩ := mem_symL.1 (List.mem_of_getElem? h)
  have : k = m := by omega
  exact this ▸ hs
/-- The state of the cells when of one round the rows below i0, and of row i0 the cells below j0, are done. -/
def wpart (T : Nat → Nat → Bool) (k i0 j0 i j : Nat) : Bool := if i < i0 ∨ (i = i0 ∧ j < j0) then wstep T k i j else T i j
theorem wpart_col (T : Nat → Nat → Bool) (k i0 j0 i : Nat) : wpart T k i0 j0 i k = T i k := by
  unfold wpart; split
  · exact wstep_col T k i
  · rfl
theorem wpart_row (T : Nat → Nat → Bool) (k i0 j0 j : Nat) : wpart T k i0 j0 k j = T k j := by
  unfold wpart; split
  · exact wstep_row T k j
  · rfl
theorem wpart_at (T : Nat → Nat → Bool) (k i0 j0 : Nat) : wpart T k i0 j0 i0 j0 = T i0 j0 := by
  unfold wpart; rw [if_neg (by omega)]
theorem wpart_succ (T : Nat → Nat → Bool) (k i0 j0 i j : Nat) : wpart T k i0 (j0 + 1) i j = if i = i0 ∧ j = j0 then wstep T k i j else wpart T k i0 j0 i j := by
  unfold wpart
  by_cases e : i = i0 ∧ j = j0
  · rw [if_pos (by omega), if_pos e]
  · rw [if_neg e]
    by_cases h : i < i0 ∨ (i = i0 ∧ j < j0)
    · rw [if_pos (by omega), if_pos h]
    · rw [if_neg (by omega), if_neg h]
theorem wpart_row_end (T : Nat → Nat → Bool) (k i0 i j : Nat) (hj : j < 20) : wpart T k i0 20 i j = wpart T k (i0 + 1) 0 i j := by
  unfold wpart
  by_cases h : i < i0 ∨ (i = i0 ∧ j < 20)
  · rw [if_pos h, if_pos (by omega)]
  · rw [if_neg h, if_neg (by omega)]
theorem wpart_begin (T : Nat → Nat → Bool) (k i j : Nat) : wpart T k 0 0 i j = T i j := by unfold wpart; rw [if_neg (by omega)]
theorem wpart_end (T : Nat → Nat → Bool) (k i j : Nat) (hi : i < 20) : wpart T k 20 0 i j = wstep T k i j := by unfold wpart; rw [if_pos (.inl hi)]

/-! What is reached, round by round. -/
end Go.Proofs.YtannndpamhgknaaGreatDoor.Gr
