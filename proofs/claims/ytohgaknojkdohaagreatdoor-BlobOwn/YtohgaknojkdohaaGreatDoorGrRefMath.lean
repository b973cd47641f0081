/- The reference's ways in plain words: a number put among rising ones; the closure of units, cell by cell; what is reached, round by round. -/
import Derived.Test.YtohgaknojkdohaaGreatDoorGrMath
namespace Go.Proofs.YtohgaknojkdohaaGreatDoor.Gr

/-- A set with one symbol more. -/
def addS (s : Nat → Bool) (m : Nat) (j : Nat) : Bool := s j || decide (j = m)
theorem addS_of {s : Nat → Bool} {m : Nat} (h : s m = true) : symL (addS s m) = symL s := symL_congr (fun j _ => by
  unfold addS
  by_cases e : j = m
  · subst e; simp [h]
  · simp [e])
theorem addS_mono {s : Nat → Bool} {m j : Nat} (h : s j = true) : addS s m j = true := by simp [addS, h]
theorem addS_self (s : Nat → Bool) (m : Nat) : addS s m m = true := by simp [addS]
theorem addS_iff {s : Nat → Bool} {m j : Nat} : addS s m j = true ↔ s j = true ∨ j = m := by simp [addS]

theorem put_new {s : Nat → Bool} {m k0 : Nat} (hm : m < 20) (h1 : ∀ j y, j < k0 → (symL s)[j]? = some y → y < (m : Int)) (h2 : ∀ y, (symL s)[k0]? = some y → (m : Int) < y) :
    (symL s).take k0 ++ [(m : Int)] ++ (symL s).drop k0 = symL (addS s m) := by
  have hs := symL_sorted s
  have hgt : ∀ y ∈ (symL s).drop k0, (m : Int) < y := by
    intro y hy
    obtain ⟨i, hi⟩ := List.getElem?_of_mem hy
    rw [List.getElem?_drop] at hi
    obtain ⟨hlt, e⟩ := List.getElem?_eq_some_iff.1 hi
    have hk : k0 < (symL s).length := by omega
    have h3 := h2 _ (List.getElem?_eq_getElem hk)
    by_cases e0 : i = 0
    · subst e0
      subst e
      exact h3
    · have := List.pairwise_iff_getElem.1 hs k0 (k0 + i) hk hlt (by omega)
      rw [e] at this
      omega
  have hlt : ∀ y ∈ (symL s).take k0, y < (m : Int) := by
    intro y hy
    obtain ⟨i, hi⟩ := List.getElem?_of_mem hy
    rw [List.getElem?_take] at hi
    split at hi
    · exact h1 i y (by assumption) hi
    · cases hi
  refine sorted_ext ?_ (symL_sorted _) (fun x => ?_)
  · rw [List.append_assoc, List.pairwise_append]
    refine ⟨hs.sublist (List.take_sublist _ _), ?_, ?_⟩
    · rw [List.singleton_append, List.pairwise_cons]
      exact ⟨hgt, hs.sublist (List.drop_sublist _ _)⟩
    · intro a ha b hb
      have h4 := hlt a ha
      rcases List.mem_cons.1 hb with e | hb
      · omega
      · have := hgt b hb; omega
  · have e : x ∈ (symL s).take k0 ++ [(m : Int)] ++ (symL s).drop k0 ↔ x ∈ symL s ∨ x = (m : Int) := by
      rw [List.mem_append, List.mem_append, List.mem_singleton]
      have h5 : x ∈ symL s ↔ x ∈ (symL s).take k0 ∨ x ∈ (symL s).drop k0 := by
        rw [← List.mem_append, List.take_append_drop]
      rw [h5]
      constructor
      · rintro ((h | h) | h)
        · exact .inl (.inl h)
        · exact .inr h
        · exact .inl (.inr h)
      · rintro ((h | h) | h)
        · exact .inl (.inl h)
        · exact .inr h
        · exact .inl (.inr h)
    rw [e, mem_symL, mem_symL]
    constructor
    · rintro (⟨k, hk, hsk, rfl⟩ | rfl)
      · exact ⟨k, hk, addS_mono hsk, rfl⟩
      · exact ⟨m, hm, addS_self s m, rfl⟩
    · rintro ⟨k, hk, hsk, rfl⟩
      rcases addS_iff.1 hsk with h | h
      · exact .inl ⟨k, hk, h, rfl⟩
      · subst h; exact .inr rfl
theorem put_old {s : Nat → Bool} {m k0 : Nat} (h : (symL s)[k0]? = some (m : Int)) : s m = true := by
  obtain ⟨k, hk, hs, e⟩ := mem_symL.1 (List.mem_of_getElem? h)
  have : k = m := by omega
  exact this ▸ hs
theorem addS_length {s : Nat → Bool} {m : Nat} (hm : m < 20) (h : s m = false) : (symL (addS s m)).length = (symL s).length + 1 := by
  have hn : (m : Int) ∉ symL s := fun hx => by
    obtain ⟨k, hk, hs, e⟩ := mem_symL.1 hx
    have : k = m := by omega
    rw [this, h] at hs; cases hs
  have hnd : (symL s).Nodup := (symL_sorted s).imp (fun h => by omega)
  have hp : (symL (addS s m)).Perm ((m : Int) :: symL s) := by
    refine (List.perm_ext_iff_of_nodup ((symL_sorted _).imp (fun h => by omega)) (List.nodup_cons.2 ⟨hn, hnd⟩)).2 (fun x => ?_)
    rw [List.mem_cons, mem_symL, mem_symL]
    constructor
    · rintro ⟨k, hk, hsk, rfl⟩
      rcases addS_iff.1 hsk with h | h
      · exact .inr ⟨k, hk, h, rfl⟩
      · subst h; exact .inl rfl
    · rintro (rfl | ⟨k, hk, hsk, rfl⟩)
      · exact ⟨m, hm, addS_self s m, rfl⟩
      · exact ⟨k, hk, addS_mono hsk, rfl⟩
  rw [hp.length_eq]; rfl

/-- The state of the cells when of one round the rows below i0, and of row i0 the cells below j0, are done. -/
def wpart (T : Nat → Nat → Bool) (k i0 j0 i j : Nat) : Bool := if i < i0 ∨ (i = i0 ∧ j < j0) then wstep T k i j else T i j
theorem wpart_col (T : Nat → Nat → Bool) (k i0 j0 i : Nat) : wpart T k i0 j0 i k = T i k := by
  unfold wpart; split
  · exact wstep_col T k i
  · rfl
theorem wpart_row (T : Nat → Nat → Bool) (k i0 j0 j : Nat) : wpart T k i0 j0 k j = T k j := by
  unfold wpart; split
  · exact wstep_row T k j
  · rfl
theorem wpart_at (T : Nat → Nat → Bool) (k i0 j0 : Nat) : wpart T k i0 j0 i0 j0 = T i0 j0 := by
  unfold wpart; rw [if_neg (by omega)]
theorem wpart_succ (T : Nat → Nat → Bool) (k i0 j0 i j : Nat) : wpart T k i0 (j0 + 1) i j = if i = i0 ∧ j = j0 then wstep T k i j else wpart T k i0 j0 i j := by
  unfold wpart
  by_cases e : i = i0 ∧ j = j0
  · rw [if_pos (by omega), if_pos e]
  · rw [if_neg e]
    by_cases h : i < i0 ∨ (i = i0 ∧ j < j0)
    · rw [if_pos (by omega), if_pos h]
    · rw [if_neg (by omega), if_neg h]
theorem wpart_row_end (T : Nat → Nat → Bool) (k i0 i j : Nat) (hj : j < 20) : wpart T k i0 20 i j = wpart T k (i0 + 1) 0 i j := by
  unfold wpart
  by_cases h : i < i0 ∨ (i = i0 ∧ j < 20)
  · rw [if_pos h, if_pos (by omega)]
  · rw [if_neg h, if_neg (by omega)]
theorem wpart_begin (T : Nat → Nat → Bool) (k i j : Nat) : wpart T k 0 0 i j = T i j := by unfold wpart; rw [if_neg (by omega)]
theorem wpart_end (T : Nat → Nat → Bool) (k i j : Nat) (hi : i < 20) : wpart T k 20 0 i j = wstep T k i j := by unfold wpart; rw [if_pos (.inl hi)]

/-! What is reached, round by round. -/
/-- Only what is reached is in it, and 0 is. -/
def RSound (rs : List Rule) (s : Nat → Bool) : Prop := s 0 = true ∧ ∀ j, j < 20 → s j = true → reachedS rs j = true
/-- What the first n rules have, of symbols in it, is in it. -/
def RClosed (rs : List Rule) (s : Nat → Bool) (n : Nat) : Prop := ∀ i r, i < n → rs[i]? = some r → s r.lhs.toNat = true → ∀ x ∈ r.rhs, 0 ≤ x → s x.toNat = true
theorem rsound_add {rs : List Rule} (hr : rs.all right = true) {s : Nat → Bool} (h : RSound rs s) {r : Rule} (hm : r ∈ rs) (hl : s r.lhs.toNat = true) {x : Int} (hx : x ∈ r.rhs) (h0 : 0 ≤ x) : RSound rs (addS s x.toNat) := by
  refine ⟨addS_mono h.1, fun j hj hs => ?_⟩
  rcases addS_iff.1 hs with e | e
  · exact h.2 j hj e
  · have hR := List.all_eq_true.1 hr r hm
    have h1 := right_lhs hR
    have h2 := right_rhs hR
    have he : edge 6 rs r.lhs.toNat j = true := by
      simp only [edge, List.any_eq_true, Bool.and_eq_true, decide_eq_true_eq, List.contains_iff_mem]
      exact ⟨r, hm, ⟨by omega, h2.2⟩, by rw [e, show ((x.toNat : Nat) : Int) = x by omega]; exact hx⟩
    rcases (reachedS_iff hr).1 (h.2 r.lhs.toNat (by omega) hl) with e2 | e2
    · rw [e2] at he
      exact (reachedS_iff hr).2 (.inr (.step he))
    · exact (reachedS_iff hr).2 (.inr (e2.snoc he))
theorem rclosed_all {rs : List Rule} (hr : rs.all right = true) {s : Nat → Bool} (h : RSound rs s) (hc : RClosed rs s rs.length) : symL s = reachedL rs := by
  refine symL_congr (fun j hj => ?_)
  rw [Bool.eq_iff_iff]
  refine ⟨h.2 j hj, fun hs => ?_⟩
  have hstep : ∀ x y, s x = true → edge 6 rs x y = true → s y = true := by
    intro x y hx he
    simp only [edge, List.any_eq_true, Bool.and_eq_true, decide_eq_true_eq, List.contains_iff_mem] at he
    obtain ⟨r, hm, ⟨h1, _⟩, h3⟩ := he
    obtain ⟨i, hi⟩ := List.getElem?_of_mem hm
    have := hc i r (List.getElem?_eq_some_iff.1 hi).1 hi (by rw [h1]; simpa using hx) _ h3 (by omega)
    simpa using this
  rcases (reachedS_iff hr).1 hs with e | e
  · subst e; exact h.1
  · exact e (fun y => s y = true) (fun y he => hstep 0 y h.1 he) (fun x y hx he => hstep x y hx he)

end Go.Proofs.YtohgaknojkdohaaGreatDoor.Gr
