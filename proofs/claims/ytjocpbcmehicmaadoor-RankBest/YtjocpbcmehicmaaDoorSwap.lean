/- An element of a row of one's own laid anew. -/
import Derived.Test.YtjocpbcmehicmaaDoorMake
namespace Go.Proofs.YtjocpbcmehicmaaDoor
open Go.RowKit

theorem rowR_set : ∀ (ps : List (Value × Rd)) (a : Nat) (p : Value × Rd) (t : Nat), a < ps.length → (rowR (ps.set a p))[t]? = if t = a * 3 then some (.int .i64 p.2.v.kind) else if t = a * 3 + 1 then some p.1 else if t = a * 3 + 2 then some (.int .i64 p.2.cost) else (rowR ps)[t]?
  | [], a, _, _, h => by simp at h
  | q :: l, 0, p, t, _ => by
    match t with
    | 0 => rfl
    | 1 => rfl
    | 2 => rfl
    | t + 3 =>
      rw [if_neg (by omega), if_neg (by omega), if_neg (by omega)]
      rfl
  | q :: l, a + 1, p, t, h => by
    match t with
    | 0 => rw [if_neg (by omega), if_neg (by omega), if_neg (by omega)]; rfl
    | 1 => rw [if_neg (by omega), if_neg (by omega), if_neg (by omega)]; rfl
    | 2 => rw [if_neg (by omega), if_neg (by omega), if_neg (by omega)]; rfl
    | t + 3 =>
      show (rowR (l.set a p))[t]? = _
      rw [rowR_set l a p t (by simp at h; omega)]
      by_cases h0 : t = a * 3
      · rw [if_pos h0, if_pos (show t + 3 = (a + 1) * 3 by omega)]
      · rw [if_neg h0, if_neg (show ¬ t + 3 = (a + 1) * 3 by omega)]
        by_cases h1 : t = a * 3 + 1
        · rw [if_pos h1, if_pos (show t + 3 = (a + 1) * 3 + 1 by omega)]
        · rw [if_neg h1, if_neg (show ¬ t + 3 = (a + 1) * 3 + 1 by omega)]
          by_cases h2 : t = a * 3 + 2
          · rw [if_pos h2, if_pos (show t + 3 = (a + 1) * 3 + 2 by omega)]
          · rw [if_neg h2, if_neg (show ¬ t + 3 = (a + 1) * 3 + 2 by omega)]
            rfl
/-- A row with its block told. -/
def RG (B : Nat) (w : World) (g cap : Nat) (ps : List (Value × Rd)) : Prop := RW B w (.slice (some ⟨g, 0, none⟩) ps.length cap) ps
theorem RG.hold {B : Nat} {w : World} {g cap : Nat} {ps : List (Value × Rd)} (h : RG B w g cap ps) : ∃ cur, B ≤ g ∧ w.heap[g]? = some (.cells cur 36 (0, 0)) ∧ ps.length ≤ cap ∧ cap ≤ maxLen ∧ cur.size = cap * 3 ∧ cur.toList.take (ps.length * 3) = rowR ps := by
  obtain ⟨_, ⟨e, _⟩ | ⟨g', cap', cur, e, hB, hg, h1, h2, h3, h4⟩⟩ := h.row
  · cases e
  · injection e with e1 _ e2
    injection e1 with e1
    injection e1 with e1
    subst e1 e2
    exact ⟨cur, hB, hg, h1, h2, h3, h4⟩
theorem RG.cells {B : Nat} {w : World} {g cap : Nat} {ps : List (Value × Rd)} (h : RG B w g cap ps) {j : Nat} {p : Value × Rd} (hp : ps[j]? = some p) :
    (w.cell? ⟨g, j * 3, none⟩ = some (.int .i64 p.2.v.kind) ∧ w.cell? ⟨g, j * 3 + 1, none⟩ = some p.1 ∧ w.cell? ⟨g, j * 3 + 2, none⟩ = some (.int .i64 p.2.cost)) ∧ ∀ t, w.frozen? ⟨g, t, none⟩ = false := by
  obtain ⟨cur, hB, hg, h1, h2, h3, h4⟩ := h.hold
  have hj := (List.getElem?_eq_some_iff.1 hp).1
  obtain ⟨a, b, c⟩ := rowR_get ps j p hp
  have hc : ∀ t, t < ps.length * 3 → cur[t]? = (rowR ps)[t]? := fun t ht => by
    rw [← h4, List.getElem?_take, if_pos ht, Array.getElem?_toList]
  exact ⟨⟨by rw [cell_of_row hg, hc _ (by omega)]; exact a, by rw [cell_of_row hg, hc _ (by omega)]; exact b, by rw [cell_of_row hg, hc _ (by omega)]; exact c⟩, fun t => frozen_of_row hg⟩
theorem RG.put {B : Nat} {w : World} {g cap : Nat} {ps : List (Value × Rd)} (h : RG B w g cap ps) {a : Nat} (ha : a < ps.length) (p : Value × Rd) (hn : NA B w p.1 p.2.v.f) (hne : ∀ b, p.1.ownBlock = some b → b ≠ g) :
    RG B (((w.setCell ⟨g, a * 3, none⟩ (.int .i64 p.2.v.kind)).setCell ⟨g, a * 3 + 1, none⟩ p.1).setCell ⟨g, a * 3 + 2, none⟩ (.int .i64 p.2.cost)) g cap (ps.set a p) := by
  obtain ⟨cur, hB, hg, h1, h2, h3, h4⟩ := h.hold
  have hX := heap_setCell_same _ _ (a * 3 + 2) _ _ (.int .i64 p.2.cost) (heap_setCell_same _ _ (a * 3 + 1) _ _ p.1 (heap_setCell_same _ _ (a * 3) _ _ (.int .i64 p.2.v.kind) hg))
  have hN : ∀ {u : Value} {l : List Int}, NA B w u l → (∀ b, u.ownBlock = some b → b ≠ g) → NA B (((w.setCell ⟨g, a * 3, none⟩ (.int .i64 p.2.v.kind)).setCell ⟨g, a * 3 + 1, none⟩ p.1).setCell ⟨g, a * 3 + 2, none⟩ (.int .i64 p.2.cost)) u l := fun hu hb => hu.of_block fun b e => by
    have := hb b e
    rw [Below.heap_setCell _ _ _ _ (by dsimp only; omega), Below.heap_setCell _ _ _ _ (by dsimp only; omega), Below.heap_setCell _ _ _ _ (by dsimp only; omega)]
  refine ⟨⟨by rw [rowR_len], .inr ⟨g, cap, _, rfl, hB, hX, by rw [List.length_set]; exact h1, h2, by simp [h3], ?_⟩⟩, fun q hq => ?_⟩
  · apply List.ext_getElem?
    intro t
    rw [rowR_set ps a p t ha, List.getElem?_take]
    have hc : t < ps.length * 3 → cur[t]? = (rowR ps)[t]? := fun ht => by
      rw [← h4, List.getElem?_take, if_pos ht, Array.getElem?_toList]
    rw [List.length_set]
    by_cases ht : t < ps.length * 3
    · rw [if_pos ht, Array.getElem?_toList]
      by_cases t0 : t = a * 3
      · rw [if_pos t0, t0, Array.getElem?_setIfInBounds_ne (by omega), Array.getElem?_setIfInBounds_ne (by omega), Array.getElem?_setIfInBounds_self_of_lt (by omega)]
      · rw [if_neg t0]
        by_cases t1 : t = a * 3 + 1
        · rw [if_pos t1, t1, Array.getElem?_setIfInBounds_ne (by omega), Array.getElem?_setIfInBounds_self_of_lt (by simp; omega)]
        · rw [if_neg t1]
          by_cases t2 : t = a * 3 + 2
          · rw [if_pos t2, t2, Array.getElem?_setIfInBounds_self_of_lt (by simp; omega)]
          · rw [if_neg t2, Array.getElem?_setIfInBounds_ne (by omega), Array.getElem?_setIfInBounds_ne (by omega), Array.getElem?_setIfInBounds_ne (by omega)]
            exact hc ht
    · rw [if_neg ht, if_neg (by omega), if_neg (by omega), if_neg (by omega), List.getElem?_eq_none (by rw [rowR_len]; omega)]
  · have hne2 : ∀ b, (Value.slice (some ⟨g, 0, none⟩) ps.length cap).ownBlock ≠ some b → b ≠ g := fun b h e => h (by rw [e]; rfl)
    rw [List.length_set]
    have fin : ∀ {u : Value}, (∀ b, u.ownBlock = some b → b ≠ g) → ∀ b, u.ownBlock = some b → (Value.slice (some ⟨g, 0, none⟩) ps.length cap).ownBlock ≠ some b := fun hu b e h => by
      injection h with h
      exact hu b e h.symm
    rcases List.mem_or_eq_of_mem_set hq with hq | rfl
    · have hb : ∀ b, q.1.ownBlock = some b → b ≠ g := fun b e => hne2 b ((h.nums q hq).2 b e)
      exact ⟨hN (h.nums q hq).1 hb, fin hb⟩
    · exact ⟨hN hn hne, fin hne⟩
/-- Two exchanged. -/
def swapL {α : Type} (ps : List α) (a b : Nat) (p q : α) : List α := (ps.set a q).set b p
theorem NA.set3 {B : Nat} {w : World} {u : Value} {l : List Int} (hu : NA B w u l) {g i1 i2 i3 : Nat} {x1 x2 x3 : Value} (hb : ∀ b, u.ownBlock = some b → b ≠ g) : NA B (((w.setCell ⟨g, i1, none⟩ x1).setCell ⟨g, i2, none⟩ x2).setCell ⟨g, i3, none⟩ x3) u l := hu.of_block fun b e => by
  have := hb b e
  rw [Below.heap_setCell _ _ _ _ (by dsimp only; omega), Below.heap_setCell _ _ _ _ (by dsimp only; omega), Below.heap_setCell _ _ _ _ (by dsimp only; omega)]
/-- Two put, one behind the other. -/
theorem RG.put2 {B : Nat} {w : World} {g cap : Nat} {ps : List (Value × Rd)} (h : RG B w g cap ps) {a b : Nat} {p q : Value × Rd} (ha : ps[a]? = some p) (hb : ps[b]? = some q) :
    RG B (((((((w.setCell ⟨g, a * 3, none⟩ (.int .i64 q.2.v.kind)).setCell ⟨g, a * 3 + 1, none⟩ q.1).setCell ⟨g, a * 3 + 2, none⟩ (.int .i64 q.2.cost)).setCell ⟨g, b * 3, none⟩ (.int .i64 p.2.v.kind)).setCell ⟨g, b * 3 + 1, none⟩ p.1).setCell ⟨g, b * 3 + 2, none⟩ (.int .i64 p.2.cost))) g cap (swapL ps a b p q) := by
  have hp := List.mem_of_getElem? ha
  have hq := List.mem_of_getElem? hb
  have np : ∀ b, p.1.ownBlock = some b → b ≠ g := fun b e he => (h.nums p hp).2 b e (by rw [he]; rfl)
  have nq : ∀ b, q.1.ownBlock = some b → b ≠ g := fun b e he => (h.nums q hq).2 b e (by rw [he]; rfl)
  have la := (List.getElem?_eq_some_iff.1 ha).1
  have lb := (List.getElem?_eq_some_iff.1 hb).1
  have h1 := h.put la q (h.nums q hq).1 nq
  exact h1.put (a := b) (by rw [List.length_set]; exact lb) p ((h.nums p hp).1.set3 np) np
theorem swapL_len {α : Type} (ps : List α) (a b : Nat) (p q : α) : (swapL ps a b p q).length = ps.length := by unfold swapL; simp
theorem RG.ne {B : Nat} {w : World} {g cap : Nat} {ps : List (Value × Rd)} (h : RG B w g cap ps) {p : Value × Rd} (hp : p ∈ ps) : ∀ b, p.1.ownBlock = some b → b ≠ g := fun b e he => (h.nums p hp).2 b e (by rw [he]; rfl)
theorem swap_mem {α : Type} {ps : List α} {a b : Nat} {p q : α} (ha : ps[a]? = some p) (hb : ps[b]? = some q) (x : α) : x ∈ swapL ps a b p q ↔ x ∈ ps := by
  have h : ∀ i, (swapL ps a b p q)[i]? = if i = b then some p else if i = a then some q else ps[i]? := fun i => by
    have la := (List.getElem?_eq_some_iff.1 ha).1
    have lb := (List.getElem?_eq_some_iff.1 hb).1
    unfold swapL
    rw [List.getElem?_set]
    by_cases e : i = b
    · rw [if_pos e.symm, if_pos e, if_pos (by rw [List.length_set]; omega)]
    · rw [if_neg (Ne.symm e), if_neg e, List.getElem?_set]
      by_cases e2 : i = a
      · rw [if_pos e2.symm, if_pos e2, if_pos (by omega)]
      · rw [if_neg (Ne.symm e2), if_neg e2]
  rw [List.mem_iff_getElem?, List.mem_iff_getElem?]
  constructor
  · rintro ⟨i, hi⟩
    rw [h] at hi
    by_cases e : i = b
    · rw [if_pos e] at hi; exact ⟨a, ha.trans hi⟩
    · rw [if_neg e] at hi
      by_cases e2 : i = a
      · rw [if_pos e2] at hi; exact ⟨b, hb.trans hi⟩
      · rw [if_neg e2] at hi; exact ⟨i, hi⟩
  · rintro ⟨i, hi⟩
    by_cases e : i = b
    · refine ⟨a, ?_⟩
      rw [h]
      rw [e] at hi
      by_cases e2 : a = b
      · rw [if_pos e2]; rw [e2] at ha; exact ha.symm.trans hi
      · rw [if_neg e2, if_pos rfl]; exact hb.symm.trans hi
    · by_cases e2 : i = a
      · refine ⟨b, ?_⟩
        rw [h, if_pos rfl]
        rw [e2] at hi
        exact ha.symm.trans hi
      · refine ⟨i, ?_⟩
        rw [h, if_neg e, if_neg e2]; exact hi
end Go.Proofs.YtjocpbcmehicmaaDoor
