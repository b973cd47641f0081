/- Rows of rules that the call itself makes: a whole row appended to another. -/
import Derived.Test.YtannndpamhgknaaGreatDoorGrGrow
import Derived.Maps.AppendAt
namespace Go.Proofs.YtannndpamhgknaaGreatDoor.Gr
open Go.RowKit

theorem RulesNew.shape {w : World} {B : Nat} {v : Value} {rs : List Rule} (h : RulesNew w B v rs) : ∃ ad cap, v = .slice ad rs.length cap := by
  obtain ⟨cs, ⟨_, ⟨rfl, h0⟩ | ⟨g, cap, cur, rfl, _⟩⟩, _⟩ := h
  · exact ⟨none, 0, by rw [h0]⟩
  · exact ⟨_, _, rfl⟩
theorem RulesNew.none_cap {w : World} {B : Nat} {v : Value} {rs : List Rule} (h : RulesNew w B v rs) : ∀ n c, v = .slice none n c → c = 0 := by
  obtain ⟨cs, ⟨_, ⟨rfl, h0⟩ | ⟨g, cap, cur, rfl, _⟩⟩, _⟩ := h
  · intro n c e; simp at e; exact e.2.symm
  · intro n c e; simp at e
theorem rulesNew_made (w : World) (B : Nat) (hB : B ≤ w.heap.size) (g : Nat) (hg : g = w.heap.size) : RulesNew (w.alloc (.cells #[] 120)) B (.slice (some ⟨g, 0, none⟩) 0 0) [] := by
  subst hg
  exact ⟨[], ⟨rfl, .inr ⟨w.heap.size, 0, #[], rfl, hB, row_new w _, Nat.le_refl _, by unfold maxLen; omega, rfl, rfl⟩⟩, fun j r h => by simp at h⟩

/-- The cells of rules, one behind the other. -/
def cellsOfR (svs : List (Value × Value)) (qs : List Rule) : List Value := (qs.zip svs).flatMap fun x => [.int .i64 x.1.lhs, x.2.1, .int .i64 x.1.op, x.2.2, .int .i64 x.1.cost]
theorem cellsOfR_at : ∀ (svs : List (Value × Value)) (qs : List Rule), svs.length = qs.length → (cellsOfR svs qs).length = qs.length * 5 ∧ ∀ j k, j < qs.length → k < 5 → ∃ r s, qs[j]? = some r ∧ svs[j]? = some s ∧ (cellsOfR svs qs)[j * 5 + k]? = [Value.int .i64 r.lhs, s.1, .int .i64 r.op, s.2, .int .i64 r.cost][k]?
  | [], [], _ => ⟨rfl, fun j k h => by simp at h⟩
  | [], q :: qs, h => by simp at h
  | s :: svs, [], h => by simp at h
  | s :: svs, q :: qs, h => by
    have ih := cellsOfR_at svs qs (by simpa using h)
    have e : cellsOfR (s :: svs) (q :: qs) = [.int .i64 q.lhs, s.1, .int .i64 q.op, s.2, .int .i64 q.cost] ++ cellsOfR svs qs := rfl
    refine ⟨by rw [e, List.length_append, ih.1]; simp; omega, fun j k hj hk => ?_⟩
    rw [e]
    cases j with
    | zero =>
      refine ⟨q, s, rfl, rfl, ?_⟩
      rw [List.getElem?_append_left (by simp; omega), Nat.zero_mul, Nat.zero_add]
    | succ j =>
      obtain ⟨r, t, h1, h2, h3⟩ := ih.2 j k (by simpa using hj) hk
      refine ⟨r, t, by simpa using h1, by simpa using h2, ?_⟩
      rw [List.getElem?_append_right (by simp; omega), ← h3]
      congr 1
      simp
      omega

theorem list_choose {α : Type} {n : Nat} {p : Nat → α → Prop} (h : ∀ j, j < n → ∃ x, p j x) : ∃ l : List α, l.length = n ∧ ∀ j x, l[j]? = some x → p j x := by
  induction n with
  | zero => exact ⟨[], rfl, fun j x h => by simp at h⟩
  | succ n ih =>
    obtain ⟨l, hl, hp⟩ := ih (fun j hj => h j (by omega))
    obtain ⟨y, hy⟩ := h n (by omega)
    refine ⟨l ++ [y], by simp [hl], fun j x hx => ?_⟩
    by_cases hj : j < n
    · rw [List.getElem?_append_left (by omega)] at hx
      exact hp j x hx
    · rw [List.getElem?_append_right (by omega)] at hx
      have hj2 := (List.getElem?_eq_some_iff.1 hx).1
      simp at hj2
      obtain rfl : j = n := by omega
      simp [hl] at hx
      exact hx ▸ hy

end Go.Proofs.YtannndpamhgknaaGreatDoor.Gr
