/- More of the best: of the best of these, of two rows', of a value's many. -/
import Derived.Test.YtjocpbcmehicmaaDoorMath2
namespace Go.Proofs.YtjocpbcmehicmaaDoor

theorem len_addL (r : Rd) : ∀ l : List Rd, (addL l r).length ≤ l.length + 1
  | [] => by simp [addL]
  | z :: l => by
    have := len_addL r l
    unfold addL
    split
    · simp; omega
    · split
      · split <;> simp
      · simp
theorem len_insC (r : Rd) : ∀ l : List Rd, (insC l r).length = l.length + 1
  | [] => by simp [insC]
  | z :: l => by
    have := len_insC r l
    unfold insC
    split
    · simp
    · simp; omega
theorem len_bestR (l : List Rd) : (bestR l).length ≤ l.length := by
  have h1 : ∀ (m b : List Rd), (m.foldl addL b).length ≤ b.length + m.length := by
    intro m
    induction m with
    | nil => intro b; simp
    | cons r m ih =>
      intro b
      have := ih (addL b r)
      have := len_addL r b
      simp; omega
  have h2 : ∀ (m b : List Rd), (m.foldl insC b).length = b.length + m.length := by
    intro m
    induction m with
    | nil => intro b; simp
    | cons r m ih =>
      intro b
      have := ih (insC b r)
      have := len_insC r b
      simp; omega
  have a := h1 l []
  have b := h2 (byV l) []
  unfold bestR
  unfold byV at *
  simp at a b
  omega
theorem IsBest.len {l o : List Rd} (h : IsBest l o) : o.length ≤ l.length := by rw [h.eq]; exact len_bestR l
theorem IsBest.dist {l o : List Rd} (h : IsBest l o) {r s : Rd} (hr : r ∈ o) (hs : s ∈ o) (hv : s.v = r.v) : r.cost ≤ s.cost := ((h.2 r).1 hr).2 s ((h.2 s).1 hs).1 hv
/-- The best of the first of the best are these. -/
theorem IsBest.again {l o : List Rd} (h : IsBest l o) (m : Nat) : IsBest (o.take m) (o.take m) :=
  ⟨List.Pairwise.sublist (List.take_sublist m o) h.1, fun _ => ⟨fun hr => ⟨hr, fun _ hs hv => h.dist (List.mem_of_mem_take hr) (List.mem_of_mem_take hs) hv⟩, fun hr => hr.1⟩⟩
/-- The best of two rows are the best of their bests. -/
theorem IsBest.parts {l m p q o : List Rd} (hp : IsBest l p) (hq : IsBest m q) (ho : IsBest (p ++ q) o) : IsBest (l ++ m) o := by
  refine ⟨ho.1, fun r => ?_⟩
  rw [ho.2]
  simp only [List.mem_append, hp.2, hq.2]
  constructor
  · rintro ⟨h1, h2⟩
    refine ⟨h1.imp (fun h => h.1) (fun h => h.1), fun s hs hv => ?_⟩
    rcases hs with hs | hs
    · obtain ⟨y, hy, hyv, hyc, hym⟩ := least_there hs
      have := h2 y (.inl ⟨hy, fun t ht htv => hym t ht (htv.trans hyv)⟩) (hyv.trans hv)
      omega
    · obtain ⟨y, hy, hyv, hyc, hym⟩ := least_there hs
      have := h2 y (.inr ⟨hy, fun t ht htv => hym t ht (htv.trans hyv)⟩) (hyv.trans hv)
      omega
  · rintro ⟨h1, h2⟩
    refine ⟨h1.imp (fun h => ⟨h, fun s hs hv => h2 s (.inl hs) hv⟩) (fun h => ⟨h, fun s hs hv => h2 s (.inr hs) hv⟩), fun s hs hv => ?_⟩
    rcases hs with hs | hs
    · exact h2 s (.inl hs.1) hv
    · exact h2 s (.inr hs.1) hv
/-- One value, many times: once, with its least cost. -/
theorem IsBest.once {l o : List Rd} {x : Val} {c : Int} (h : IsBest l o) (hl : ∀ r ∈ l, r.v = x) (hm : (⟨x, c⟩ : Rd) ∈ l) (hc : ∀ r ∈ l, c ≤ r.cost) : o = [⟨x, c⟩] := by
  refine h.unique ⟨by simp [Rising], fun r => ?_⟩
  rw [List.mem_singleton]
  constructor
  · rintro rfl
    exact ⟨hm, fun s hs _ => hc s hs⟩
  · rintro ⟨h1, h2⟩
    have a := h2 _ hm (hl r h1).symm
    have b := hc r h1
    have a2 : r.cost ≤ c := a
    exact Rd.ext' (hl r h1) (show r.cost = c by omega)
end Go.Proofs.YtjocpbcmehicmaaDoor
