/- The best as the reference makes them: added by value, laid by cost. -/
import Derived.Test.YtjocpbcmehicmaaDoorMath
namespace Go.Proofs.YtjocpbcmehicmaaDoor

def addL : List Rd → Rd → List Rd
  | [], r => [r]
  | x :: l, r => if cmpV x.v r.v < 0 then x :: addL l r else if cmpV x.v r.v = 0 then (if x.cost ≤ r.cost then x :: l else ⟨x.v, r.cost⟩ :: l) else r :: x :: l
def insC : List Rd → Rd → List Rd
  | [], r => [r]
  | x :: l, r => if r.cost < x.cost then r :: x :: l else x :: insC l r
def byV (l : List Rd) : List Rd := l.foldl addL []
def bestR (l : List Rd) : List Rd := (byV l).foldl insC []

/-- Strictly rising by value. -/
def RisingV (l : List Rd) : Prop := l.Pairwise (fun x y => cmpV x.v y.v < 0)
theorem mem_addL (r : Rd) : ∀ (l : List Rd), RisingV l → ∀ x, x ∈ addL l r ↔ (x ∈ l ∧ (x.v = r.v → x.cost ≤ r.cost)) ∨ (x = r ∧ ∀ y ∈ l, y.v = r.v → r.cost < y.cost)
  | [], _, x => by simp [addL]
  | z :: l, h, x => by
    obtain ⟨hz, hl⟩ := List.pairwise_cons.1 h
    unfold addL
    by_cases e : cmpV z.v r.v < 0
    · rw [if_pos e]
      have hne : z.v ≠ r.v := fun h => by rw [h, cmpV_self] at e; omega
      simp only [List.mem_cons, mem_addL r l hl x]
      constructor
      · rintro (rfl | ⟨h1, h2⟩ | ⟨h1, h2⟩)
        · exact .inl ⟨.inl rfl, fun h => absurd h hne⟩
        · exact .inl ⟨.inr h1, h2⟩
        · refine .inr ⟨h1, fun y hy hv => ?_⟩
          rcases hy with rfl | hy
          · exact absurd hv hne
          · exact h2 y hy hv
      · rintro (⟨rfl | h1, h2⟩ | ⟨h1, h2⟩)
        · exact .inl rfl
        · exact .inr (.inl ⟨h1, h2⟩)
        · exact .inr (.inr ⟨h1, fun y hy hv => h2 y (.inr hy) hv⟩)
    · rw [if_neg e]
      have hnl : ∀ y ∈ l, y.v ≠ r.v := fun y hy h => by
        have := hz y hy
        rw [h] at this
        exact e this
      by_cases e0 : cmpV z.v r.v = 0
      · rw [if_pos e0]
        have ev := cmpV_eq e0
        by_cases ec : z.cost ≤ r.cost
        · rw [if_pos ec]
          simp only [List.mem_cons]
          constructor
          · rintro (rfl | h1)
            · exact .inl ⟨.inl rfl, fun _ => ec⟩
            · exact .inl ⟨.inr h1, fun h => absurd h (hnl x h1)⟩
          · rintro (⟨h1, _⟩ | ⟨_, h2⟩)
            · exact h1
            · have := h2 z (.inl rfl) ev; omega
        · rw [if_neg ec]
          simp only [List.mem_cons]
          constructor
          · rintro (rfl | h1)
            · refine .inr ⟨Rd.ext' ev rfl, fun y hy hv => ?_⟩
              rcases hy with rfl | hy
              · omega
              · exact absurd hv (hnl y hy)
            · exact .inl ⟨.inr h1, fun h => absurd h (hnl x h1)⟩
          · rintro (⟨rfl | h1, h2⟩ | ⟨rfl, h2⟩)
            · have := h2 ev; omega
            · exact .inr h1
            · exact .inl (Rd.ext' ev.symm rfl)
      · rw [if_neg e0]
        have hzn : z.v ≠ r.v := fun h => e0 (by rw [h]; exact cmpV_self _)
        simp only [List.mem_cons]
        constructor
        · rintro (rfl | rfl | h1)
          · refine .inr ⟨rfl, fun y hy hv => ?_⟩
            rcases hy with rfl | hy
            · exact absurd hv hzn
            · exact absurd hv (hnl y hy)
          · exact .inl ⟨.inl rfl, fun h => absurd h hzn⟩
          · exact .inl ⟨.inr h1, fun h => absurd h (hnl x h1)⟩
        · rintro (⟨h1, _⟩ | ⟨h1, _⟩)
          · exact .inr h1
          · exact .inl h1
theorem rising_addL (r : Rd) : ∀ (l : List Rd), RisingV l → RisingV (addL l r)
  | [], _ => by simp [addL, RisingV]
  | z :: l, h => by
    obtain ⟨hz, hl⟩ := List.pairwise_cons.1 h
    unfold addL
    by_cases e : cmpV z.v r.v < 0
    · rw [if_pos e]
      refine List.pairwise_cons.2 ⟨fun y hy => ?_, rising_addL r l hl⟩
      rcases (mem_addL r l hl y).1 hy with ⟨h1, _⟩ | ⟨rfl, _⟩
      · exact hz y h1
      · exact e
    · rw [if_neg e]
      by_cases e0 : cmpV z.v r.v = 0
      · rw [if_pos e0]
        split
        · exact h
        · exact List.pairwise_cons.2 ⟨hz, hl⟩
      · rw [if_neg e0]
        have hr : cmpV r.v z.v < 0 := by have := cmpVTO.turn z.v r.v; omega
        refine List.pairwise_cons.2 ⟨fun y hy => ?_, h⟩
        rcases List.mem_cons.1 hy with rfl | hy
        · exact hr
        · exact cmpVTO.lt_of hr (by have := hz y hy; omega)
/-- The least of each value. -/
def Least (l by_ : List Rd) : Prop := RisingV by_ ∧ ∀ r, r ∈ by_ ↔ r ∈ l ∧ ∀ s ∈ l, s.v = r.v → r.cost ≤ s.cost
theorem least_there {l : List Rd} {s : Rd} (h : s ∈ l) : ∃ y ∈ l, y.v = s.v ∧ y.cost ≤ s.cost ∧ ∀ t ∈ l, t.v = s.v → y.cost ≤ t.cost := by
  induction l generalizing s with
  | nil => simp at h
  | cons z l ih =>
    by_cases hm : ∃ t ∈ l, t.v = s.v
    · obtain ⟨t, ht, hv⟩ := hm
      obtain ⟨y, hy, hyv, hyc, hym⟩ := ih ht
      by_cases hz : z.v = s.v ∧ z.cost < y.cost
      · refine ⟨z, by simp, hz.1, ?_, fun q hq hqv => ?_⟩
        · rcases List.mem_cons.1 h with rfl | h
          · omega
          · have := hym s h hv.symm; omega
        · rcases List.mem_cons.1 hq with rfl | hq
          · omega
          · have := hym q hq (hqv.trans hv.symm); omega
      · refine ⟨y, by simp [hy], hyv.trans hv, ?_, fun q hq hqv => ?_⟩
        · rcases List.mem_cons.1 h with rfl | h
          · have : ¬ s.cost < y.cost := fun h => hz ⟨rfl, h⟩; omega
          · exact hym s h hv.symm
        · rcases List.mem_cons.1 hq with rfl | hq
          · have : ¬ q.cost < y.cost := fun h => hz ⟨hqv, h⟩; omega
          · exact hym q hq (hqv.trans hv.symm)
    · rcases List.mem_cons.1 h with rfl | h
      · refine ⟨s, by simp, rfl, Int.le_refl _, fun q hq hqv => ?_⟩
        rcases List.mem_cons.1 hq with rfl | hq
        · omega
        · exact absurd ⟨q, hq, hqv⟩ hm
      · exact absurd ⟨s, h, rfl⟩ hm
theorem least_add {l b : List Rd} (h : Least l b) (r : Rd) : Least (l ++ [r]) (addL b r) := by
  refine ⟨rising_addL r b h.1, fun x => ?_⟩
  rw [mem_addL r b h.1 x]
  simp only [List.mem_append, List.mem_singleton]
  constructor
  · rintro (⟨h1, h2⟩ | ⟨rfl, h2⟩)
    · obtain ⟨a1, a2⟩ := (h.2 x).1 h1
      refine ⟨.inl a1, fun s hs hv => ?_⟩
      rcases hs with hs | rfl
      · exact a2 s hs hv
      · exact h2 hv.symm
    · refine ⟨.inr rfl, fun s hs hv => ?_⟩
      rcases hs with hs | rfl
      · -- some least one of that value stands there
        obtain ⟨y, hy, hyv, hyc⟩ : ∃ y ∈ b, y.v = s.v ∧ y.cost ≤ s.cost := by
          have := least_there (l := l) (s := s) hs
          obtain ⟨y, hy, hyv, hyc, hym⟩ := this
          exact ⟨y, (h.2 y).2 ⟨hy, fun t ht htv => hym t ht (htv.trans hyv)⟩, hyv, hyc⟩
        have := h2 y hy (hyv.trans hv)
        omega
      · omega
  · rintro ⟨h1, h2⟩
    rcases h1 with h1 | rfl
    · exact .inl ⟨(h.2 x).2 ⟨h1, fun s hs hv => h2 s (.inl hs) hv⟩, fun hv => h2 r (.inr rfl) hv.symm⟩
    · by_cases hy : ∃ y ∈ b, y.v = x.v ∧ y.cost ≤ x.cost
      · obtain ⟨y, hy, hyv, hyc⟩ := hy
        have := h2 y (.inl ((h.2 y).1 hy).1) hyv
        obtain rfl : y = x := Rd.ext' hyv (by omega)
        exact .inl ⟨hy, fun _ => Int.le_refl _⟩
      · refine .inr ⟨rfl, fun y hy' hv => ?_⟩
        by_cases hc : y.cost ≤ x.cost
        · exact absurd ⟨y, hy', hv, hc⟩ hy
        · omega
theorem least_byV (l : List Rd) : Least l (byV l) := by
  have key : ∀ (m p b : List Rd), Least p b → Least (p ++ m) (m.foldl addL b) := by
    intro m
    induction m with
    | nil => intro p b h; simpa using h
    | cons r m ih =>
      intro p b h
      have := ih (p ++ [r]) (addL b r) (least_add h r)
      simpa using this
  have := key l [] [] ⟨by simp [RisingV], fun r => by simp⟩
  rw [List.nil_append] at this
  exact this
theorem mem_insC (r x : Rd) : ∀ l : List Rd, x ∈ insC l r ↔ x = r ∨ x ∈ l
  | [] => by simp [insC]
  | z :: l => by
    unfold insC
    split
    · simp
    · simp only [List.mem_cons, mem_insC r x l]
      constructor <;> rintro (h | h | h) <;> simp [h]
theorem cmpCV_lt {x y : Rd} (h : x.cost < y.cost ∨ x.cost = y.cost ∧ cmpV x.v y.v < 0) : cmpCV x y < 0 := by
  unfold cmpCV lexC
  rcases h with h | ⟨h, k⟩
  · have := ord_lt h
    rw [if_neg (by dsimp only; omega)]
    dsimp only
    omega
  · rw [if_pos (by dsimp only; rw [h]; exact ord_self _)]
    exact k
theorem cmpCV_cost {x y : Rd} (h : cmpCV x y < 0) : x.cost ≤ y.cost := by
  unfold cmpCV lexC at h
  split at h
  · rename_i e; have := ord_eq e; omega
  · exact ord_le.1 (by dsimp only at *; omega)
theorem rising_insC (r : Rd) : ∀ l : List Rd, Rising l → (∀ x ∈ l, cmpV x.v r.v < 0) → Rising (insC l r)
  | [], _, _ => by simp [insC, Rising]
  | z :: l, h, hv => by
    obtain ⟨hz, hl⟩ := List.pairwise_cons.1 h
    unfold insC
    by_cases e : r.cost < z.cost
    · rw [if_pos e]
      refine List.pairwise_cons.2 ⟨fun y hy => ?_, h⟩
      rcases List.mem_cons.1 hy with rfl | hy
      · exact cmpCV_lt (.inl e)
      · exact cmpCV_lt (.inl (by have := cmpCV_cost (hz y hy); omega))
    · rw [if_neg e]
      refine List.pairwise_cons.2 ⟨fun y hy => ?_, rising_insC r l hl fun x hx => hv x (by simp [hx])⟩
      rcases (mem_insC r y l).1 hy with rfl | hy
      · have := hv z (by simp)
        by_cases e2 : z.cost < y.cost
        · exact cmpCV_lt (.inl e2)
        · exact cmpCV_lt (.inr ⟨by omega, this⟩)
      · exact hz y hy
theorem isBest_bestR (l : List Rd) : IsBest l (bestR l) := by
  have key : ∀ (m o : List Rd), RisingV m → Rising o → (∀ x ∈ o, ∀ y ∈ m, cmpV x.v y.v < 0) → Rising (m.foldl insC o) ∧ ∀ r, r ∈ m.foldl insC o ↔ r ∈ o ∨ r ∈ m := by
    intro m
    induction m with
    | nil => intro o _ h _; exact ⟨h, fun r => by simp⟩
    | cons z m ih =>
      intro o hm ho hx
      obtain ⟨hz, hm'⟩ := List.pairwise_cons.1 hm
      obtain ⟨a, b⟩ := ih (insC o z) hm' (rising_insC z o ho fun x h => hx x h z (by simp)) (fun x h y hy => by
        rcases (mem_insC z x o).1 h with rfl | h
        · exact hz y hy
        · exact hx x h y (by simp [hy]))
      refine ⟨a, fun r => ?_⟩
      rw [List.foldl_cons, b, mem_insC]
      simp only [List.mem_cons]
      constructor
      · rintro ((h | h) | h) <;> simp [h]
      · rintro (h | h | h) <;> simp [h]
  obtain ⟨h1, h2⟩ := least_byV l
  obtain ⟨a, b⟩ := key (byV l) [] h1 (by simp [Rising]) (by simp)
  refine ⟨a, fun r => ?_⟩
  unfold bestR
  rw [b, h2]
  simp
theorem IsBest.eq {l o : List Rd} (h : IsBest l o) : o = bestR l := h.unique (isBest_bestR l)
end Go.Proofs.YtjocpbcmehicmaaDoor
