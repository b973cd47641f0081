/- Which readings are the best, and in what order: no program is spoken of. -/
import Derived.Test.YtjocpbcmehicmaaDoorBase
namespace Go.Proofs.YtjocpbcmehicmaaDoor

/-- An order told by a number. -/
structure TO {α : Type} (c : α → α → Int) : Prop where
  turn : ∀ x y, c y x = 0 - c x y
  trans : ∀ x y z, c x y ≤ 0 → c y z ≤ 0 → c x z ≤ 0
theorem TO.self {α : Type} {c : α → α → Int} (h : TO c) (x : α) : c x x = 0 := by have := h.turn x x; omega
theorem TO.flip {α : Type} {c : α → α → Int} (h : TO c) {x y : α} : c x y ≤ 0 ↔ 0 ≤ c y x := by have := h.turn x y; omega
theorem TO.eq0 {α : Type} {c : α → α → Int} (h : TO c) {x y : α} (e : c x y = 0) : c y x = 0 := by have := h.turn x y; omega
theorem TO.pull {α β : Type} {c : α → α → Int} (h : TO c) (f : β → α) : TO (fun x y => c (f x) (f y)) := ⟨fun _ _ => h.turn _ _, fun _ _ _ => h.trans _ _ _⟩
theorem TO.lt_of {α : Type} {c : α → α → Int} (h : TO c) {x y z : α} (h1 : c x y < 0) (h2 : c y z ≤ 0) : c x z < 0 := by
  have a := h.trans x y z (by omega) h2
  by_cases e : c x z = 0
  · have := h.trans y z x h2 (by have := h.eq0 e; omega)
    have := h.turn x y
    omega
  · omega
theorem TO.lt_of' {α : Type} {c : α → α → Int} (h : TO c) {x y z : α} (h1 : c x y ≤ 0) (h2 : c y z < 0) : c x z < 0 := by
  have a := h.trans x y z h1 (by omega)
  by_cases e : c x z = 0
  · have := h.trans z x y (by have := h.eq0 e; omega) h1
    have := h.turn y z
    omega
  · omega
def lexC {α : Type} (c d : α → α → Int) (x y : α) : Int := if c x y = 0 then d x y else c x y
theorem TO.lex {α : Type} {c d : α → α → Int} (h : TO c) (k : TO d) : TO (lexC c d) := by
  constructor
  · intro x y
    unfold lexC
    have a := h.turn x y
    have b := k.turn x y
    by_cases e : c x y = 0
    · rw [if_pos e, if_pos (by omega)]; exact b
    · rw [if_neg e, if_neg (by omega)]; exact a
  · intro x y z
    unfold lexC
    by_cases e : c x y = 0 <;> by_cases f : c y z = 0
    · have g : c x z = 0 := by
        have a1 := h.trans x y z (by omega) (by omega)
        have a2 := h.trans z y x (by have := h.eq0 f; omega) (by have := h.eq0 e; omega)
        have := h.turn x z
        omega
      rw [if_pos e, if_pos f, if_pos g]; exact k.trans x y z
    · rw [if_pos e, if_neg f]
      intro _ h2
      have := h.lt_of' (x := x) (y := y) (z := z) (by omega) (by omega)
      rw [if_neg (by omega)]; omega
    · rw [if_neg e, if_pos f]
      intro h1 _
      have := h.lt_of (x := x) (y := y) (z := z) (by omega) (by omega)
      rw [if_neg (by omega)]; omega
    · rw [if_neg e, if_neg f]
      intro h1 h2
      have := h.lt_of (x := x) (y := y) (z := z) (by omega) (by omega)
      rw [if_neg (by omega)]; omega
theorem ord_cases (a b : Int) : (a < b ∧ ord a b = -1) ∨ (a = b ∧ ord a b = 0) ∨ (b < a ∧ ord a b = 1) := by
  unfold ord
  by_cases h1 : a < b
  · rw [if_pos h1]; exact .inl ⟨h1, rfl⟩
  · rw [if_neg h1]
    by_cases h2 : b < a
    · rw [if_pos h2]; exact .inr (.inr ⟨h2, rfl⟩)
    · rw [if_neg h2]; exact .inr (.inl ⟨by omega, rfl⟩)
theorem ord_le {a b : Int} : ord a b ≤ 0 ↔ a ≤ b := by rcases ord_cases a b with h | h | h <;> omega
theorem ord_lt0 {a b : Int} : ord a b < 0 ↔ a < b := by rcases ord_cases a b with h | h | h <;> omega
theorem ord_eq0 {a b : Int} : ord a b = 0 ↔ a = b := by rcases ord_cases a b with h | h | h <;> omega
theorem ordTO : TO ord := ⟨fun a b => ord_turn a b, fun a b c => by rw [ord_le, ord_le, ord_le]; omega⟩
theorem cmpL_turn : ∀ l k : List Int, cmpL k l = 0 - cmpL l k
  | [], [] => rfl
  | [], _ :: _ => rfl
  | _ :: _, [] => rfl
  | a :: l, b :: k => by
    unfold cmpL
    have h := ord_turn a b
    have := cmpL_turn l k
    by_cases e : ord a b = 0
    · rw [if_pos e, if_pos (by omega)]; exact this
    · rw [if_neg e, if_neg (by omega)]; exact h
theorem cmpL_trans : ∀ l k m : List Int, cmpL l k ≤ 0 → cmpL k m ≤ 0 → cmpL l m ≤ 0
  | [], _, [], _, _ => by unfold cmpL; omega
  | [], _, _ :: _, _, _ => by unfold cmpL; omega
  | _ :: _, [], _, h, _ => by unfold cmpL at h; omega
  | _ :: _, _ :: _, [], _, h => by unfold cmpL at h; omega
  | a :: l, b :: k, c :: m, h1, h2 => by
    unfold cmpL at *
    have h := cmpL_trans l k m
    rcases ord_cases a b with e | e | e <;> rcases ord_cases b c with f | f | f <;> rcases ord_cases a c with g | g | g <;> simp only [e.2, f.2, g.2] at * <;> first | omega | exact h h1 h2 | simp_all
theorem cmpLTO : TO cmpL := ⟨cmpL_turn, cmpL_trans⟩
theorem cmpV_lex : cmpV = lexC (fun x y : Val => ord x.kind y.kind) (lexC (fun x y => ord (x.f.length : Int) (y.f.length : Int)) (fun x y => cmpL x.f y.f)) := by
  funext x y; rfl
theorem cmpVTO : TO cmpV := by
  rw [cmpV_lex]
  exact (ordTO.pull (fun v : Val => v.kind)).lex ((ordTO.pull (fun v : Val => (v.f.length : Int))).lex (cmpLTO.pull (fun v : Val => v.f)))

/-- A reading. -/
structure Rd where
  v : Val
  cost : Int
/-- By value, then by cost. -/
def cmpVC : Rd → Rd → Int := lexC (fun x y => cmpV x.v y.v) (fun x y => ord x.cost y.cost)
/-- By cost, then by value. -/
def cmpCV : Rd → Rd → Int := lexC (fun x y => ord x.cost y.cost) (fun x y => cmpV x.v y.v)
theorem cmpVCTO : TO cmpVC := (cmpVTO.pull (fun x : Rd => x.v)).lex (ordTO.pull (fun x : Rd => x.cost))
theorem cmpCVTO : TO cmpCV := (ordTO.pull (fun x : Rd => x.cost)).lex (cmpVTO.pull (fun x : Rd => x.v))
theorem Rd.ext' {x y : Rd} (h : x.v = y.v) (k : x.cost = y.cost) : x = y := by cases x; cases y; simp at *; exact ⟨h, k⟩
theorem cmpCV_eq {x y : Rd} (h : cmpCV x y = 0) : x = y := by
  unfold cmpCV lexC at h
  split at h
  · rename_i e; exact Rd.ext' (cmpV_eq h) (ord_eq e)
  · rename_i e; exact absurd h e
theorem cmpVC_eq {x y : Rd} (h : cmpVC x y = 0) : x = y := by
  unfold cmpVC lexC at h
  split at h
  · rename_i e; exact Rd.ext' (cmpV_eq e) (ord_eq h)
  · rename_i e; exact absurd h e
theorem cmpVC_v {x y : Rd} (h : cmpVC x y ≤ 0) : cmpV x.v y.v ≤ 0 := by
  unfold cmpVC lexC at h
  split at h
  · rename_i e; dsimp only at e; omega
  · exact h
theorem cmpVC_c {x y : Rd} (h : cmpVC x y ≤ 0) (e : x.v = y.v) : x.cost ≤ y.cost := by
  unfold cmpVC lexC at h
  rw [if_pos (by dsimp only; rw [e]; exact cmpV_self _)] at h
  exact ord_le.1 h

/-- Strictly rising. -/
def Rising (l : List Rd) : Prop := l.Pairwise (fun x y => cmpCV x y < 0)
/-- Is out the best of l, all of them? -/
def IsBest (l out : List Rd) : Prop := Rising out ∧ ∀ r, r ∈ out ↔ r ∈ l ∧ ∀ s ∈ l, s.v = r.v → r.cost ≤ s.cost
theorem rising_unique : ∀ (a b : List Rd), Rising a → Rising b → (∀ r, r ∈ a ↔ r ∈ b) → a = b
  | [], [], _, _, _ => rfl
  | [], y :: _, _, _, h => by have := (h y).2 (by simp); simp at this
  | x :: _, [], _, _, h => by have := (h x).1 (by simp); simp at this
  | x :: a, y :: b, ha, hb, h => by
    obtain ⟨hx, ha'⟩ := List.pairwise_cons.1 ha
    obtain ⟨hy, hb'⟩ := List.pairwise_cons.1 hb
    have e : x = y := by
      have h1 := (h x).1 (by simp)
      have h2 := (h y).2 (by simp)
      rcases List.mem_cons.1 h1 with h1 | h1
      · exact h1
      · rcases List.mem_cons.1 h2 with h2 | h2
        · exact h2.symm
        · have a1 := hx y h2
          have a2 := hy x h1
          have := cmpCVTO.turn x y
          omega
    subst e
    congr 1
    refine rising_unique a b ha' hb' fun r => ⟨fun hr => ?_, fun hr => ?_⟩
    · rcases List.mem_cons.1 ((h r).1 (by simp [hr])) with e | e
      · subst e; have := hx r hr; rw [cmpCVTO.self] at this; omega
      · exact e
    · rcases List.mem_cons.1 ((h r).2 (by simp [hr])) with e | e
      · subst e; have := hy r hr; rw [cmpCVTO.self] at this; omega
      · exact e
theorem IsBest.unique {l a b : List Rd} (h : IsBest l a) (k : IsBest l b) : a = b := rising_unique a b h.1 k.1 fun r => (h.2 r).trans (k.2 r).symm
theorem IsBest.of_same {l m a : List Rd} (h : IsBest l a) (hm : ∀ r, r ∈ l ↔ r ∈ m) : IsBest m a := ⟨h.1, fun r => by rw [h.2]; simp only [hm]⟩

/-- Of each run of one value the first. -/
def keepFrom : Val → List Rd → List Rd
  | _, [] => []
  | p, y :: l => if cmpV y.v p = 0 then keepFrom p l else y :: keepFrom y.v l
def compL : List Rd → List Rd
  | [] => []
  | x :: l => x :: keepFrom x.v l
theorem keep_mem : ∀ (l : List Rd) (p : Val), l.Pairwise (fun x y => cmpVC x y ≤ 0) → (∀ s ∈ l, cmpV p s.v ≤ 0) → (∀ r, r ∈ keepFrom p l ↔ r ∈ l ∧ r.v ≠ p ∧ ∀ s ∈ l, s.v = r.v → r.cost ≤ s.cost) ∧ (keepFrom p l).Pairwise (fun x y => x.v ≠ y.v)
  | [], p, _, _ => ⟨fun r => by simp [keepFrom], by simp [keepFrom]⟩
  | y :: l, p, hs, hp => by
    obtain ⟨hy, hl⟩ := List.pairwise_cons.1 hs
    unfold keepFrom
    by_cases e : cmpV y.v p = 0
    · rw [if_pos e]
      have e2 := cmpV_eq e
      have IH := keep_mem l p hl fun s hm => hp s (by simp [hm])
      refine ⟨fun r => ?_, IH.2⟩
      rw [IH.1]
      constructor
      · rintro ⟨h1, h2, h3⟩
        refine ⟨by simp [h1], h2, fun s hm hv => ?_⟩
        rcases List.mem_cons.1 hm with rfl | hm
        · exact absurd (hv.symm.trans e2) h2
        · exact h3 s hm hv
      · rintro ⟨h1, h2, h3⟩
        rcases List.mem_cons.1 h1 with rfl | h1
        · exact absurd e2 h2
        · exact ⟨h1, h2, fun s hm hv => h3 s (by simp [hm]) hv⟩
    · rw [if_neg e]
      have IH := keep_mem l y.v hl fun s hm => cmpVC_v (hy s hm)
      have hne : y.v ≠ p := fun h => e (by rw [h]; exact cmpV_self p)
      refine ⟨fun r => ?_, ?_⟩
      · rw [List.mem_cons, IH.1]
        constructor
        · rintro (rfl | ⟨h1, h2, h3⟩)
          · refine ⟨by simp, hne, fun s hm hv => ?_⟩
            rcases List.mem_cons.1 hm with rfl | hm
            · omega
            · exact cmpVC_c (hy s hm) hv.symm
          · refine ⟨by simp [h1], fun h => ?_, fun s hm hv => ?_⟩
            · have a1 := hp y (by simp)
              have a2 := cmpVC_v (hy r h1)
              rw [h] at a2
              have := cmpVTO.turn p y.v
              exact e (by omega)
            · rcases List.mem_cons.1 hm with rfl | hm
              · exact absurd hv.symm h2
              · exact h3 s hm hv
        · rintro ⟨h1, h2, h3⟩
          rcases List.mem_cons.1 h1 with rfl | h1
          · exact .inl rfl
          · by_cases hv : r.v = y.v
            · have a1 := h3 y (by simp) hv.symm
              have a2 := cmpVC_c (hy r h1) hv.symm
              exact .inl (Rd.ext' hv (by omega))
            · exact .inr ⟨h1, hv, fun s hm hv => h3 s (by simp [hm]) hv⟩
      · refine List.pairwise_cons.2 ⟨fun r hr => ?_, IH.2⟩
        have := ((IH.1 r).1 hr).2.1
        exact fun h => this h.symm
theorem comp_mem (l : List Rd) (hs : l.Pairwise (fun x y => cmpVC x y ≤ 0)) : (∀ r, r ∈ compL l ↔ r ∈ l ∧ ∀ s ∈ l, s.v = r.v → r.cost ≤ s.cost) ∧ (compL l).Pairwise (fun x y => x.v ≠ y.v) := by
  cases l with
  | nil => exact ⟨fun r => by simp [compL], by simp [compL]⟩
  | cons x l =>
    obtain ⟨hx, hl⟩ := List.pairwise_cons.1 hs
    unfold compL
    have IH := keep_mem l x.v hl fun s hm => cmpVC_v (hx s hm)
    refine ⟨fun r => ?_, ?_⟩
    · rw [List.mem_cons, IH.1]
      constructor
      · rintro (rfl | ⟨h1, h2, h3⟩)
        · refine ⟨by simp, fun s hm hv => ?_⟩
          rcases List.mem_cons.1 hm with rfl | hm
          · omega
          · exact cmpVC_c (hx s hm) hv.symm
        · refine ⟨by simp [h1], fun s hm hv => ?_⟩
          rcases List.mem_cons.1 hm with rfl | hm
          · exact absurd hv.symm h2
          · exact h3 s hm hv
      · rintro ⟨h1, h3⟩
        rcases List.mem_cons.1 h1 with rfl | h1
        · exact .inl rfl
        · by_cases hv : r.v = x.v
          · have a1 := h3 x (by simp) hv.symm
            have a2 := cmpVC_c (hx r h1) hv.symm
            exact .inl (Rd.ext' hv (by omega))
          · exact .inr ⟨h1, hv, fun s hm hv => h3 s (by simp [hm]) hv⟩
    · refine List.pairwise_cons.2 ⟨fun r hr => ?_, IH.2⟩
      have := ((IH.1 r).1 hr).2.1
      exact fun h => this h.symm
/-- Sorted by value and cost, of each value the first, sorted by cost and value: the best. -/
theorem isBest_of (l d d2 : List Rd) (h1 : d.Perm l) (h2 : d.Pairwise (fun x y => cmpVC x y ≤ 0)) (h3 : d2.Perm (compL d)) (h4 : d2.Pairwise (fun x y => cmpCV x y ≤ 0)) : IsBest l d2 := by
  obtain ⟨hm, hp⟩ := comp_mem d h2
  have hp2 : d2.Pairwise (fun x y => x.v ≠ y.v) := (h3.pairwise_iff (fun h e => h e.symm)).2 hp
  refine ⟨?_, fun r => ?_⟩
  · refine (h4.and hp2).imp ?_
    rintro x y ⟨a, b⟩
    by_cases e : cmpCV x y = 0
    · exact absurd (congrArg Rd.v (cmpCV_eq e)) b
    · omega
  · rw [h3.mem_iff, hm, h1.mem_iff]
    simp only [h1.mem_iff]
end Go.Proofs.YtjocpbcmehicmaaDoor
