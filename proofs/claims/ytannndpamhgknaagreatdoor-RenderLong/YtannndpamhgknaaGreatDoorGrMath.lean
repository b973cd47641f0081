/- What chapter 4 says of rules, in plain words: which rules are right, which symbols lead to which, what is reached, and which rules make a grammar. -/
import Derived.WalkKit
namespace Go.Proofs.YtannndpamhgknaaGreatDoor.Gr
/-- A rule, of numbers. -/
structure Rule where
  lhs : Int
  rhs : List Int
  op : Int
  p : List Int
  cost : Int

/-- A number within bounds. -/
def inB (n a b : Int) : Bool := decide (a ≤ n ∧ n ≤ b)
theorem inB_iff {n a b : Int} : inB n a b = true ↔ a ≤ n ∧ n ≤ b := by simp [inB]
theorem inB_true {n a b : Int} (h : a ≤ n ∧ n ≤ b) : inB n a b = true := inB_iff.2 h
theorem inB_false {n a b : Int} (h : ¬ (a ≤ n ∧ n ≤ b)) : inB n a b = false := by
  cases e : inB n a b with
  | false => rfl
  | true => exact absurd (inB_iff.1 e) h
def isPart (n : Int) : Bool := inB n (-61) 19
def isSym (n : Int) : Bool := inB n 0 19
def lows : List Int := [1, 3, 2, 2, 2, 2, 3, 1, 1, 2, 1, 1, 2, 2, 2, 2]
def highs : List Int := [1, 3, 2, 3, 3, 2, 3, 1, 1, 2, 6, 1, 2, 2, 2, 2]
def asked (op n : Int) : Bool := inB n (lows.getD op.toNat 0) (highs.getD op.toNat 0)
def isPlace (m : Nat) (n : Int) : Bool := inB n 0 ((m : Int) - 1)
def rhsOk (r : Rule) : Bool := inB r.rhs.length 1 6 && r.rhs.all isPart
def actOk (r : Rule) : Bool := inB r.op 0 15 && (asked r.op r.p.length && r.p.all (isPlace r.rhs.length))
def right (r : Rule) : Bool := ((isSym r.lhs && rhsOk r) && inB r.cost 0 100) && actOk r

/-- A rule of no more than L on its right leads from i to j. -/
def edge (L : Nat) (rs : List Rule) (i j : Nat) : Bool := rs.any fun r => decide (r.lhs = i) && decide (r.rhs.length ≤ L) && r.rhs.contains (j : Int)

/-- From f one comes to j by steps of E, one or more. -/
def Reach (E : Nat → Nat → Bool) (f j : Nat) : Prop := ∀ S : Nat → Prop, (∀ y, E f y = true → S y) → (∀ x y, S x → E x y = true → S y) → S j

theorem Reach.step {E : Nat → Nat → Bool} {f y : Nat} (h : E f y = true) : Reach E f y := fun _ h0 _ => h0 y h
theorem Reach.snoc {E : Nat → Nat → Bool} {f x y : Nat} (h : Reach E f x) (k : E x y = true) : Reach E f y := fun S h0 h1 => h1 x y (h S h0 h1) k
theorem Reach.trans {E : Nat → Nat → Bool} {f x y : Nat} (h : Reach E f x) (k : Reach E x y) : Reach E f y :=
  k (fun z => Reach E f z) (fun _ e => h.snoc e) (fun _ _ h e => h.snoc e)
theorem Reach.mono {E E' : Nat → Nat → Bool} (hE : ∀ x y, E x y = true → E' x y = true) {f x : Nat} (h : Reach E f x) : Reach E' f x :=
  h (fun z => Reach E' f z) (fun _ e => .step (hE _ _ e)) (fun _ _ h e => h.snoc (hE _ _ e))
theorem Reach.out {E : Nat → Nat → Bool} {n : Nat} (hE : ∀ x y, E x y = true → x < n) {f x : Nat} (h : Reach E f x) : f < n :=
  h (fun _ => f < n) (fun _ e => hE _ _ e) (fun _ _ h _ => h)
theorem Reach.congr {E E' : Nat → Nat → Bool} (hE : ∀ x y, E x y = E' x y) {f x : Nat} : Reach E f x ↔ Reach E' f x :=
  ⟨Reach.mono (fun x y h => by rw [← hE]; exact h), Reach.mono (fun x y h => by rw [hE]; exact h)⟩

theorem right_lhs {r : Rule} (h : right r = true) : 0 ≤ r.lhs ∧ r.lhs ≤ 19 := by
  simp only [right, isSym, Bool.and_eq_true, inB_iff] at h; exact h.1.1.1
theorem right_rhs {r : Rule} (h : right r = true) : 1 ≤ r.rhs.length ∧ r.rhs.length ≤ 6 := by
  simp only [right, rhsOk, Bool.and_eq_true, inB_iff] at h; omega
theorem right_part {r : Rule} (h : right r = true) {x : Int} (hx : x ∈ r.rhs) : -61 ≤ x ∧ x ≤ 19 := by
  simp only [right, rhsOk, Bool.and_eq_true, List.all_eq_true] at h
  exact inB_iff.1 (h.1.1.2.2 x hx)

theorem edge_lt {L : Nat} {rs : List Rule} (h : rs.all right = true) (x y : Nat) (e : edge L rs x y = true) : x < 20 ∧ y < 20 := by
  simp only [edge, List.any_eq_true, Bool.and_eq_true, decide_eq_true_eq, List.contains_iff_mem] at e
  obtain ⟨r, hr, ⟨h1, _⟩, h3⟩ := e
  have hR := List.all_eq_true.1 h r hr
  have := right_lhs hR
  have := right_part hR h3
  omega

theorem edge_append (L : Nat) (rs qs : List Rule) (x y : Nat) : edge L (rs ++ qs) x y = (edge L rs x y || edge L qs x y) := by simp [edge]
/-- The symbols below 20 of which s holds, rising. -/
def symL (s : Nat → Bool) : List Int := ((List.range 20).filter s).map Int.ofNat

theorem symL_length (s : Nat → Bool) : (symL s).length ≤ 20 := by
  unfold symL
  rw [List.length_map]
  exact Nat.le_trans (List.length_filter_le _ _) (by simp)
theorem mem_symL {s : Nat → Bool} {x : Int} : x ∈ symL s ↔ ∃ k : Nat, k < 20 ∧ s k = true ∧ x = k := by
  unfold symL
  simp only [List.mem_map, List.mem_filter, List.mem_range]
  constructor
  · rintro ⟨k, ⟨h1, h2⟩, rfl⟩; exact ⟨k, h1, h2, rfl⟩
  · rintro ⟨k, h1, h2, rfl⟩; exact ⟨k, ⟨h1, h2⟩, rfl⟩
theorem symL_sorted (s : Nat → Bool) : (symL s).Pairwise (· < ·) := by
  unfold symL
  rw [List.pairwise_map]
  have h : (List.range 20).Pairwise (· < ·) := List.pairwise_lt_range
  exact (h.filter _).imp (fun h => by simpa using h)
theorem symL_congr {s t : Nat → Bool} (h : ∀ k, k < 20 → s k = t k) : symL s = symL t := by
  unfold symL
  rw [List.filter_congr (fun k hk => h k (by simpa using hk))]
/-- Rising lists of the same numbers are one. -/
theorem sorted_ext : ∀ {l m : List Int}, l.Pairwise (· < ·) → m.Pairwise (· < ·) → (∀ x, x ∈ l ↔ x ∈ m) → l = m
  | [], [], _, _, _ => rfl
  | [], b :: m, _, _, h => by have := (h b).2 (by simp); simp at this
  | a :: l, [], _, _, h => by have := (h a).1 (by simp); simp at this
  | a :: l, b :: m, hl, hm, h => by
    rw [List.pairwise_cons] at hl hm
    have hab : a = b := by
      rcases List.mem_cons.1 ((h a).1 (by simp)) with e | e
      · exact e
      · rcases List.mem_cons.1 ((h b).2 (by simp)) with e' | e'
        · exact e'.symm
        · have := hm.1 a e; have := hl.1 b e'; omega
    subst hab
    rw [sorted_ext hl.2 hm.2 (fun x => by
      constructor
      · intro hx
        rcases List.mem_cons.1 ((h x).1 (List.mem_cons_of_mem _ hx)) with e | e
        · have := hl.1 x hx; omega
        · exact e
      · intro hx
        rcases List.mem_cons.1 ((h x).2 (List.mem_cons_of_mem _ hx)) with e | e
        · have := hm.1 x hx; omega
        · exact e)]

def unitsL (rs : List Rule) (i : Nat) : List Int := symL (edge 1 rs i)
/-! The closure, in place. -/
def wstep (T : Nat → Nat → Bool) (k i j : Nat) : Bool := T i j || (T i k && T k j)
def war (E : Nat → Nat → Bool) : Nat → Nat → Nat → Bool
  | 0 => E
  | k + 1 => wstep (war E k) k
theorem wstep_col (T : Nat → Nat → Bool) (k i : Nat) : wstep T k i k = T i k := by unfold wstep; cases T i k <;> simp
theorem wstep_row (T : Nat → Nat → Bool) (k j : Nat) : wstep T k k j = T k j := by unfold wstep; cases T k j <;> simp
theorem wstep_iff {T : Nat → Nat → Bool} {k i j : Nat} : wstep T k i j = true ↔ T i j = true ∨ (T i k = true ∧ T k j = true) := by simp [wstep]
theorem war_mono (E : Nat → Nat → Bool) (i j : Nat) (h : E i j = true) : ∀ n, war E n i j = true
  | 0 => h
  | n + 1 => wstep_iff.2 (.inl (war_mono E i j h n))
theorem war_sound (E : Nat → Nat → Bool) : ∀ n i j, war E n i j = true → Reach E i j
  | 0, _, _, h => .step h
  | n + 1, i, j, h => by
    rcases wstep_iff.1 h with h | ⟨h1, h2⟩
    · exact war_sound E n i j h
    · exact (war_sound E n i n h1).trans (war_sound E n n j h2)
theorem war_closed (E : Nat → Nat → Bool) : ∀ n m i j, m < n → war E n i m = true → war E n m j = true → war E n i j = true
  | 0, m, _, _, h, _, _ => absurd h (Nat.not_lt_zero _)
  | n + 1, m, i, j, hm, h1, h2 => by
    have ih := war_closed E n
    by_cases e : m = n
    · subst e
      rw [show war E (m + 1) = wstep (war E m) m from rfl] at *
      rw [wstep_col] at h1
      rw [wstep_row] at h2
      exact wstep_iff.2 (.inr ⟨h1, h2⟩)
    · have hm2 : m < n := by omega
      rcases wstep_iff.1 h1 with a | ⟨a, b⟩ <;> rcases wstep_iff.1 h2 with c | ⟨c, d⟩
      · exact wstep_iff.2 (.inl (ih m i j hm2 a c))
      · exact wstep_iff.2 (.inr ⟨ih m i n hm2 a c, d⟩)
      · exact wstep_iff.2 (.inr ⟨a, ih m n j hm2 b c⟩)
      · exact wstep_iff.2 (.inr ⟨a, d⟩)
theorem war_iff {E : Nat → Nat → Bool} {N : Nat} (hE : ∀ x y, E x y = true → x < N) (i j : Nat) : war E N i j = true ↔ Reach E i j := by
  refine ⟨war_sound E N i j, fun h => ?_⟩
  refine h (fun y => war E N i y = true) (fun y e => war_mono E i y e N) (fun x y hx e => ?_)
  exact war_closed E N x i y (hE x y e) hx (war_mono E x y e N)
/-- No symbol comes by units to itself. -/
def noRound (rs : List Rule) : Prop := ∀ i, ¬ Reach (edge 1 rs) i i
def check (rs : List Rule) : Bool := decide (rs.length ≤ 60) && (rs.all right && (List.range 20).all fun i => !war (edge 1 rs) 20 i i)

theorem noRound_war {rs : List Rule} (h : rs.all right = true) : noRound rs ↔ ∀ i, i < 20 → war (edge 1 rs) 20 i i = false := by
  have hw := fun i j => war_iff (E := edge 1 rs) (N := 20) (fun x y e => (edge_lt h x y e).1) i j
  constructor
  · intro hn i _
    cases e : war (edge 1 rs) 20 i i with
    | false => rfl
    | true => exact absurd ((hw i i).1 e) (hn i)
  · intro hf i hr
    have h1 := hr.out (n := 20) (fun x y e => (edge_lt h x y e).1)
    have := hf i h1
    rw [(hw i i).2 hr] at this
    cases this

theorem check_eq (rs : List Rule) : check rs = (decide (rs.length ≤ 60) && (rs.all right && @decide (noRound rs) (Classical.propDecidable _))) := by
  unfold check
  cases hr : rs.all right with
  | false => simp
  | true =>
    congr 2
    rw [Bool.eq_iff_iff, List.all_eq_true, @decide_eq_true_eq _ (Classical.propDecidable _), noRound_war hr]
    simp

end Go.Proofs.YtannndpamhgknaaGreatDoor.Gr
