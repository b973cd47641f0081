/- A region that draws its order, whose operations but the last ones only make memory: told by what each operation's value is, in whatever world; one case an operation, none an order. -/
import Derived.StillTail
import Derived.RegionTactic
namespace Go.Proofs.YtengcdodoblabaaGreatDoor

section
variable {P : Program} {ops : Array Oper}
def cntF (listed : Array Bool) : Nat → Nat
  | 0 => 0
  | n + 1 => cntF listed n + if listed.getD n true = true then 0 else 1
theorem cnt_out {listed : Array Bool} {i : Nat} : ∀ n, n ≤ i → cntF (listed.setIfInBounds i true) n = cntF listed n
  | 0, _ => rfl
  | n + 1, h => by
    unfold cntF
    rw [cnt_out n (by omega), getD_set_ne true (show i ≠ n by omega)]
theorem cnt_set {listed : Array Bool} {i : Nat} (hi : listed.getD i true = false) : ∀ n, i < n → cntF (listed.setIfInBounds i true) n + 1 = cntF listed n
  | 0, h => absurd h (by omega)
  | n + 1, h => by
    unfold cntF
    by_cases e : i = n
    · subst e
      rw [cnt_out i (Nat.le_refl _), hi]
      have hlt : i < listed.size := by
        rcases Nat.lt_or_ge i listed.size with h' | h'
        · exact h'
        · simp [Array.getElem?_eq_none h'] at hi
      simp [hlt]
    · rw [getD_set_ne true e]
      have := cnt_set hi n (by omega)
      omega
theorem cnt_zero {listed : Array Bool} : ∀ n, cntF listed n = 0 → ∀ j, j < n → listed.getD j true = true
  | 0, _, j, h => absurd h (by omega)
  | n + 1, h, j, hj => by
    unfold cntF at h
    by_cases e : j = n
    · subst e
      by_cases hq : listed.getD j true = true
      · exact hq
      · rw [if_neg hq] at h; omega
    · exact cnt_zero n (by omega) j (by omega)
theorem cnt_least {listed : Array Bool} : ∀ n, cntF listed n ≠ 0 → ∃ m, m < n ∧ listed.getD m true = false ∧ ∀ j, j < m → listed.getD j true = true
  | 0, h => absurd rfl h
  | n + 1, h => by
    by_cases h0 : cntF listed n = 0
    · unfold cntF at h
      rw [h0] at h
      refine ⟨n, by omega, ?_, cnt_zero n h0⟩
      by_cases hq : listed.getD n true = true
      · rw [if_pos hq] at h; omega
      · simpa using hq
    · obtain ⟨m, h1, h2, h3⟩ := cnt_least n h0
      exact ⟨m, by omega, h2, h3⟩
theorem getD_true {listed : Array Bool} {j : Nat} (hj : j < listed.size) (h : listed.getD j true = true) : listed.getD j false = true := by
  simp [hj] at h ⊢; exact h

/-- Each operation waits for earlier ones alone. -/
def fwdB (ops : Array Oper) : Bool :=
  (List.range ops.size).all fun j => match ops[j]? with
    | some o => o.after.all fun e => !Region.binds .any e || decide (e.on < j)
    | none => true
theorem fwd_spec (h : fwdB ops = true) {j : Nat} {o : Oper} (ho : ops[j]? = some o) : ∀ e ∈ o.after, Region.binds .any e = true → e.on < j := by
  intro e he hb
  have hj : j < ops.size := (Array.getElem?_eq_some_iff.1 ho).1
  have h1 := List.all_eq_true.1 h j (List.mem_range.2 hj)
  simp only [ho] at h1
  have h2 := Array.all_eq_true'.1 h1 e he
  simpa [hb] using h2
/-- The region's first n operations in whatever order; the store (n) behind all of them but some that float (E); behind it the others, one behind the other. -/
def headB (ops : Array Oper) (n : Nat) (E : Nat → Bool) : Bool :=
  decide (n < ops.size) && fwdB ops && ((List.range n).all fun i => E i || Region.waitsFor .any ops n i) && ((List.range ops.size).all fun t => decide (t ≤ n) || (List.range t).all fun i => Region.waitsFor .any ops t i) &&
    Region.seqB .any ops (ops.size - (n + 1)) (n + 1) (List.replicate (n + 1) true ++ List.replicate (ops.size - (n + 1)) false).toArray

theorem listed_eq {n : Nat} {listed : Array Bool} (hn : n < ops.size) (hs : listed.size = ops.size) (ht : ∀ t, n < t → t < ops.size → listed.getD t true = false) (h : ∀ j, j < n + 1 → listed.getD j true = true) : listed = (List.replicate (n + 1) true ++ List.replicate (ops.size - (n + 1)) false).toArray := by
  apply Array.ext
  · simp [hs]; omega
  · intro j h1 h2
    by_cases hj : j < n + 1
    · have := h j hj
      simp [h1] at this
      simp [this, hj]
    · have := ht j (by omega) (by rw [← hs]; exact h1)
      simp [h1] at this
      simp [this, List.getElem_append, hj]
theorem waits_on {t i : Nat} (h : Region.waitsFor .any ops t i = true) {listed : Array Bool} (hr : t ∈ Region.ready .any ops listed) : listed.getD i false = true := by
  obtain ⟨oj, hoj, e, he, hb, hon⟩ := Region.waitsFor_spec h
  obtain ⟨_, o, ho, hall⟩ := mem_ready.1 hr
  obtain rfl : oj = o := Option.some.inj (hoj.symm.trans ho)
  rw [← hon]
  exact hall e he hb
theorem getD_up {listed : Array Bool} {j : Nat} (h : listed.getD j false = true) : listed.getD j true = true := by
  rcases Nat.lt_or_ge j listed.size with h' | h'
  · simp [h'] at h ⊢; exact h
  · simp [Array.getElem?_eq_none h']

def upd (us : Nat → Value) (i : Nat) (v : Value) : Nat → Value := fun j => if j = i then v else us j

theorem wpAny_rel {l : List Oper} {n : Nat} {E : Nat → Bool} {Q : Exit → Act → World → Prop} (hB : headB l.toArray n E = true)
    (F : (Nat → Value) → Act) (Pp : Nat → Value → World → Prop) (Wk : Nat → Value → Prop) (C : World → Prop) (G : World → World → Prop) (Fn : (Nat → Value) → World → Prop)
    (hst : ∀ j v w w', G w w' → Pp j v w → Pp j v w') (hwk : ∀ j v w, Pp j v w → Wk j v) (hFn : ∀ us w i v, E i = true → Fn us w → Fn (upd us i v) w)
    (hstep : ∀ i, i < n → ∀ us w, C w → (∀ o, l[i]? = some o → ∀ e ∈ o.after, Region.binds .any e = true → Pp e.on (us e.on) w) → wpOp P l.toArray Q i (fun a' w' => ∃ v, a' = F (upd us i v) ∧ Pp i v w' ∧ G w w' ∧ C w') (F us) w)
    (hstore : ∀ us w, C w → (∀ i, i < n → E i = false → Pp i (us i) w) → wpOp P l.toArray Q n (fun a' w' => a' = F us ∧ Fn us w') (F us) w)
    (hfloat : ∀ i, i < n → E i = true → ∀ us w, (∀ o, l[i]? = some o → ∀ e ∈ o.after, Region.binds .any e = true → Wk e.on (us e.on)) → wpOp P l.toArray Q i (fun a' w' => ∃ v, a' = F (upd us i v) ∧ Wk i v ∧ w' = w) (F us) w)
    (hend : ∀ us w, Fn us w → (∀ i, i < n → Wk i (us i)) → wpList P l.toArray Q (l.drop (n + 1)) (F us) w) :
    ∀ f listed us w, listed.size = l.toArray.size → (∀ t, n < t → t < l.toArray.size → listed.getD t true = false) → cntF listed (n + 1) = f →
      (listed.getD n false = false ∧ C w ∧ (∀ j, j < n → listed.getD j false = true → Pp j (us j) w) ∨ listed.getD n false = true ∧ Fn us w ∧ (∀ j, j < n → E j = false → listed.getD j false = true) ∧ (∀ j, j < n → listed.getD j false = true → Wk j (us j))) →
      wpAny P .any l.toArray Q (f + (l.toArray.size - (n + 1))) listed (F us) w := by
  simp only [headB, Bool.and_eq_true, decide_eq_true_eq] at hB
  obtain ⟨⟨⟨⟨hn, hf⟩, hs⟩, hc⟩, hseq⟩ := hB
  have hdl : (l.drop (n + 1)).length = l.toArray.size - (n + 1) := by simp
  intro f
  induction f with
  | zero =>
    intro listed us w hsz htl h0 hI
    have hall := cnt_zero (n + 1) h0
    have he := listed_eq hn hsz htl hall
    have hnn : listed.getD n false = true := getD_true (by rw [hsz]; exact hn) (hall n (by omega))
    rcases hI with ⟨h, _⟩ | ⟨_, hF, _, hW⟩
    · rw [hnn] at h; cases h
    · rw [Nat.zero_add, ← hdl]
      exact wpAny_of_seq (l.drop (n + 1)) (n + 1) listed (F us) w (fun j => by simp [List.getElem?_drop]) (by rw [hdl, he]; exact hseq) (hend us w hF fun i hi => hW i hi (getD_true (by rw [hsz]; omega) (hall i (by omega))))
  | succ f ih =>
    intro listed us w hsz htl hcnt hI
    obtain ⟨m, hm, hm1, hm2⟩ := cnt_least (n + 1) (by omega : cntF listed (n + 1) ≠ 0)
    have hmr : m ∈ Region.ready .any l.toArray listed := by
      refine mem_ready.2 ⟨hm1, l.toArray[m]'(by omega), Array.getElem?_eq_getElem (by omega), fun e he hb => ?_⟩
      have := fwd_spec hf (Array.getElem?_eq_getElem (show m < l.toArray.size by omega)) e he hb
      exact getD_true (by rw [hsz]; omega) (hm2 _ this)
    rw [show f + 1 + (l.toArray.size - (n + 1)) = (f + (l.toArray.size - (n + 1))) + 1 by omega]
    refine ⟨fun h0 => (by rw [h0] at hmr; cases hmr), fun i hi => ?_⟩
    obtain ⟨hi1, oi, hoi, hdeps⟩ := mem_ready.1 hi
    have hil : i < l.toArray.size := (Array.getElem?_eq_some_iff.1 hoi).1
    have hin : i ≤ n := by
      rcases Nat.lt_or_ge n i with h | h
      · have h1 := List.all_eq_true.1 hc i (List.mem_range.2 hil)
        simp only [Bool.or_eq_true, decide_eq_true_eq] at h1
        rcases h1 with h1 | h1
        · omega
        · have h2 := getD_up (waits_on (List.all_eq_true.1 h1 m (List.mem_range.2 (by omega))) hi)
          rw [hm1] at h2; cases h2
      · exact h
    have hcs := cnt_set hi1 (n + 1) (by omega)
    have hsz' : (listed.setIfInBounds i true).size = l.toArray.size := by simp [hsz]
    have htl' : ∀ t, n < t → t < l.toArray.size → (listed.setIfInBounds i true).getD t true = false := fun t h1 h2 => by rw [getD_set_ne true (by omega)]; exact htl t h1 h2
    have hself : (listed.setIfInBounds i true).getD i false = true := by simp [hsz]; simpa using hil
    have hoi' : ∀ o, l[i]? = some o → oi = o := fun o ho => by
      have : l.toArray[i]? = some o := by simpa using ho
      exact Option.some.inj (hoi.symm.trans this)
    rcases hI with ⟨hnn, hC, hP⟩ | ⟨hnn, hF, hE, hW⟩
    · by_cases e : i = n
      · subst e
        have hheads : ∀ j, j < i → E j = false → listed.getD j false = true := fun j hj hE => by
          have h1 := List.all_eq_true.1 hs j (List.mem_range.2 hj)
          rw [hE, Bool.false_or] at h1
          exact waits_on h1 hi
        refine wpOp_mono ?_ (hstore us w hC fun j hj hE => hP j hj (hheads j hj hE))
        rintro a' w' ⟨rfl, hF⟩
        refine ih _ us w' hsz' htl' (by omega) (.inr ⟨hself, hF, fun j hj hE => getD_set_true (hheads j hj hE), fun j hj hl => ?_⟩)
        rw [getD_set_ne false (by omega)] at hl
        exact hwk j _ w (hP j hj hl)
      · refine wpOp_mono ?_ (hstep i (by omega) us w hC fun o ho e he hb => ?_)
        · rintro a' w' ⟨v, rfl, hp, hg, hC'⟩
          refine ih _ _ _ hsz' htl' (by omega) (.inl ⟨by rw [getD_set_ne false e]; exact hnn, hC', fun j hj hl => ?_⟩)
          by_cases e2 : j = i
          · subst e2
            unfold upd
            rw [if_pos rfl]
            exact hp
          · unfold upd
            rw [if_neg e2]
            rw [getD_set_ne false (Ne.symm e2)] at hl
            exact hst j _ w w' hg (hP j hj hl)
        · obtain rfl := hoi' o ho
          have hlt := fwd_spec hf hoi e he hb
          exact hP _ (by omega) (hdeps e he hb)
    · have e : i ≠ n := fun e => by
        subst e
        have := getD_up hnn
        rw [hi1] at this; cases this
      have hEi : E i = true := by
        cases hq : E i with
        | true => rfl
        | false =>
          have := getD_up (hE i (by omega) hq)
          rw [hi1] at this; cases this
      refine wpOp_mono ?_ (hfloat i (by omega) hEi us w fun o ho e he hb => ?_)
      · rintro a' w' ⟨v, rfl, hp, rfl⟩
        refine ih _ _ _ hsz' htl' (by omega) (.inr ⟨by rw [getD_set_ne false e]; exact hnn, hFn _ _ _ _ hEi hF, fun j hj hE2 => getD_set_true (hE j hj hE2), fun j hj hl => ?_⟩)
        by_cases e2 : j = i
        · subst e2
          unfold upd
          rw [if_pos rfl]
          exact hp
        · unfold upd
          rw [if_neg e2]
          rw [getD_set_ne false (Ne.symm e2)] at hl
          exact hW j hj hl
      · obtain rfl := hoi' o ho
        have hlt := fwd_spec hf hoi e he hb
        exact hW _ (by omega) (hdeps e he hb)

theorem wp_region_rel {id : Nat} {l : List Oper} {n : Nat} {E : Nat → Bool} {Q : Exit → Act → World → Prop} {a : Act} {w : World} (hm : P.follows .mixedOrders = true) (hB : headB l.toArray n E = true)
    (F : (Nat → Value) → Act) (Pp : Nat → Value → World → Prop) (Wk : Nat → Value → Prop) (C : World → Prop) (G : World → World → Prop) (Fn : (Nat → Value) → World → Prop) (us : Nat → Value) (ha : a = F us) (hC : C w.drew)
    (hst : ∀ j v w w', G w w' → Pp j v w → Pp j v w') (hwk : ∀ j v w, Pp j v w → Wk j v) (hFn : ∀ us w i v, E i = true → Fn us w → Fn (upd us i v) w)
    (hstep : ∀ i, i < n → ∀ us w, C w → (∀ o, l[i]? = some o → ∀ e ∈ o.after, Region.binds .any e = true → Pp e.on (us e.on) w) → wpOp P l.toArray Q i (fun a' w' => ∃ v, a' = F (upd us i v) ∧ Pp i v w' ∧ G w w' ∧ C w') (F us) w)
    (hstore : ∀ us w, C w → (∀ i, i < n → E i = false → Pp i (us i) w) → wpOp P l.toArray Q n (fun a' w' => a' = F us ∧ Fn us w') (F us) w)
    (hfloat : ∀ i, i < n → E i = true → ∀ us w, (∀ o, l[i]? = some o → ∀ e ∈ o.after, Region.binds .any e = true → Wk e.on (us e.on)) → wpOp P l.toArray Q i (fun a' w' => ∃ v, a' = F (upd us i v) ∧ Wk i v ∧ w' = w) (F us) w)
    (hend : ∀ us w, Fn us w → (∀ i, i < n → Wk i (us i)) → wpList P l.toArray Q (l.drop (n + 1)) (F us) w) : (Code.region id l.toArray true).wp P Q a w := by
  subst ha
  have hn : n < l.toArray.size := by
    simp only [headB, Bool.and_eq_true, decide_eq_true_eq] at hB
    exact hB.1.1.1.1
  have hc0 : ∀ k, k ≤ l.toArray.size → cntF (Array.replicate l.toArray.size false) k = k := by
    intro k
    induction k with
    | zero => intro _; rfl
    | succ k ih =>
      intro hk
      unfold cntF
      rw [ih (by omega), getD_in (by simp at hk ⊢; omega) (getD_replicate_false _ _)]
      simp
  have H := wpAny_rel (P := P) (Q := Q) hB F Pp Wk C G Fn hst hwk hFn hstep hstore hfloat hend (n + 1) (Array.replicate l.toArray.size false) us w.drew (by simp) (fun t _ ht => getD_in (by simpa using ht) (getD_replicate_false _ _)) (hc0 (n + 1) (by omega)) (.inl ⟨getD_replicate_false _ _, hC, fun j _ hl => by rw [getD_replicate_false] at hl; cases hl⟩)
  rw [show n + 1 + (l.toArray.size - (n + 1)) = l.toArray.size by omega] at H
  exact wp_region_any hm H
end
end Go.Proofs.YtengcdodoblabaaGreatDoor
