/- A region that draws its order, whose last operations stand behind all others: told by what each operation's value is; what a value is lasts until the one operation that reads it (D). One case an operation, none an order. -/
import Derived.StillTail
import Derived.RegionTactic
namespace Go.Proofs.YtjocpbcmehicmaaDoor

section
variable {P : Program} {ops : Array Oper}
def cntF (listed : Array Bool) : Nat → Nat
  | 0 => 0
  | n + 1 => cntF listed n + if listed.getD n true = true then 0 else 1
theorem cnt_out {listed : Array Bool} {i : Nat} : ∀ n, n ≤ i → cntF (listed.setIfInBounds i true) n = cntF listed n
  | 0, _ => rfl
  | n + 1, h => by
    unfold cntF
    rw [cnt_out n (by omega), getD_set_ne true (show i ≠ n by omega)]
theorem cnt_set {listed : Array Bool} {i : Nat} (hi : listed.getD i true = false) : ∀ n, i < n → cntF (listed.setIfInBounds i true) n + 1 = cntF listed n
  | 0, h => absurd h (by omega)
  | n + 1, h => by
    unfold cntF
    by_cases e : i = n
    · subst e
      rw [cnt_out i (Nat.le_refl _), hi]
      have hlt : i < listed.size := by
        rcases Nat.lt_or_ge i listed.size with h' | h'
        · exact h'
        · simp [Array.getElem?_eq_none h'] at hi
      simp [hlt]
    · rw [getD_set_ne true e]
      have := cnt_set hi n (by omega)
      omega
theorem cnt_zero {listed : Array Bool} : ∀ n, cntF listed n = 0 → ∀ j, j < n → listed.getD j true = true
  | 0, _, j, h => absurd h (by omega)
  | n + 1, h, j, hj => by
    unfold cntF at h
    by_cases e : j = n
    · subst e
      by_cases hq : listed.getD j true = true
      · exact hq
      · rw [if_neg hq] at h; omega
    · exact cnt_zero n (by omega) j (by omega)
theorem cnt_least {listed : Array Bool} : ∀ n, cntF listed n ≠ 0 → ∃ m, m < n ∧ listed.getD m true = false ∧ ∀ j, j < m → listed.getD j true = true
  | 0, h => absurd rfl h
  | n + 1, h => by
    by_cases h0 : cntF listed n = 0
    · unfold cntF at h
      rw [h0] at h
      refine ⟨n, by omega, ?_, cnt_zero n h0⟩
      by_cases hq : listed.getD n true = true
      · rw [if_pos hq] at h; omega
      · simpa using hq
    · obtain ⟨m, h1, h2, h3⟩ := cnt_least n h0
      exact ⟨m, by omega, h2, h3⟩
theorem getD_true {listed : Array Bool} {j : Nat} (hj : j < listed.size) (h : listed.getD j true = true) : listed.getD j false = true := by
  simp [hj] at h ⊢; exact h

/-- Each operation waits for earlier ones alone. -/
def fwdB (ops : Array Oper) : Bool :=
  (List.range ops.size).all fun j => match ops[j]? with
    | some o => o.after.all fun e => !Region.binds .any e || decide (e.on < j)
    | none => true
theorem fwd_spec (h : fwdB ops = true) {j : Nat} {o : Oper} (ho : ops[j]? = some o) : ∀ e ∈ o.after, Region.binds .any e = true → e.on < j := by
  intro e he hb
  have hj : j < ops.size := (Array.getElem?_eq_some_iff.1 ho).1
  have h1 := List.all_eq_true.1 h j (List.mem_range.2 hj)
  simp only [ho] at h1
  have h2 := Array.all_eq_true'.1 h1 e he
  simpa [hb] using h2
/-- Waits for it, or for one that waits for it. -/
def reachB (ops : Array Oper) (n : Nat) : Nat → Nat → Nat → Bool
  | 0, t, i => Region.waitsFor .any ops t i
  | f + 1, t, i => Region.waitsFor .any ops t i || (List.range n).any fun j => Region.waitsFor .any ops t j && reachB ops n f j i
theorem reach_on {n : Nat} {listed : Array Bool} (hcl : ∀ j, j < n → listed.getD j false = true → ∀ i, Region.waitsFor .any ops j i = true → listed.getD i false = true) :
    ∀ f t, (∀ i, Region.waitsFor .any ops t i = true → listed.getD i false = true) → ∀ i, reachB ops n f t i = true → listed.getD i false = true
  | 0, _, ht, i, h => ht i h
  | f + 1, t, ht, i, h => by
    unfold reachB at h
    rw [Bool.or_eq_true] at h
    rcases h with h | h
    · exact ht i h
    · obtain ⟨j, hj, h⟩ := List.any_eq_true.1 h
      rw [Bool.and_eq_true] at h
      exact reach_on hcl f j (fun x hx => hcl j (List.mem_range.1 hj) (ht j h.1) x hx) i h.2
/-- The region's first n operations in whatever order, the others one behind the other; each value is read by one operation alone (D). -/
def headD (ops : Array Oper) (n : Nat) (D : Nat → Nat) : Bool :=
  decide (n ≤ ops.size) && fwdB ops && ((List.range ops.size).all fun t => decide (t < n) || (List.range t).all fun i => reachB ops n 4 t i) &&
    ((List.range n).all fun i => match ops[i]? with
      | some o => o.after.all fun e => !Region.binds .any e || decide (D e.on = i)
      | none => true) &&
    Region.seqB .any ops (ops.size - n) n (List.replicate n true ++ List.replicate (ops.size - n) false).toArray
theorem headD_dead {n : Nat} {D : Nat → Nat} (h : ((List.range n).all fun i => match ops[i]? with
      | some o => o.after.all fun e => !Region.binds .any e || decide (D e.on = i)
      | none => true) = true) {i : Nat} (hi : i < n) {o : Oper} (ho : ops[i]? = some o) : ∀ e ∈ o.after, Region.binds .any e = true → D e.on = i := by
  intro e he hb
  have h1 := List.all_eq_true.1 h i (List.mem_range.2 hi)
  simp only [ho] at h1
  have h2 := Array.all_eq_true'.1 h1 e he
  simpa [hb] using h2
theorem listed_eq {n : Nat} {listed : Array Bool} (hn : n ≤ ops.size) (hs : listed.size = ops.size) (ht : ∀ t, n ≤ t → t < ops.size → listed.getD t true = false) (h : ∀ j, j < n → listed.getD j true = true) : listed = (List.replicate n true ++ List.replicate (ops.size - n) false).toArray := by
  apply Array.ext
  · simp [hs]; omega
  · intro j h1 h2
    by_cases hj : j < n
    · have := h j hj
      simp [h1] at this
      simp [this, hj]
    · have := ht j (by omega) (by rw [← hs]; exact h1)
      simp [h1] at this
      simp [this, List.getElem_append, hj]
theorem waits_on {t i : Nat} (h : Region.waitsFor .any ops t i = true) {listed : Array Bool} (hr : t ∈ Region.ready .any ops listed) : listed.getD i false = true := by
  obtain ⟨oj, hoj, e, he, hb, hon⟩ := Region.waitsFor_spec h
  obtain ⟨_, o, ho, hall⟩ := mem_ready.1 hr
  obtain rfl : oj = o := Option.some.inj (hoj.symm.trans ho)
  rw [← hon]
  exact hall e he hb
theorem getD_up {listed : Array Bool} {j : Nat} (h : listed.getD j false = true) : listed.getD j true = true := by
  rcases Nat.lt_or_ge j listed.size with h' | h'
  · simp [h'] at h ⊢; exact h
  · simp [Array.getElem?_eq_none h']

def upd (us : Nat → Value) (i : Nat) (v : Value) : Nat → Value := fun j => if j = i then v else us j

theorem wpAny_head {l : List Oper} {n : Nat} {D : Nat → Nat} {Q : Exit → Act → World → Prop} (hB : headD l.toArray n D = true)
    (F : (Nat → Value) → Act) (Pp : Nat → Value → World → Prop) (C : World → Prop)
    (hstep : ∀ i, i < n → ∀ us w, C w → (∀ o, l[i]? = some o → ∀ e ∈ o.after, Region.binds .any e = true → Pp e.on (us e.on) w) → wpOp P l.toArray Q i (fun a' w' => ∃ v, a' = F (upd us i v) ∧ Pp i v w' ∧ C w' ∧ ∀ j u, j ≠ i → D j ≠ i → Region.waitsFor .any l.toArray j i = false → Region.waitsFor .any l.toArray i (D j) = false → Pp j u w → Pp j u w') (F us) w)
    (hend : ∀ us w, C w → (∀ j, j < n → n ≤ D j → Pp j (us j) w) → wpList P l.toArray Q (l.drop n) (F us) w) :
    ∀ f listed us w, listed.size = l.toArray.size → (∀ t, n ≤ t → t < l.toArray.size → listed.getD t true = false) → cntF listed n = f → C w →
      (∀ j, j < n → listed.getD j false = true → ∀ i, Region.waitsFor .any l.toArray j i = true → listed.getD i false = true) →
      (∀ j, j < n → listed.getD j false = true → listed.getD (D j) false = false → Pp j (us j) w) →
      wpAny P .any l.toArray Q (f + (l.toArray.size - n)) listed (F us) w := by
  simp only [headD, Bool.and_eq_true, decide_eq_true_eq] at hB
  obtain ⟨⟨⟨⟨hn, hf⟩, hc⟩, hD⟩, hseq⟩ := hB
  have hdl : (l.drop n).length = l.toArray.size - n := by simp
  intro f
  induction f with
  | zero =>
    intro listed us w hsz htl h0 hC hcl hP
    have hall := cnt_zero n h0
    have he := listed_eq hn hsz htl hall
    rw [Nat.zero_add, ← hdl]
    refine wpAny_of_seq (l.drop n) n listed (F us) w (fun j => by simp [List.getElem?_drop]) (by rw [hdl, he]; exact hseq) (hend us w hC fun j hj hDj => hP j hj (getD_true (by rw [hsz]; omega) (hall j hj)) ?_)
    rcases Nat.lt_or_ge (D j) l.toArray.size with h | h
    · have := htl (D j) hDj h
      have h2 : D j < listed.size := by rw [hsz]; exact h
      simp [h2] at this ⊢
      exact this
    · have h2 : listed.size ≤ D j := by rw [hsz]; exact h
      simp [Array.getElem?_eq_none h2]
  | succ f ih =>
    intro listed us w hsz htl hcnt hC hcl hP
    obtain ⟨m, hm, hm1, hm2⟩ := cnt_least n (by omega : cntF listed n ≠ 0)
    have hmr : m ∈ Region.ready .any l.toArray listed := by
      refine mem_ready.2 ⟨hm1, l.toArray[m]'(by omega), Array.getElem?_eq_getElem (by omega), fun e he hb => ?_⟩
      have := fwd_spec hf (Array.getElem?_eq_getElem (show m < l.toArray.size by omega)) e he hb
      exact getD_true (by rw [hsz]; omega) (hm2 _ this)
    rw [show f + 1 + (l.toArray.size - n) = (f + (l.toArray.size - n)) + 1 by omega]
    refine ⟨fun h0 => (by rw [h0] at hmr; cases hmr), fun i hi => ?_⟩
    obtain ⟨hi1, oi, hoi, hdeps⟩ := mem_ready.1 hi
    have hil : i < l.toArray.size := (Array.getElem?_eq_some_iff.1 hoi).1
    have hin : i < n := by
      rcases Nat.lt_or_ge i n with h | h
      · exact h
      · have h1 := List.all_eq_true.1 hc i (List.mem_range.2 hil)
        simp only [Bool.or_eq_true, decide_eq_true_eq] at h1
        rcases h1 with h1 | h1
        · omega
        · have h2 := getD_up (reach_on hcl 4 i (fun x hx => waits_on hx hi) m (List.all_eq_true.1 h1 m (List.mem_range.2 (by omega))))
          rw [hm1] at h2; cases h2
    have hcs := cnt_set hi1 n hin
    have hsz' : (listed.setIfInBounds i true).size = l.toArray.size := by simp [hsz]
    have htl' : ∀ t, n ≤ t → t < l.toArray.size → (listed.setIfInBounds i true).getD t true = false := fun t h1 h2 => by rw [getD_set_ne true (by omega)]; exact htl t h1 h2
    have hself : (listed.setIfInBounds i true).getD i false = true := by simp [hsz]; simpa using hil
    have hoi' : ∀ o, l[i]? = some o → oi = o := fun o ho => by
      have : l.toArray[i]? = some o := by simpa using ho
      exact Option.some.inj (hoi.symm.trans this)
    have hi0 : listed.getD i false = false := by
      have h2 : i < listed.size := by rw [hsz]; exact hil
      simp [h2] at hi1 ⊢
      exact hi1
    refine wpOp_mono ?_ (hstep i hin us w hC fun o ho e he hb => ?_)
    · rintro a' w' ⟨v, rfl, hp, hC', hk⟩
      refine ih _ _ _ hsz' htl' (by omega) hC' (fun j hj hl t ht => ?_) (fun j hj hl hd => ?_)
      · by_cases e2 : j = i
        · subst e2
          exact getD_set_true (waits_on ht hi)
        · rw [getD_set_ne false (Ne.symm e2)] at hl
          exact getD_set_true (hcl j hj hl t ht)
      · by_cases e2 : j = i
        · subst e2
          unfold upd
          rw [if_pos rfl]
          exact hp
        · unfold upd
          rw [if_neg e2]
          rw [getD_set_ne false (Ne.symm e2)] at hl
          have hd0 : D j ≠ i := fun e => by rw [e, hself] at hd; cases hd
          rw [getD_set_ne false (Ne.symm hd0)] at hd
          refine hk j _ e2 hd0 ?_ ?_ (hP j hj hl hd)
          · cases hq : Region.waitsFor .any l.toArray j i with
            | false => rfl
            | true => have := hcl j hj hl i hq; rw [hi0] at this; cases this
          · cases hq : Region.waitsFor .any l.toArray i (D j) with
            | false => rfl
            | true => have := waits_on hq hi; rw [hd] at this; cases this
    · obtain rfl := hoi' o ho
      have hlt := fwd_spec hf hoi e he hb
      refine hP _ (by omega) (hdeps e he hb) ?_
      rw [headD_dead hD hin hoi e he hb]
      exact hi0

theorem wp_region_head {id : Nat} {l : List Oper} {n : Nat} {D : Nat → Nat} {Q : Exit → Act → World → Prop} {a : Act} {w : World} (hm : P.follows .mixedOrders = true) (hB : headD l.toArray n D = true)
    (F : (Nat → Value) → Act) (Pp : Nat → Value → World → Prop) (C : World → Prop) (us : Nat → Value) (ha : a = F us) (hC : C w.drew)
    (hstep : ∀ i, i < n → ∀ us w, C w → (∀ o, l[i]? = some o → ∀ e ∈ o.after, Region.binds .any e = true → Pp e.on (us e.on) w) → wpOp P l.toArray Q i (fun a' w' => ∃ v, a' = F (upd us i v) ∧ Pp i v w' ∧ C w' ∧ ∀ j u, j ≠ i → D j ≠ i → Region.waitsFor .any l.toArray j i = false → Region.waitsFor .any l.toArray i (D j) = false → Pp j u w → Pp j u w') (F us) w)
    (hend : ∀ us w, C w → (∀ j, j < n → n ≤ D j → Pp j (us j) w) → wpList P l.toArray Q (l.drop n) (F us) w) : (Code.region id l.toArray true).wp P Q a w := by
  subst ha
  have hn : n ≤ l.toArray.size := by
    simp only [headD, Bool.and_eq_true, decide_eq_true_eq] at hB
    exact hB.1.1.1.1
  have hc0 : ∀ k, k ≤ l.toArray.size → cntF (Array.replicate l.toArray.size false) k = k := by
    intro k
    induction k with
    | zero => intro _; rfl
    | succ k ih =>
      intro hk
      unfold cntF
      rw [ih (by omega), getD_in (by simp at hk ⊢; omega) (getD_replicate_false _ _)]
      simp
  have H := wpAny_head (P := P) (Q := Q) hB F Pp C hstep hend n (Array.replicate l.toArray.size false) us w.drew (by simp) (fun t _ ht => getD_in (by simpa using ht) (getD_replicate_false _ _)) (hc0 n hn) hC (fun j _ hl => by rw [getD_replicate_false] at hl; cases hl) (fun j _ hl => by rw [getD_replicate_false] at hl; cases hl)
  rw [show n + (l.toArray.size - n) = l.toArray.size by omega] at H
  exact wp_region_any hm H
end
end Go.Proofs.YtjocpbcmehicmaaDoor
