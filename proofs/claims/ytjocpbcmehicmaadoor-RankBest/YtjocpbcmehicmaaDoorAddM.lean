/- Where the reference lays a reading: told by its place. -/
import Derived.Test.YtjocpbcmehicmaaDoorMath2
import Derived.Test.YtjocpbcmehicmaaDoorCpt
namespace Go.Proofs.YtjocpbcmehicmaaDoor

theorem addL_cons (x : Rd) (l : List Rd) (r : Rd) : addL (x :: l) r = if cmpV x.v r.v < 0 then x :: addL l r else if cmpV x.v r.v = 0 then (if x.cost ≤ r.cost then x :: l else ⟨x.v, r.cost⟩ :: l) else r :: x :: l := rfl
theorem insC_cons (x : Rd) (l : List Rd) (r : Rd) : insC (x :: l) r = if r.cost < x.cost then r :: x :: l else x :: insC l r := rfl
theorem addL_skip (r : Rd) : ∀ (p m : List Rd), (∀ x ∈ p, cmpV x.v r.v < 0) → addL (p ++ m) r = p ++ addL m r
  | [], _, _ => rfl
  | x :: p, m, h => by
    show addL (x :: (p ++ m)) r = _
    rw [addL_cons, if_pos (h x (by simp)), addL_skip r p m fun y hy => h y (by simp [hy])]
    rfl
theorem addL_end {l : List Rd} {r : Rd} (h : ∀ x ∈ l, cmpV x.v r.v < 0) : addL l r = l ++ [r] := by
  have := addL_skip r l [] h
  rwa [List.append_nil] at this
theorem addL_mid {l : List Rd} {r y : Rd} {k : Nat} (h : ∀ x ∈ l.take k, cmpV x.v r.v < 0) (hk : l[k]? = some y) (hy : 0 < cmpV y.v r.v) : addL l r = l.take k ++ r :: l.drop k := by
  obtain ⟨hlt, e⟩ := List.getElem?_eq_some_iff.1 hk
  have hd : l.drop k = y :: l.drop (k + 1) := by rw [List.drop_eq_getElem_cons hlt, e]
  have := addL_skip r (l.take k) (l.drop k) h
  rw [List.take_append_drop] at this
  rw [this, hd]
  unfold addL
  rw [if_neg (by omega), if_neg (by omega)]
theorem addL_same {l : List Rd} {r y : Rd} {k : Nat} (h : ∀ x ∈ l.take k, cmpV x.v r.v < 0) (hk : l[k]? = some y) (hy : cmpV y.v r.v = 0) : addL l r = if y.cost ≤ r.cost then l else l.set k ⟨y.v, r.cost⟩ := by
  obtain ⟨hlt, e⟩ := List.getElem?_eq_some_iff.1 hk
  have hd : l.drop k = y :: l.drop (k + 1) := by rw [List.drop_eq_getElem_cons hlt, e]
  have := addL_skip r (l.take k) (l.drop k) h
  rw [List.take_append_drop] at this
  rw [this, hd]
  unfold addL
  rw [if_neg (by omega), if_pos hy]
  split
  · rw [← hd, List.take_append_drop]
  · rw [List.set_eq_take_append_cons_drop, if_pos hlt]

/-- By cost. -/
def SC (l : List Rd) : Prop := l.Pairwise (fun x y => x.cost ≤ y.cost)
theorem insC_skip (r : Rd) : ∀ (p m : List Rd), (∀ x ∈ p, ¬ r.cost < x.cost) → insC (p ++ m) r = p ++ insC m r
  | [], _, _ => rfl
  | x :: p, m, h => by
    show insC (x :: (p ++ m)) r = _
    rw [insC_cons, if_neg (h x (by simp)), insC_skip r p m fun y hy => h y (by simp [hy])]
    rfl
theorem insC_at {l : List Rd} {r : Rd} {k : Nat} (hs : SC l) (h1 : ∀ x ∈ l.drop k, r.cost < x.cost) (h0 : ∀ y, 0 < k → l[k - 1]? = some y → ¬ r.cost < y.cost) (hk : k ≤ l.length) : insC l r = l.take k ++ r :: l.drop k := by
  have hp : ∀ x ∈ l.take k, ¬ r.cost < x.cost := by
    intro x hx
    obtain ⟨j, hj, e⟩ := List.mem_take_iff_getElem.1 hx
    have hk0 : 0 < k := by omega
    have hlt : k - 1 < l.length := by omega
    have h2 := h0 _ hk0 (List.getElem?_eq_getElem hlt)
    have h3 : x.cost ≤ (l[k - 1]'hlt).cost := by
      by_cases e2 : j = k - 1
      · subst e2; rw [← e]; exact Int.le_refl _
      · rw [← e]; exact List.pairwise_iff_getElem.1 hs j (k - 1) (by omega) hlt (by omega)
    omega
  have := insC_skip r (l.take k) (l.drop k) hp
  rw [List.take_append_drop] at this
  rw [this]
  cases hd : l.drop k with
  | nil => rfl
  | cons y m =>
    unfold insC
    rw [if_pos (h1 y (by rw [hd]; simp))]
theorem sc_insC (r : Rd) : ∀ l : List Rd, SC l → SC (insC l r)
  | [], _ => by simp [insC, SC]
  | x :: l, h => by
    obtain ⟨a, b⟩ := List.pairwise_cons.1 h
    unfold insC
    split
    · rename_i hc
      refine List.pairwise_cons.2 ⟨fun y hy => ?_, h⟩
      rcases List.mem_cons.1 hy with rfl | hy
      · omega
      · have := a y hy; omega
    · rename_i hc
      refine List.pairwise_cons.2 ⟨fun y hy => ?_, sc_insC r l b⟩
      rcases (mem_insC r y l).1 hy with rfl | hy
      · omega
      · exact a y hy
theorem sc_fold : ∀ (m o : List Rd), SC o → SC (m.foldl insC o)
  | [], _, h => h
  | x :: m, o, h => sc_fold m _ (sc_insC x o h)
theorem fold_snoc {f : List Rd → Rd → List Rd} (l : List Rd) (i : Nat) (hi : i < l.length) (o : List Rd) : (l.take (i + 1)).foldl f o = f ((l.take i).foldl f o) (l.getD i nilRd) := by
  rw [take_snoc l i hi, List.foldl_append]
  rfl
end Go.Proofs.YtjocpbcmehicmaaDoor
