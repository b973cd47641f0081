/- What a symbol of a graph leads to, at once or by others: 'behind' of package gram finds just those, whatever the graph. -/
import Derived.Test.YtohgaknojkdohaaGreatDoorGrGraph
namespace Go.Proofs.YtohgaknojkdohaaGreatDoor.Gr
open Go.RowKit Go.Maps



/-- A row of numbers that is taken from at its head and appended to at its end. -/
def QueueAt (w : World) (B : Nat) (v : Value) (xs : List Int) : Prop :=
  ∃ (g o cap : Nat) (cur : Array Value), v = .slice (some ⟨g, o, none⟩) xs.length cap ∧ B ≤ g ∧ w.heap[g]? = some (.cells cur 3 (0, 0)) ∧ xs.length ≤ cap ∧ o + cap ≤ cur.size ∧ ∀ j x, xs[j]? = some x → cur[o + j]? = some (.int .i64 x)
theorem QueueAt.kept {w w' : World} {B : Nat} {v : Value} {xs : List Int} {row : Option Nat} (h : QueueAt w B v xs) (hg : w.grownBy w' row) (hne : v.ownBlock ≠ row) : QueueAt w' B v xs := by
  obtain ⟨g, o, cap, cur, rfl, h1, h2, h3⟩ := h
  exact ⟨g, o, cap, cur, rfl, h1, (hg.block g (Array.getElem?_eq_some_iff.1 h2).1 (by simpa [Value.ownBlock] using hne)).trans h2, h3⟩
theorem QueueAt.on {w w' : World} {B : Nat} {v : Value} {xs : List Int} (h : QueueAt w B v xs) (hb : Below w.heap.size w w') : QueueAt w' B v xs := by
  obtain ⟨g, o, cap, cur, rfl, h1, h2, h3⟩ := h
  exact ⟨g, o, cap, cur, rfl, h1, (hb.block g (Array.getElem?_eq_some_iff.1 h2).1).trans h2, h3⟩
theorem QueueAt.lt {w : World} {B : Nat} {v : Value} {xs : List Int} (h : QueueAt w B v xs) {g : Nat} (hg : v.ownBlock = some g) : B ≤ g ∧ g < w.heap.size := by
  obtain ⟨g', o, cap, cur, rfl, h1, h2, h3⟩ := h
  simp [Value.ownBlock] at hg
  subst hg
  exact ⟨h1, (Array.getElem?_eq_some_iff.1 h2).1⟩

theorem run_append_queue (w : World) (ty : TypeId) (i : TypeInfo) (hi : Tryz.prog.info? 3 = some i) (hz : i.zero = some (.int .i64 0)) (hs : i.size = 1) (hby : i.bytes = 8) (B : Nat) (v : Value) (xs : List Int) (h : QueueAt w B v xs) (x : Int) (a : Addr) (ha : w.cell? (a.add 0) = some (.int .i64 x)) (hl : xs.length ≤ 1000000) (hB : B ≤ w.heap.size) :
    ∃ v' w', (Builtin.append_ #[35, 35] ty #[v, .slice (some a) 1 1]).run Tryz.prog w = .ok v' w' ∧ QueueAt w' B v' (xs ++ [x]) ∧ w.grownBy w' v.ownBlock ∧ (v'.ownBlock = v.ownBlock ∨ v'.ownBlock = some w.heap.size) := by
  obtain ⟨g, o, cap, cur, rfl, h1, h2, h3, h4, h5⟩ := h
  have hnews : ∀ j u, [Value.int .i64 x][j]? = some u → w.cell? (a.add j) = some u := by
    intro j u hj
    cases j with
    | zero => simp at hj; rw [ha, hj]
    | succ j => simp at hj
  by_cases hroom : xs.length + 1 ≤ cap
  · have hf := run_firstCells_some (P := Tryz.prog) w i.size 1 a 1 1 [.int .i64 x] (by simp [hs]) hnews
    have hst := run_storeCells_at Tryz.prog g (o + xs.length) 3 [.int .i64 x] 0 cur w h2 (by simp; omega) (by simp [Value.oneCell'])
    simp only [Nat.add_zero] at hst
    refine ⟨.slice (some ⟨g, o, none⟩) (xs.length + 1) cap, w.setRow g (cur.toList.take (o + xs.length) ++ [Value.int .i64 x] ++ cur.toList.drop (o + xs.length + 1)).toArray, ?_, ⟨g, o, cap, _, by rw [List.length_append]; rfl, h1, setRow_heap w g cur _ 3 _ h2, by simpa using hroom, ?_, ?_⟩, ⟨rfl, rfl, rfl, by simp, fun k _ hk => setRow_other w g k _ (fun e => hk (by simp [Value.ownBlock, e]))⟩, .inl rfl⟩
    · simp only [hs] at hf
      simp [Builtin.append_, run_underlying Tryz.underlying35, sizeOf, typeInfo, hi, Builtin.lenOf, hroom, hf, Addr.add_lit, hst, hs]
    · simp only [List.size_toArray, List.length_append, List.length_take, List.length_drop, Array.length_toList, List.length_cons, List.length_nil]
      omega
    · intro j y hj
      rw [List.getElem?_toArray, List.append_assoc]
      have hlen : (cur.toList.take (o + xs.length)).length = o + xs.length := by simp; omega
      by_cases hj2 : j < xs.length
      · rw [List.getElem?_append_left (by omega), List.getElem?_take, if_pos (by omega), Array.getElem?_toList]
        exact h5 j y (by rwa [List.getElem?_append_left hj2] at hj)
      · rw [List.getElem?_append_right (by omega), hlen]
        rw [List.getElem?_append_right (by omega)] at hj
        have : j = xs.length := by
          have := (List.getElem?_eq_some_iff.1 hj).1
          simp at this; omega
        subst this
        simp at hj ⊢
        exact hj
  · have holds : ∀ j u, (xs.map (Value.int .i64))[j]? = some u → w.cell? ((⟨g, o, none⟩ : Addr).add j) = some u := by
      intro j u hj
      rw [List.getElem?_map, Option.map_eq_some_iff] at hj
      obtain ⟨y, hy, rfl⟩ := hj
      rw [Addr.add_lit, cell_of_row _ _ _ _ _ _ h2]
      exact h5 j y hy
    have hr := run_append_grow (P := Tryz.prog) w 35 ty 3 i (.int .i64 0) Tryz.underlying35 hi hz ⟨g, o, none⟩ xs.length cap (xs.map (Value.int .i64)) (by simp [hs]) holds a 1 1 [.int .i64 x] (by simp [hs]) hnews (by omega) (by omega) (growslice_fits (by omega) (by rw [hby]; omega))
    have hge := grownCap_ge w (xs.length + 1) cap 3
    refine ⟨_, _, hr, ⟨w.heap.size, 0, _, _, by rw [List.length_append]; rfl, hB, heap_alloc_new w.drew _, by simpa using hge, ?_, ?_⟩, ⟨rfl, rfl, rfl, by simp, fun k hk _ => Below.heap_alloc w.drew _ k hk⟩, .inr rfl⟩
    · simp only [Array.size_append, List.size_toArray, size_zeroCells, List.length_map, List.length_cons, List.length_nil, Value.cells]
      simp
      omega
    · intro j y hj
      have hjl := (List.getElem?_eq_some_iff.1 hj).1
      simp only [List.length_append, List.length_cons, List.length_nil] at hjl
      rw [Nat.zero_add, Array.getElem?_append_left (by simp; omega), List.append_toArray, List.getElem?_toArray]
      have : xs.map (Value.int .i64) ++ [Value.int .i64 x] = (xs ++ [x]).map (Value.int .i64) := by simp
      rw [this, List.getElem?_map, hj]
      rfl

theorem wpList_append_queue (w : World) {ops : Array Oper} {rest : List Oper} {o : Oper} {a : Act} {Q : Exit → Act → World → Prop} (hgd : o.guard = none) (s x : Operand)
    (ho : o.op = .call { callee := .builtin .append, args := #[s, x], argTypes := #[35, 35] })
    (B : Nat) (v : Value) (xs : List Int) (hs : a.eval s = v) (h : QueueAt w B v xs) (y : Int) (ad : Addr) (hx : a.eval x = .slice (some ad) 1 1) (ha : w.cell? (ad.add 0) = some (.int .i64 y)) (hl : xs.length ≤ 1000000) (hB : B ≤ w.heap.size)
    (hK : ∀ v' w', QueueAt w' B v' (xs ++ [y]) → w.grownBy w' v.ownBlock → (v'.ownBlock = v.ownBlock ∨ v'.ownBlock = some w.heap.size) → wpList Tryz.prog ops Q rest (a.put o.dst v') w') : wpList Tryz.prog ops Q (o :: rest) a w := by
  obtain ⟨i0, hi, hz0, hz1, hz2⟩ := info_parts info_int
  refine wpList_plain hgd fun _ hK' => ?_
  obtain ⟨v', w', hr, h2, h3, h4⟩ := run_append_queue w o.type i0 hi hz0 hz1 hz2 B v xs h y ad ha hl hB
  unfold Oper.wp execOp
  simp only [ho, resolve, invoke, builtin, Sem.run_bind, Sem.run_pure, Result.andThen_ok, List.map_toArray, List.map_cons, List.map_nil, hs, hx, hr]
  exact hK' _ _ (hK v' w' h2 h3 h4)

/-- What holds on the way: all that is found is reached; whoever is found and no longer to do has all that it leads to among the found. -/
structure Inv (E : Nat → Nat → Bool) (f : Nat) (F : Nat → Bool) (T : List Nat) (busy : Nat → Prop) : Prop where
  sound : ∀ j, j < 20 → F j = true → Reach E f j
  todo : ∀ x, x ∈ T → x < 20 ∧ (x = f ∨ F x = true)
  closed : ∀ x, x < 20 → (x = f ∨ F x = true) → x ∈ T ∨ busy x ∨ ∀ y, E x y = true → F y = true
theorem inv_start (E : Nat → Nat → Bool) (f : Nat) (hf : f < 20) : Inv E f (fun _ => false) [f] (fun _ => False) :=
  ⟨fun _ _ h => by (cases h), fun x hx => by rw [List.mem_singleton] at hx; exact ⟨hx ▸ hf, .inl hx⟩, fun x _ h => by
    rcases h with h | h
    · exact .inl (List.mem_singleton.2 h)
    · cases h⟩
theorem Inv.take {E : Nat → Nat → Bool} {f : Nat} {F : Nat → Bool} {a : Nat} {T : List Nat} (h : Inv E f F (a :: T) (fun _ => False)) : Inv E f F T (fun x => x = a) :=
  ⟨h.sound, fun x hx => h.todo x (List.mem_cons_of_mem _ hx), fun x hx hF => by
    rcases h.closed x hx hF with h1 | h1 | h1
    · rcases List.mem_cons.1 h1 with e | e
      · exact .inr (.inl e)
      · exact .inl e
    · exact h1.elim
    · exact .inr (.inr h1)⟩
theorem Inv.add {E : Nat → Nat → Bool} {f : Nat} {F : Nat → Bool} {y : Nat} {T : List Nat} {busy : Nat → Prop} (h : Inv E f F T busy) (hR : Reach E f y) (hy : y < 20) : Inv E f (fun j => F j || decide (j = y)) (T ++ [y]) busy :=
  ⟨fun j hj hF => by
    simp only [Bool.or_eq_true, decide_eq_true_eq] at hF
    rcases hF with e | e
    · exact h.sound j hj e
    · rw [e]; exact hR,
   fun x hx => by
    rcases List.mem_append.1 hx with e | e
    · have := h.todo x e
      exact ⟨this.1, this.2.imp id (fun e => by simp [e])⟩
    · rw [List.mem_singleton] at e
      exact ⟨e ▸ hy, .inr (by simp [e])⟩,
   fun x hx hF => by
    by_cases e : x = y
    · exact .inl (by simp [e])
    · simp only [e, decide_false, Bool.or_false] at hF
      rcases h.closed x hx hF with h1 | h1 | h1
      · exact .inl (List.mem_append_left _ h1)
      · exact .inr (.inl h1)
      · exact .inr (.inr fun z hz => by simp [h1 z hz])⟩
theorem Inv.done {E : Nat → Nat → Bool} {f : Nat} {F : Nat → Bool} {a : Nat} {T : List Nat} (h : Inv E f F T (fun x => x = a)) (ha : ∀ y, E a y = true → F y = true) : Inv E f F T (fun _ => False) :=
  ⟨h.sound, h.todo, fun x hx hF => by
    rcases h.closed x hx hF with h1 | h1 | h1
    · exact .inl h1
    · exact .inr (.inr (h1 ▸ ha))
    · exact .inr (.inr h1)⟩
theorem Inv.ends {E : Nat → Nat → Bool} {f : Nat} {F : Nat → Bool} (hE : ∀ x y, E x y = true → x < 20 ∧ y < 20) (hf : f < 20) (h : Inv E f F [] (fun _ => False)) (j : Nat) (hj : j < 20) : F j = reachS E f j := by
  have cl : ∀ x, x < 20 → (x = f ∨ F x = true) → ∀ y, E x y = true → F y = true := fun x hx hF => by
    rcases h.closed x hx hF with h1 | h1 | h1
    · cases h1
    · exact h1.elim
    · exact h1
  rw [Bool.eq_iff_iff, reachS_iff (fun x y e => (hE x y e).1)]
  constructor
  · exact h.sound j hj
  · intro hR
    exact (hR (fun z => F z = true) (fun y e => cl f hf (.inl rfl) y e) (fun x y hx e => cl x (hE x y e).1 (.inr hx) y e))

theorem filter_add (s : Nat → Bool) (k : Nat) (hs : s k = false) : ∀ l : List Nat, l.Nodup → (l.filter fun j => s j || decide (j = k)).length = (l.filter s).length + (if k ∈ l then 1 else 0)
  | [], _ => rfl
  | a :: l, h => by
    rw [List.nodup_cons] at h
    have ih := filter_add s k hs l h.2
    by_cases e : a = k
    · subst e
      rw [if_neg h.1] at ih
      simp only [List.filter_cons, hs, decide_true, Bool.or_true, if_true, List.length_cons, ih, List.mem_cons, true_or, Bool.false_eq_true, if_false]
    · have e2 : ¬ k = a := fun h => e h.symm
      have e3 : (k ∈ a :: l) = (k ∈ l) := by simp [e2]
      simp only [e3]
      cases ha : s a with
      | true =>
        simp only [List.filter_cons, ha, Bool.true_or, if_true, List.length_cons, ih]
        omega
      | false =>
        simp only [List.filter_cons, ha, e, decide_false, Bool.or_false, Bool.false_eq_true, if_false, ih]
theorem symL_add (s : Nat → Bool) (k : Nat) (hk : k < 20) (hs : s k = false) : (symL fun j => s j || decide (j = k)).length = (symL s).length + 1 := by
  unfold symL
  rw [List.length_map, List.length_map, filter_add s k hs _ List.nodup_range, if_pos (by simpa using hk)]

def lenOf : Value → Nat | .slice _ n _ => n | _ => 0
theorem QueueAt.len {w : World} {B : Nat} {v : Value} {xs : List Int} (h : QueueAt w B v xs) : lenOf v = xs.length := by
  obtain ⟨g, o, cap, cur, rfl, _⟩ := h
  rfl
theorem queue_new (w : World) (B : Nat) (hB : B ≤ w.heap.size) (x : Int) : QueueAt (w.alloc (.cells #[.int .i64 x] 3)) B (.slice (some ⟨w.heap.size, 0, none⟩) 1 1) [x] :=
  ⟨w.heap.size, 0, 1, #[.int .i64 x], rfl, hB, row_new w _, by simp, by simp, fun j y hj => by
    cases j with
    | zero => simpa using hj
    | succ j => simp at hj⟩
/-- The queue without its first. -/
theorem queue_rest {w : World} {B g o cap : Nat} {cur : Array Value} {x : Int} {xs : List Int} {n : Nat} (hn : xs.length = n) (h1 : B ≤ g) (h2 : w.heap[g]? = some (.cells cur 3 (0, 0))) (h3 : n + 1 ≤ cap) (h4 : o + cap ≤ cur.size) (h5 : ∀ j y, (x :: xs)[j]? = some y → cur[o + j]? = some (.int .i64 y))
    {ad : Addr} (ha : (cap = 1 ∧ ad = ⟨g, o, none⟩) ∨ ad = ⟨g, o + 1, none⟩) : QueueAt w B (.slice (some ad) n (cap - 1)) xs := by
  subst hn
  rcases ha with ⟨rfl, rfl⟩ | rfl
  · have : xs = [] := List.eq_nil_of_length_eq_zero (by omega)
    subst this
    exact ⟨g, o, 0, cur, rfl, h1, h2, by simp, by omega, fun j y hj => by simp at hj⟩
  · refine ⟨g, o + 1, cap - 1, cur, rfl, h1, h2, by omega, by omega, fun j y hj => ?_⟩
    rw [Nat.add_assoc, Nat.add_comm 1 j]
    exact h5 (j + 1) y (by simpa using hj)

end Go.Proofs.YtohgaknojkdohaaGreatDoor.Gr
