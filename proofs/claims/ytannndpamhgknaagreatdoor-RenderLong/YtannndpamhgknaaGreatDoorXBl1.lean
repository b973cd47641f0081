/- BlCells, BlRdG, BlAt, BlCp, BlResR, BlRes, BlRsv: these texts, one behind the other. -/
import Derived.Test.YtannndpamhgknaaGreatDoorXBl0
import Derived.Test.YtannndpamhgknaaGreatDoorXFo2
import Derived.Test.YtannndpamhgknaaGreatDoorGrBoxes
import Derived.Test.YtannndpamhgknaaGreatDoorGrMake
import Derived.Deep.RegionLaw
import Derived.Deep.RegionHeld
/- Rows of whatever element, cell by cell: a row appended onto one that the call made; rows of entries, parts, styles, rules, locales as cells, and back. -/
namespace Go.Proofs.YtannndpamhgknaaGreatDoor.Bl
open Go.RowKit Gr

/-- A slice's cells. -/
def CellsAt (w : World) (v : Value) (n size : Nat) (cs : List Value) : Prop :=
  ∃ (ad : Option Addr) (cap : Nat), v = .slice ad n cap ∧ cs.length = n * size ∧ (ad = none → cap = 0 ∧ n = 0) ∧ (∀ u ∈ cs, u.oneCell' = true) ∧ ∀ j u, cs[j]? = some u → ∃ a, ad = some a ∧ w.cell? (a.add j) = some u
theorem CellsAt.on {w w' : World} {v : Value} {n size : Nat} {cs : List Value} (h : CellsAt w v n size cs) (hb : Below w.heap.size w w') : CellsAt w' v n size cs := by
  obtain ⟨ad, cap, h1, h2, h3, h4, h5⟩ := h
  refine ⟨ad, cap, h1, h2, h3, h4, fun j u hj => ?_⟩
  obtain ⟨a, e, h6⟩ := h5 j u hj
  exact ⟨a, e, (hb.cell (lt_of_cell h6)).trans h6⟩
theorem CellsAt.nil (w : World) (size : Nat) : CellsAt w (.slice none 0 0) 0 size [] := ⟨none, 0, rfl, by simp, fun _ => ⟨rfl, rfl⟩, fun u hu => by simp at hu, fun j u h => by simp at h⟩
/-- A literal's cells. -/
theorem cells_lit (w : World) (e : TypeId) (cs : List Value) (a : Array Value) (ha : a = cs.toArray) (g n size : Nat) (hg : g = w.heap.size) (hn : cs.length = n * size) (h1 : ∀ u ∈ cs, u.oneCell' = true) : CellsAt (w.alloc (.cells a e)) (.slice (some ⟨g, 0, none⟩) n n) n size cs := by
  subst hg ha
  refine ⟨_, _, rfl, hn, fun h => (by cases h), h1, fun j u hj => ⟨_, rfl, ?_⟩⟩
  rw [Addr.add_lit, Nat.zero_add, new_cell, List.getElem?_toArray]
  exact hj
theorem run_append_cells (w : World) (t e ty : TypeId) (z : Value) (size bytes : Nat) (ht : Tryz.prog.underlying t = some (.slice e)) (hi : (Tryz.prog.info? e).map (fun i => (i.zero, i.size, i.bytes)) = some (some z, size, bytes)) (hzs : z.cells.size = size) (hsz : 0 < size) (hby : bytes ≤ 1000)
    (B : Nat) (v : Value) (n : Nat) (cs : List Value) (h : w.ownsRow B e size v n cs) (xv : Value) (m : Nat) (ds : List Value) (hq : CellsAt w xv m size ds) (hl : n + m ≤ 1000000) (hB : B ≤ w.heap.size) :
    ∃ v' w', (Builtin.append_ #[t, t] ty #[v, xv]).run Tryz.prog w = .ok v' w' ∧ w'.ownsRow B e size v' (n + m) (cs ++ ds) ∧ w.grownBy w' v.ownBlock ∧ (v'.ownBlock = v.ownBlock ∨ v'.ownBlock = some w.heap.size) := by
  obtain ⟨i0, hi0, hz0, hz1, hz2⟩ := info_parts hi
  obtain ⟨ad, cap, rfl, hdl, hnil, hone, hqc⟩ := hq
  cases ad with
  | none =>
    obtain ⟨rfl, rfl⟩ := hnil rfl
    have hds : ds = [] := List.length_eq_zero_iff.1 (by omega)
    subst hds
    refine ⟨v, w, run_append_owned_none (P := Tryz.prog) w B t ty e i0 size ht hi0 v n _ h, by simpa using h, World.grownBy.refl _ _, .inl rfl⟩
  | some adr =>
    obtain ⟨v', w', hr, h2, h3, _, h5⟩ := run_append_own_at (P := Tryz.prog) w B t ty e i0 z size bytes ht hi0 hz0 hz1 hz2 hzs hsz v n _ h adr m cap ds hdl
      (fun j u hj => by
        obtain ⟨a, e, h4⟩ := hqc j u hj
        obtain rfl := Option.some.inj e
        exact h4) hone (by unfold maxLen; omega) (by
          have : (n + m) * bytes ≤ 1000000 * 1000 := Nat.mul_le_mul hl hby
          omega) hB
    exact ⟨v', w', hr, h2, h3, h5⟩
theorem step_append_cells (w : World) {ops : Array Oper} {o : Oper} {a : Act} {K : Act → World → Prop} {Q : Exit → Act → World → Prop} {E : Prop} (hgd : o.guard = none) (s x : Operand) (t e : TypeId)
    (ho : o.op = .call { callee := .builtin .append, args := #[s, x], argTypes := #[t, t] }) (z : Value) (size bytes : Nat) (ht : Tryz.prog.underlying t = some (.slice e)) (hi : (Tryz.prog.info? e).map (fun i => (i.zero, i.size, i.bytes)) = some (some z, size, bytes)) (hzs : z.cells.size = size) (hsz : 0 < size) (hby : bytes ≤ 1000)
    (B : Nat) (v : Value) (n : Nat) (cs : List Value) (hs : a.eval s = v) (h : w.ownsRow B e size v n cs) (xv : Value) (m : Nat) (ds : List Value) (hx : a.eval x = xv) (hq : CellsAt w xv m size ds) (hl : n + m ≤ 1000000) (hB : B ≤ w.heap.size)
    (hK : ∀ v' w', w'.ownsRow B e size v' (n + m) (cs ++ ds) → w.grownBy w' v.ownBlock → (v'.ownBlock = v.ownBlock ∨ v'.ownBlock = some w.heap.size) → K (a.put o.dst v') w') :
    if Region.wanted o (yielded ops a.tmps) = true then Oper.wp Tryz.prog o a w K Q else E := by
  have hw : Region.wanted o (yielded ops a.tmps) = true := by simp [Region.wanted, hgd]
  rw [if_pos hw]
  obtain ⟨v', w', hr, h2, h3, h4⟩ := run_append_cells w t e o.type z size bytes ht hi hzs hsz hby B v n cs h xv m ds hq hl hB
  unfold Oper.wp execOp
  simp only [ho, resolve, invoke, builtin, Sem.run_bind, Sem.run_pure, Result.andThen_ok, List.map_toArray, List.map_cons, List.map_nil, hs, hx, hr]
  exact hK v' w' h2 h3 h4
theorem wpList_append_cells (w : World) {ops : Array Oper} {rest : List Oper} {o : Oper} {a : Act} {Q : Exit → Act → World → Prop} (hgd : o.guard = none) (s x : Operand) (t e : TypeId)
    (ho : o.op = .call { callee := .builtin .append, args := #[s, x], argTypes := #[t, t] }) (z : Value) (size bytes : Nat) (ht : Tryz.prog.underlying t = some (.slice e)) (hi : (Tryz.prog.info? e).map (fun i => (i.zero, i.size, i.bytes)) = some (some z, size, bytes)) (hzs : z.cells.size = size) (hsz : 0 < size) (hby : bytes ≤ 1000)
    (B : Nat) (v : Value) (n : Nat) (cs : List Value) (hs : a.eval s = v) (h : w.ownsRow B e size v n cs) (xv : Value) (m : Nat) (ds : List Value) (hx : a.eval x = xv) (hq : CellsAt w xv m size ds) (hl : n + m ≤ 1000000) (hB : B ≤ w.heap.size)
    (hK : ∀ v' w', w'.ownsRow B e size v' (n + m) (cs ++ ds) → w.grownBy w' v.ownBlock → (v'.ownBlock = v.ownBlock ∨ v'.ownBlock = some w.heap.size) → wpList Tryz.prog ops Q rest (a.put o.dst v') w') : wpList Tryz.prog ops Q (o :: rest) a w := by
  refine wpList_plain hgd fun _ hK' => ?_
  obtain ⟨v', w', hr, h2, h3, h4⟩ := run_append_cells w t e o.type z size bytes ht hi hzs hsz hby B v n cs h xv m ds hq hl hB
  unfold Oper.wp execOp
  simp only [ho, resolve, invoke, builtin, Sem.run_bind, Sem.run_pure, Result.andThen_ok, List.map_toArray, List.map_cons, List.map_nil, hs, hx, hr]
  exact hK' _ _ (hK v' w' h2 h3 h4)
theorem own_shape {w : World} {B n size : Nat} {e : TypeId} {v : Value} {cs : List Value} (h : w.ownsRow B e size v n cs) : ∃ ad cap, v = .slice ad n cap ∧ (ad = none → cap = 0 ∧ n = 0) ∧ n ≤ cap := by
  obtain ⟨_, ⟨rfl, rfl⟩ | ⟨g, cap, cur, rfl, _, _, hc, _⟩⟩ := h
  · exact ⟨none, 0, rfl, fun _ => ⟨rfl, rfl⟩, Nat.le_refl _⟩
  · exact ⟨_, _, rfl, fun h => (by cases h), hc⟩
/-- A row that the call made, its cells. -/
theorem own_cells {w : World} {B n size : Nat} {e : TypeId} {v : Value} {cs : List Value} (h : w.ownsRow B e size v n cs) (h1 : ∀ u ∈ cs, u.oneCell' = true) : CellsAt w v n size cs := by
  have h0 := h
  obtain ⟨hl, ⟨rfl, rfl⟩ | ⟨g, cap, cur, rfl, _, _, hc, _⟩⟩ := h
  · have : cs = [] := List.length_eq_zero_iff.1 (by omega)
    subst this
    exact CellsAt.nil _ _
  · refine ⟨_, _, rfl, hl, fun h => (by cases h), h1, fun j u hj => ⟨_, rfl, ?_⟩⟩
    have hjl := (List.getElem?_eq_some_iff.1 hj).1
    rw [Addr.add_lit, Nat.zero_add, h0.cellAt j (by omega)]
    exact hj
theorem own_at {w : World} {B n size : Nat} {e : TypeId} {v : Value} {cs : List Value} (h : w.ownsRow B e size v n cs) (hn : 0 < n) : ∃ g cap, v = .slice (some ⟨g, 0, none⟩) n cap ∧ B ≤ g ∧ n ≤ cap ∧ ∀ j u, cs[j]? = some u → w.cell? ⟨g, j, none⟩ = some u := by
  have h0 := h
  obtain ⟨hl, ⟨rfl, rfl⟩ | ⟨g, cap, cur, rfl, hb, _, hc, _⟩⟩ := h
  · omega
  · refine ⟨g, cap, rfl, hb, hc, fun j u hj => ?_⟩
    have hjl := (List.getElem?_eq_some_iff.1 hj).1
    rw [h0.cellAt j (by omega)]
    exact hj
theorem append_at {α β : Type} {xs ys : List α} {cs ds : List β} {n : Nat} (hc : cs.length = xs.length * n) {j : Nat} {x : α} (h : (xs ++ ys)[j]? = some x) :
    (xs[j]? = some x ∧ ∀ k, k < n → (cs ++ ds)[j * n + k]? = cs[j * n + k]?) ∨ (∃ i, j = xs.length + i ∧ ys[i]? = some x ∧ ∀ k, (cs ++ ds)[j * n + k]? = ds[i * n + k]?) := by
  by_cases hj : j < xs.length
  · rw [List.getElem?_append_left hj] at h
    refine .inl ⟨h, fun k hk => List.getElem?_append_left ?_⟩
    rw [hc]
    have : (j + 1) * n ≤ xs.length * n := Nat.mul_le_mul_right n hj
    rw [Nat.add_mul] at this
    omega
  · rw [List.getElem?_append_right (by omega)] at h
    refine .inr ⟨j - xs.length, by omega, h, fun k => ?_⟩
    have hm : j * n = xs.length * n + (j - xs.length) * n := by rw [← Nat.add_mul]; congr 1; omega
    rw [List.getElem?_append_right (by rw [hc]; omega)]
    congr 1
    rw [hc]
    omega
theorem mul_lt {j k n m : Nat} (hj : j < m) (hk : k < n) : j * n + k < m * n := by
  have : (j + 1) * n ≤ m * n := Nat.mul_le_mul_right n hj
  rw [Nat.add_mul] at this
  omega

/-- Cells, element by element, as one row. -/
theorem cells_build {α : Type} {w : World} (ad : Option Addr) (cap n : Nat) (_ : 0 < n) (xs : List α) (nil : α) (C : World → List Value → List α → Prop) (h0 : C w [] []) (happ : ∀ {cs ds : List Value} {ys zs : List α}, C w cs ys → C w ds zs → C w (cs ++ ds) (ys ++ zs)) (hone : ∀ {cs : List Value} {ys : List α}, C w cs ys → ∀ u ∈ cs, u.oneCell' = true)
    (hnil : ad = none → cap = 0 ∧ xs.length = 0) (h : ∀ j, j < xs.length → ∃ l : List Value, l.length = n ∧ (∀ k u, l[k]? = some u → ∃ g o, ad = some ⟨g, o, none⟩ ∧ w.cell? ⟨g, o + j * n + k, none⟩ = some u) ∧ C w l [xs.getD j nil]) :
    ∃ cs, CellsAt w (.slice ad xs.length cap) xs.length n cs ∧ C w cs xs := by
  have key : ∀ m, m ≤ xs.length → ∃ cs : List Value, cs.length = m * n ∧ (∀ j u, cs[j]? = some u → ∃ g o, ad = some ⟨g, o, none⟩ ∧ w.cell? ⟨g, o + j, none⟩ = some u) ∧ C w cs (xs.take m) := by
    intro m
    induction m with
    | zero => exact fun _ => ⟨[], by simp, fun j u h => by simp at h, by simpa using h0⟩
    | succ m ih =>
      intro hm
      obtain ⟨cs, h1, h2, h3⟩ := ih (by omega)
      obtain ⟨l, g1, g2, g3⟩ := h m (by omega)
      refine ⟨cs ++ l, by rw [List.length_append, h1, g1, Nat.add_mul, Nat.one_mul], fun j u hj => ?_, ?_⟩
      · by_cases hlt : j < m * n
        · rw [List.getElem?_append_left (by omega)] at hj
          exact h2 j u hj
        · rw [List.getElem?_append_right (by omega)] at hj
          obtain ⟨g, o, e, hc⟩ := g2 _ u hj
          refine ⟨g, o, e, ?_⟩
          rw [← hc]
          congr 2
          omega
      · rw [List.take_add_one, List.getElem?_eq_getElem (by omega : m < xs.length)]
        have : xs.getD m nil = xs[m]'(by omega) := by rw [List.getD_eq_getElem?_getD, List.getElem?_eq_getElem (by omega : m < xs.length)]; rfl
        rw [this] at g3
        exact happ h3 g3
  obtain ⟨cs, h1, h2, h3⟩ := key xs.length (Nat.le_refl _)
  rw [List.take_length] at h3
  refine ⟨cs, ⟨ad, cap, rfl, h1, hnil, hone h3, fun j u hj => ?_⟩, h3⟩
  obtain ⟨g, o, e, hc⟩ := h2 j u hj
  exact ⟨_, e, by rw [Addr.add_lit]; exact hc⟩

/-- The cells of one, in a row of cells. -/
def EntryC1 (_ : World) (cs : List Value) (o : Nat) (x : Entry) : Prop := cs[o + 0]? = some (.string x.text) ∧ cs[o + 1]? = some (.int .i64 x.cls) ∧ cs[o + 2]? = some (.int .i64 x.val)
def EntryC (w : World) (cs : List Value) (xs : List Entry) : Prop := cs.length = xs.length * 3 ∧ ∀ j x, xs[j]? = some x → EntryC1 w cs (j * 3) x
theorem EntryC.nil (w : World) : EntryC w [] [] := ⟨rfl, fun j x h => by simp at h⟩
theorem EntryC.on {w w' : World} {cs : List Value} {xs : List Entry} (h : EntryC w cs xs) (_ : Below w.heap.size w w') : EntryC w' cs xs := ⟨h.1, fun j x hx => by
  obtain ⟨h0, h1, h2⟩ := h.2 j x hx
  exact ⟨h0, h1, h2⟩⟩
theorem EntryC.append {w : World} {cs ds : List Value} {xs ys : List Entry} (h : EntryC w cs xs) (k : EntryC w ds ys) : EntryC w (cs ++ ds) (xs ++ ys) := by
  refine ⟨by rw [List.length_append, List.length_append, h.1, k.1, Nat.add_mul], fun j x hx => ?_⟩
  rcases append_at (ds := ds) h.1 hx with ⟨hh1, hh2⟩ | ⟨i, _, hh1, hh2⟩
  · obtain ⟨h0, h1, h2⟩ := h.2 j x hh1
    exact ⟨(hh2 0 (by decide)).trans h0, (hh2 1 (by decide)).trans h1, (hh2 2 (by decide)).trans h2⟩
  · obtain ⟨h0, h1, h2⟩ := k.2 i x hh1
    exact ⟨(hh2 0).trans h0, (hh2 1).trans h1, (hh2 2).trans h2⟩
theorem EntryC.one (w : World) (x : Entry) : EntryC w [.string x.text, .int .i64 x.cls, .int .i64 x.val] [x] := ⟨rfl, fun j y h => by
  obtain ⟨rfl, rfl⟩ : j = 0 ∧ y = x := by
    cases j with
    | zero => simpa [eq_comm] using h
    | succ j => simp at h
  exact ⟨rfl, rfl, rfl⟩⟩
theorem EntryC.ones {w : World} {cs : List Value} {xs : List Entry} (h : EntryC w cs xs) : ∀ u ∈ cs, u.oneCell' = true := by
  intro u hu
  obtain ⟨i, hi⟩ := List.getElem?_of_mem hu
  have hil := (List.getElem?_eq_some_iff.1 hi).1
  rw [h.1] at hil
  have hj : i / 3 < xs.length := by omega
  obtain ⟨h0, h1, h2⟩ := h.2 (i / 3) _ (List.getElem?_eq_getElem hj)
  have hr : i % 3 < 3 := Nat.mod_lt _ (by decide)
  have hd : i = i / 3 * 3 + i % 3 := by omega
  generalize i % 3 = r at *
  rw [hd] at hi
  match r, hr with
  | 0, _ => rw [h0] at hi; obtain rfl := Option.some.inj hi; rfl
  | 1, _ => rw [h1] at hi; obtain rfl := Option.some.inj hi; rfl
  | 2, _ => rw [h2] at hi; obtain rfl := Option.some.inj hi; rfl
theorem info_Entry : (Tryz.prog.info? 49).map (fun i => (i.zero, i.size, i.bytes)) = some (some (.agg #[.string ⟨#[]⟩, .int .i64 0, .int .i64 0]), 3, 32) := by kernel_rfl
theorem Entries_own {w : World} {B : Nat} {v : Value} {cs : List Value} {xs : List Entry} (h : w.ownsRow B 49 3 v xs.length cs) (hc : EntryC w cs xs) (hl : xs.length ≤ 1000000) : EntriesAt w v xs := by
  obtain ⟨ad, cap, rfl, hn, hcp⟩ := own_shape h
  refine ⟨ad, cap, rfl, hl, ⟨fun e => (hn e).1, hcp⟩, fun j hj => ?_⟩
  obtain ⟨g, cap', e, _, _, hcell⟩ := own_at h (by omega)
  injection e with e1 _ e3
  subst e1 e3
  refine ⟨g, 0, rfl, ?_⟩
  obtain ⟨h0, h1, h2⟩ := hc.2 j _ (Entry_at hj)
  exact ⟨by simpa using hcell _ _ h0, by simpa using hcell _ _ h1, by simpa using hcell _ _ h2⟩
theorem Entries_cells {w : World} {v : Value} {xs : List Entry} (h : EntriesAt w v xs) : ∃ cs, CellsAt w v xs.length 3 cs ∧ EntryC w cs xs := by
  obtain ⟨ad, cap, rfl, hl, hnil, hc⟩ := h
  have : ∀ j, j < xs.length → ∃ l : List Value, l.length = 3 ∧ (∀ k u, l[k]? = some u → ∃ g o, ad = some ⟨g, o, none⟩ ∧ w.cell? ⟨g, o + j * 3 + k, none⟩ = some u) ∧ EntryC w l [xs.getD j nilEntry] := fun j hj => by
    obtain ⟨g, o, e, h0, h1, h2⟩ := hc j hj
    refine ⟨[.string (xs.getD j nilEntry).text, .int .i64 (xs.getD j nilEntry).cls, .int .i64 (xs.getD j nilEntry).val], rfl, fun k u hk => ⟨g, o, e, ?_⟩, EntryC.one w _⟩
    match k with
    | 0 => simp at hk; subst hk; exact h0
    | 1 => simp at hk; subst hk; exact h1
    | 2 => simp at hk; subst hk; exact h2
    | k + 3 => simp at hk
  exact cells_build ad cap 3 (by decide) xs nilEntry (fun w cs xs => EntryC w cs xs) (EntryC.nil w) (fun a b => a.append b) (fun a => a.ones) (fun e => ⟨hnil.1 e, by have := hnil.2; have := hnil.1 e; omega⟩) this
theorem at_oneCellEntriesAt {w : World} {v : Value} {xs : List Entry} (h : EntriesAt w v xs) : v.oneCell' = true := by
  obtain ⟨ad, cap, rfl, _⟩ := h
  rfl

/-- The cells of one, in a row of cells. -/
def PartC1 (_ : World) (cs : List Value) (o : Nat) (x : Part) : Prop := cs[o + 0]? = some (.int .i64 x.kind) ∧ cs[o + 1]? = some (.string x.text) ∧ cs[o + 2]? = some (.int .i64 x.field) ∧ cs[o + 3]? = some (.int .i64 x.width) ∧ cs[o + 4]? = some (.int .i64 x.cls)
def PartC (w : World) (cs : List Value) (xs : List Part) : Prop := cs.length = xs.length * 5 ∧ ∀ j x, xs[j]? = some x → PartC1 w cs (j * 5) x
theorem PartC.nil (w : World) : PartC w [] [] := ⟨rfl, fun j x h => by simp at h⟩
theorem PartC.on {w w' : World} {cs : List Value} {xs : List Part} (h : PartC w cs xs) (_ : Below w.heap.size w w') : PartC w' cs xs := ⟨h.1, fun j x hx => by
  obtain ⟨h0, h1, h2, h3, h4⟩ := h.2 j x hx
  exact ⟨h0, h1, h2, h3, h4⟩⟩
theorem PartC.append {w : World} {cs ds : List Value} {xs ys : List Part} (h : PartC w cs xs) (k : PartC w ds ys) : PartC w (cs ++ ds) (xs ++ ys) := by
  refine ⟨by rw [List.length_append, List.length_append, h.1, k.1, Nat.add_mul], fun j x hx => ?_⟩
  rcases append_at (ds := ds) h.1 hx with ⟨hh1, hh2⟩ | ⟨i, _, hh1, hh2⟩
  · obtain ⟨h0, h1, h2, h3, h4⟩ := h.2 j x hh1
    exact ⟨(hh2 0 (by decide)).trans h0, (hh2 1 (by decide)).trans h1, (hh2 2 (by decide)).trans h2, (hh2 3 (by decide)).trans h3, (hh2 4 (by decide)).trans h4⟩
  · obtain ⟨h0, h1, h2, h3, h4⟩ := k.2 i x hh1
    exact ⟨(hh2 0).trans h0, (hh2 1).trans h1, (hh2 2).trans h2, (hh2 3).trans h3, (hh2 4).trans h4⟩
theorem PartC.one (w : World) (x : Part) : PartC w [.int .i64 x.kind, .string x.text, .int .i64 x.field, .int .i64 x.width, .int .i64 x.cls] [x] := ⟨rfl, fun j y h => by
  obtain ⟨rfl, rfl⟩ : j = 0 ∧ y = x := by
    cases j with
    | zero => simpa [eq_comm] using h
    | succ j => simp at h
  exact ⟨rfl, rfl, rfl, rfl, rfl⟩⟩
theorem PartC.ones {w : World} {cs : List Value} {xs : List Part} (h : PartC w cs xs) : ∀ u ∈ cs, u.oneCell' = true := by
  intro u hu
  obtain ⟨i, hi⟩ := List.getElem?_of_mem hu
  have hil := (List.getElem?_eq_some_iff.1 hi).1
  rw [h.1] at hil
  have hj : i / 5 < xs.length := by omega
  obtain ⟨h0, h1, h2, h3, h4⟩ := h.2 (i / 5) _ (List.getElem?_eq_getElem hj)
  have hr : i % 5 < 5 := Nat.mod_lt _ (by decide)
  have hd : i = i / 5 * 5 + i % 5 := by omega
  generalize i % 5 = r at *
  rw [hd] at hi
  match r, hr with
  | 0, _ => rw [h0] at hi; obtain rfl := Option.some.inj hi; rfl
  | 1, _ => rw [h1] at hi; obtain rfl := Option.some.inj hi; rfl
  | 2, _ => rw [h2] at hi; obtain rfl := Option.some.inj hi; rfl
  | 3, _ => rw [h3] at hi; obtain rfl := Option.some.inj hi; rfl
  | 4, _ => rw [h4] at hi; obtain rfl := Option.some.inj hi; rfl
theorem info_Part : (Tryz.prog.info? 51).map (fun i => (i.zero, i.size, i.bytes)) = some (some (.agg #[.int .i64 0, .string ⟨#[]⟩, .int .i64 0, .int .i64 0, .int .i64 0]), 5, 48) := by kernel_rfl
theorem Parts_own {w : World} {B : Nat} {v : Value} {cs : List Value} {xs : List Part} (h : w.ownsRow B 51 5 v xs.length cs) (hc : PartC w cs xs) (hl : xs.length ≤ 1000000) : PartsAt w v xs := by
  obtain ⟨ad, cap, rfl, hn, hcp⟩ := own_shape h
  refine ⟨ad, cap, rfl, hl, ⟨fun e => (hn e).1, hcp⟩, fun j hj => ?_⟩
  obtain ⟨g, cap', e, _, _, hcell⟩ := own_at h (by omega)
  injection e with e1 _ e3
  subst e1 e3
  refine ⟨g, 0, rfl, ?_⟩
  obtain ⟨h0, h1, h2, h3, h4⟩ := hc.2 j _ (Part_at hj)
  exact ⟨by simpa using hcell _ _ h0, by simpa using hcell _ _ h1, by simpa using hcell _ _ h2, by simpa using hcell _ _ h3, by simpa using hcell _ _ h4⟩
theorem Parts_cells {w : World} {v : Value} {xs : List Part} (h : PartsAt w v xs) : ∃ cs, CellsAt w v xs.length 5 cs ∧ PartC w cs xs := by
  obtain ⟨ad, cap, rfl, hl, hnil, hc⟩ := h
  have : ∀ j, j < xs.length → ∃ l : List Value, l.length = 5 ∧ (∀ k u, l[k]? = some u → ∃ g o, ad = some ⟨g, o, none⟩ ∧ w.cell? ⟨g, o + j * 5 + k, none⟩ = some u) ∧ PartC w l [xs.getD j nilPart] := fun j hj => by
    obtain ⟨g, o, e, h0, h1, h2, h3, h4⟩ := hc j hj
    refine ⟨[.int .i64 (xs.getD j nilPart).kind, .string (xs.getD j nilPart).text, .int .i64 (xs.getD j nilPart).field, .int .i64 (xs.getD j nilPart).width, .int .i64 (xs.getD j nilPart).cls], rfl, fun k u hk => ⟨g, o, e, ?_⟩, PartC.one w _⟩
    match k with
    | 0 => simp at hk; subst hk; exact h0
    | 1 => simp at hk; subst hk; exact h1
    | 2 => simp at hk; subst hk; exact h2
    | 3 => simp at hk; subst hk; exact h3
    | 4 => simp at hk; subst hk; exact h4
    | k + 5 => simp at hk
  exact cells_build ad cap 5 (by decide) xs nilPart (fun w cs xs => PartC w cs xs) (PartC.nil w) (fun a b => a.append b) (fun a => a.ones) (fun e => ⟨hnil.1 e, by have := hnil.2; have := hnil.1 e; omega⟩) this
theorem at_oneCellPartsAt {w : World} {v : Value} {xs : List Part} (h : PartsAt w v xs) : v.oneCell' = true := by
  obtain ⟨ad, cap, rfl, _⟩ := h
  rfl

/-- The cells of one, in a row of cells. -/
def StyleC1 (w : World) (cs : List Value) (o : Nat) (x : Style) : Prop := ∃ v0, cs[o + 0]? = some (.int .i64 x.kind) ∧ cs[o + 1]? = some (v0) ∧ PartsAt w v0 x.parts ∧ v0.oneCell' = true
def StyleC (w : World) (cs : List Value) (xs : List Style) : Prop := cs.length = xs.length * 2 ∧ ∀ j x, xs[j]? = some x → StyleC1 w cs (j * 2) x
theorem StyleC.nil (w : World) : StyleC w [] [] := ⟨rfl, fun j x h => by simp at h⟩
theorem StyleC.on {w w' : World} {cs : List Value} {xs : List Style} (h : StyleC w cs xs) (hb : Below w.heap.size w w') : StyleC w' cs xs := ⟨h.1, fun j x hx => by
  obtain ⟨v0, h0, h1, a0, b0⟩ := h.2 j x hx
  exact ⟨v0, h0, h1, a0.on hb, b0⟩⟩
theorem StyleC.append {w : World} {cs ds : List Value} {xs ys : List Style} (h : StyleC w cs xs) (k : StyleC w ds ys) : StyleC w (cs ++ ds) (xs ++ ys) := by
  refine ⟨by rw [List.length_append, List.length_append, h.1, k.1, Nat.add_mul], fun j x hx => ?_⟩
  rcases append_at (ds := ds) h.1 hx with ⟨hh1, hh2⟩ | ⟨i, _, hh1, hh2⟩
  · obtain ⟨v0, h0, h1, a0, b0⟩ := h.2 j x hh1
    exact ⟨v0, (hh2 0 (by decide)).trans h0, (hh2 1 (by decide)).trans h1, a0, b0⟩
  · obtain ⟨v0, h0, h1, a0, b0⟩ := k.2 i x hh1
    exact ⟨v0, (hh2 0).trans h0, (hh2 1).trans h1, a0, b0⟩
theorem StyleC.one (w : World) (x : Style) (v0 : Value) (a0 : PartsAt w v0 x.parts) (b0 : v0.oneCell' = true) : StyleC w [.int .i64 x.kind, v0] [x] := ⟨rfl, fun j y h => by
  obtain ⟨rfl, rfl⟩ : j = 0 ∧ y = x := by
    cases j with
    | zero => simpa [eq_comm] using h
    | succ j => simp at h
  exact ⟨v0, rfl, rfl, a0, b0⟩⟩
theorem StyleC.ones {w : World} {cs : List Value} {xs : List Style} (h : StyleC w cs xs) : ∀ u ∈ cs, u.oneCell' = true := by
  intro u hu
  obtain ⟨i, hi⟩ := List.getElem?_of_mem hu
  have hil := (List.getElem?_eq_some_iff.1 hi).1
  rw [h.1] at hil
  have hj : i / 2 < xs.length := by omega
  obtain ⟨v0, h0, h1, a0, b0⟩ := h.2 (i / 2) _ (List.getElem?_eq_getElem hj)
  have hr : i % 2 < 2 := Nat.mod_lt _ (by decide)
  have hd : i = i / 2 * 2 + i % 2 := by omega
  generalize i % 2 = r at *
  rw [hd] at hi
  match r, hr with
  | 0, _ => rw [h0] at hi; obtain rfl := Option.some.inj hi; rfl
  | 1, _ => rw [h1] at hi; obtain rfl := Option.some.inj hi; exact b0
theorem info_Style : (Tryz.prog.info? 37).map (fun i => (i.zero, i.size, i.bytes)) = some (some (.agg #[.int .i64 0, .slice none 0 0]), 2, 32) := by kernel_rfl
theorem Styles_own {w : World} {B : Nat} {v : Value} {cs : List Value} {xs : List Style} (h : w.ownsRow B 37 2 v xs.length cs) (hc : StyleC w cs xs) (hl : xs.length ≤ 1000000) : StylesAt w v xs := by
  obtain ⟨ad, cap, rfl, hn, hcp⟩ := own_shape h
  refine ⟨ad, cap, rfl, hl, ⟨fun e => (hn e).1, hcp⟩, fun j hj => ?_⟩
  obtain ⟨g, cap', e, _, _, hcell⟩ := own_at h (by omega)
  injection e with e1 _ e3
  subst e1 e3
  refine ⟨g, 0, rfl, ?_⟩
  obtain ⟨v0, h0, h1, a0, b0⟩ := hc.2 j _ (Style_at hj)
  exact ⟨v0, by simpa using hcell _ _ h0, by simpa using hcell _ _ h1, a0⟩
theorem Styles_cells {w : World} {v : Value} {xs : List Style} (h : StylesAt w v xs) : ∃ cs, CellsAt w v xs.length 2 cs ∧ StyleC w cs xs := by
  obtain ⟨ad, cap, rfl, hl, hnil, hc⟩ := h
  have : ∀ j, j < xs.length → ∃ l : List Value, l.length = 2 ∧ (∀ k u, l[k]? = some u → ∃ g o, ad = some ⟨g, o, none⟩ ∧ w.cell? ⟨g, o + j * 2 + k, none⟩ = some u) ∧ StyleC w l [xs.getD j nilStyle] := fun j hj => by
    obtain ⟨g, o, e, v0, h0, h1, a0⟩ := hc j hj
    refine ⟨[.int .i64 (xs.getD j nilStyle).kind, v0], rfl, fun k u hk => ⟨g, o, e, ?_⟩, StyleC.one w _ _ a0 (at_oneCellPartsAt a0)⟩
    match k with
    | 0 => simp at hk; subst hk; exact h0
    | 1 => simp at hk; subst hk; exact h1
    | k + 2 => simp at hk
  exact cells_build ad cap 2 (by decide) xs nilStyle (fun w cs xs => StyleC w cs xs) (StyleC.nil w) (fun a b => a.append b) (fun a => a.ones) (fun e => ⟨hnil.1 e, by have := hnil.2; have := hnil.1 e; omega⟩) this
theorem at_oneCellStylesAt {w : World} {v : Value} {xs : List Style} (h : StylesAt w v xs) : v.oneCell' = true := by
  obtain ⟨ad, cap, rfl, _⟩ := h
  rfl

/-- The cells of one, in a row of cells. -/
def RuleC1 (w : World) (cs : List Value) (o : Nat) (x : Rule) : Prop := ∃ v0 v1, cs[o + 0]? = some (.int .i64 x.lhs) ∧ cs[o + 1]? = some (v0) ∧ cs[o + 2]? = some (.int .i64 x.op) ∧ cs[o + 3]? = some (v1) ∧ cs[o + 4]? = some (.int .i64 x.cost) ∧ Row w v0 x.rhs ∧ Row w v1 x.p ∧ v0.oneCell' = true ∧ v1.oneCell' = true
def RuleC (w : World) (cs : List Value) (xs : List Rule) : Prop := cs.length = xs.length * 5 ∧ ∀ j x, xs[j]? = some x → RuleC1 w cs (j * 5) x
theorem RuleC.nil (w : World) : RuleC w [] [] := ⟨rfl, fun j x h => by simp at h⟩
theorem RuleC.on {w w' : World} {cs : List Value} {xs : List Rule} (h : RuleC w cs xs) (hb : Below w.heap.size w w') : RuleC w' cs xs := ⟨h.1, fun j x hx => by
  obtain ⟨v0, v1, h0, h1, h2, h3, h4, a0, a1, b0, b1⟩ := h.2 j x hx
  exact ⟨v0, v1, h0, h1, h2, h3, h4, a0.on hb, a1.on hb, b0, b1⟩⟩
theorem RuleC.append {w : World} {cs ds : List Value} {xs ys : List Rule} (h : RuleC w cs xs) (k : RuleC w ds ys) : RuleC w (cs ++ ds) (xs ++ ys) := by
  refine ⟨by rw [List.length_append, List.length_append, h.1, k.1, Nat.add_mul], fun j x hx => ?_⟩
  rcases append_at (ds := ds) h.1 hx with ⟨hh1, hh2⟩ | ⟨i, _, hh1, hh2⟩
  · obtain ⟨v0, v1, h0, h1, h2, h3, h4, a0, a1, b0, b1⟩ := h.2 j x hh1
    exact ⟨v0, v1, (hh2 0 (by decide)).trans h0, (hh2 1 (by decide)).trans h1, (hh2 2 (by decide)).trans h2, (hh2 3 (by decide)).trans h3, (hh2 4 (by decide)).trans h4, a0, a1, b0, b1⟩
  · obtain ⟨v0, v1, h0, h1, h2, h3, h4, a0, a1, b0, b1⟩ := k.2 i x hh1
    exact ⟨v0, v1, (hh2 0).trans h0, (hh2 1).trans h1, (hh2 2).trans h2, (hh2 3).trans h3, (hh2 4).trans h4, a0, a1, b0, b1⟩
theorem RuleC.one (w : World) (x : Rule) (v0 : Value) (v1 : Value) (a0 : Row w v0 x.rhs) (a1 : Row w v1 x.p) (b0 : v0.oneCell' = true) (b1 : v1.oneCell' = true) : RuleC w [.int .i64 x.lhs, v0, .int .i64 x.op, v1, .int .i64 x.cost] [x] := ⟨rfl, fun j y h => by
  obtain ⟨rfl, rfl⟩ : j = 0 ∧ y = x := by
    cases j with
    | zero => simpa [eq_comm] using h
    | succ j => simp at h
  exact ⟨v0, v1, rfl, rfl, rfl, rfl, rfl, a0, a1, b0, b1⟩⟩
theorem RuleC.ones {w : World} {cs : List Value} {xs : List Rule} (h : RuleC w cs xs) : ∀ u ∈ cs, u.oneCell' = true := by
  intro u hu
  obtain ⟨i, hi⟩ := List.getElem?_of_mem hu
  have hil := (List.getElem?_eq_some_iff.1 hi).1
  rw [h.1] at hil
  have hj : i / 5 < xs.length := by omega
  obtain ⟨v0, v1, h0, h1, h2, h3, h4, a0, a1, b0, b1⟩ := h.2 (i / 5) _ (List.getElem?_eq_getElem hj)
  have hr : i % 5 < 5 := Nat.mod_lt _ (by decide)
  have hd : i = i / 5 * 5 + i % 5 := by omega
  generalize i % 5 = r at *
  rw [hd] at hi
  match r, hr with
  | 0, _ => rw [h0] at hi; obtain rfl := Option.some.inj hi; rfl
  | 1, _ => rw [h1] at hi; obtain rfl := Option.some.inj hi; exact b0
  | 2, _ => rw [h2] at hi; obtain rfl := Option.some.inj hi; rfl
  | 3, _ => rw [h3] at hi; obtain rfl := Option.some.inj hi; exact b1
  | 4, _ => rw [h4] at hi; obtain rfl := Option.some.inj hi; rfl
theorem info_Rule : (Tryz.prog.info? 120).map (fun i => (i.zero, i.size, i.bytes)) = some (some (.agg #[.int .i64 0, .slice none 0 0, .int .i64 0, .slice none 0 0, .int .i64 0]), 5, 72) := by kernel_rfl
theorem rules_own {w : World} {B : Nat} {v : Value} {cs : List Value} {xs : List Rule} (h : w.ownsRow B 120 5 v xs.length cs) (hc : RuleC w cs xs) (hl : xs.length ≤ 1000000) : RulesOk w v xs := by
  obtain ⟨ad, cap, rfl, hn, hcp⟩ := own_shape h
  refine ⟨⟨ad, cap, rfl, hl, fun j hj => ?_⟩, fun n c e => by injection e with e1 _ e3; rw [← e3]; exact (hn e1).1⟩
  obtain ⟨g, cap', e, _, _, hcell⟩ := own_at h (by omega)
  injection e with e1 _ e3
  subst e1 e3
  refine ⟨g, 0, rfl, ?_⟩
  obtain ⟨v0, v1, h0, h1, h2, h3, h4, a0, a1, _⟩ := hc.2 j _ (rule_at hj)
  exact ⟨v0, v1, by simpa using hcell _ _ h0, by simpa using hcell _ _ h1, by simpa using hcell _ _ h2, by simpa using hcell _ _ h3, by simpa using hcell _ _ h4, a0, a1⟩
theorem row_oneCell {w : World} {v : Value} {xs : List Int} (h : Row w v xs) : v.oneCell' = true := by
  obtain ⟨ad, cap, rfl, _⟩ := h
  rfl
theorem rules_cells {w : World} {v : Value} {xs : List Rule} (h : RulesOk w v xs) : ∃ cs, CellsAt w v xs.length 5 cs ∧ RuleC w cs xs := by
  obtain ⟨⟨ad, cap, rfl, hl, hc⟩, hnil⟩ := h
  have : ∀ j, j < xs.length → ∃ l : List Value, l.length = 5 ∧ (∀ k u, l[k]? = some u → ∃ g o, ad = some ⟨g, o, none⟩ ∧ w.cell? ⟨g, o + j * 5 + k, none⟩ = some u) ∧ RuleC w l [xs.getD j nilRule] := fun j hj => by
    obtain ⟨g, o, e, sv, pv, h0, h1, h2, h3, h4, h5, h6⟩ := hc j hj
    refine ⟨[.int .i64 (xs.getD j nilRule).lhs, sv, .int .i64 (xs.getD j nilRule).op, pv, .int .i64 (xs.getD j nilRule).cost], rfl, fun k u hk => ⟨g, o, e, ?_⟩, RuleC.one w _ _ _ h5 h6 (row_oneCell h5) (row_oneCell h6)⟩
    match k with
    | 0 => simp at hk; subst hk; exact h0
    | 1 => simp at hk; subst hk; exact h1
    | 2 => simp at hk; subst hk; exact h2
    | 3 => simp at hk; subst hk; exact h3
    | 4 => simp at hk; subst hk; exact h4
    | k + 5 => simp at hk
  exact cells_build ad cap 5 (by decide) xs nilRule (fun w cs xs => RuleC w cs xs) (RuleC.nil w) (fun a b => a.append b) (fun a => a.ones) (fun e => ⟨hnil _ _ (by rw [e]), by
    cases hx : xs with
    | nil => rfl
    | cons y ys => obtain ⟨g, o, e2, _⟩ := hc 0 (by rw [hx]; simp); rw [e] at e2; cases e2⟩) this
theorem at_oneCellRulesOk {w : World} {v : Value} {xs : List Rule} (h : RulesOk w v xs) : v.oneCell' = true := by
  obtain ⟨⟨ad, cap, rfl, _⟩, _⟩ := h
  rfl

/-- The cells of one, in a row of cells. -/
def LocaleC1 (w : World) (cs : List Value) (o : Nat) (x : Locale) : Prop := ∃ v0 v1 v2, cs[o + 0]? = some (.string x.id) ∧ cs[o + 1]? = some (.int .i64 x.parent) ∧ cs[o + 2]? = some (.int .i64 x.digits) ∧ cs[o + 3]? = some (v0) ∧ cs[o + 4]? = some (v1) ∧ cs[o + 5]? = some (v2) ∧ EntriesAt w v0 x.lex ∧ RulesOk w v1 x.rules ∧ StylesAt w v2 x.styles ∧ v0.oneCell' = true ∧ v1.oneCell' = true ∧ v2.oneCell' = true
def LocaleC (w : World) (cs : List Value) (xs : List Locale) : Prop := cs.length = xs.length * 6 ∧ ∀ j x, xs[j]? = some x → LocaleC1 w cs (j * 6) x
theorem LocaleC.nil (w : World) : LocaleC w [] [] := ⟨rfl, fun j x h => by simp at h⟩
theorem LocaleC.on {w w' : World} {cs : List Value} {xs : List Locale} (h : LocaleC w cs xs) (hb : Below w.heap.size w w') : LocaleC w' cs xs := ⟨h.1, fun j x hx => by
  obtain ⟨v0, v1, v2, h0, h1, h2, h3, h4, h5, a0, a1, a2, b0, b1, b2⟩ := h.2 j x hx
  exact ⟨v0, v1, v2, h0, h1, h2, h3, h4, h5, a0.on hb, a1.on hb, a2.on hb, b0, b1, b2⟩⟩
theorem LocaleC.append {w : World} {cs ds : List Value} {xs ys : List Locale} (h : LocaleC w cs xs) (k : LocaleC w ds ys) : LocaleC w (cs ++ ds) (xs ++ ys) := by
  refine ⟨by rw [List.length_append, List.length_append, h.1, k.1, Nat.add_mul], fun j x hx => ?_⟩
  rcases append_at (ds := ds) h.1 hx with ⟨hh1, hh2⟩ | ⟨i, _, hh1, hh2⟩
  · obtain ⟨v0, v1, v2, h0, h1, h2, h3, h4, h5, a0, a1, a2, b0, b1, b2⟩ := h.2 j x hh1
    exact ⟨v0, v1, v2, (hh2 0 (by decide)).trans h0, (hh2 1 (by decide)).trans h1, (hh2 2 (by decide)).trans h2, (hh2 3 (by decide)).trans h3, (hh2 4 (by decide)).trans h4, (hh2 5 (by decide)).trans h5, a0, a1, a2, b0, b1, b2⟩
  · obtain ⟨v0, v1, v2, h0, h1, h2, h3, h4, h5, a0, a1, a2, b0, b1, b2⟩ := k.2 i x hh1
    exact ⟨v0, v1, v2, (hh2 0).trans h0, (hh2 1).trans h1, (hh2 2).trans h2, (hh2 3).trans h3, (hh2 4).trans h4, (hh2 5).trans h5, a0, a1, a2, b0, b1, b2⟩
theorem LocaleC.one (w : World) (x : Locale) (v0 : Value) (v1 : Value) (v2 : Value) (a0 : EntriesAt w v0 x.lex) (a1 : RulesOk w v1 x.rules) (a2 : StylesAt w v2 x.styles) (b0 : v0.oneCell' = true) (b1 : v1.oneCell' = true) (b2 : v2.oneCell' = true) : LocaleC w [.string x.id, .int .i64 x.parent, .int .i64 x.digits, v0, v1, v2] [x] := ⟨rfl, fun j y h => by
  obtain ⟨rfl, rfl⟩ : j = 0 ∧ y = x := by
    cases j with
    | zero => simpa [eq_comm] using h
    | succ j => simp at h
  exact ⟨v0, v1, v2, rfl, rfl, rfl, rfl, rfl, rfl, a0, a1, a2, b0, b1, b2⟩⟩
theorem LocaleC.ones {w : World} {cs : List Value} {xs : List Locale} (h : LocaleC w cs xs) : ∀ u ∈ cs, u.oneCell' = true := by
  intro u hu
  obtain ⟨i, hi⟩ := List.getElem?_of_mem hu
  have hil := (List.getElem?_eq_some_iff.1 hi).1
  rw [h.1] at hil
  have hj : i / 6 < xs.length := by omega
  obtain ⟨v0, v1, v2, h0, h1, h2, h3, h4, h5, a0, a1, a2, b0, b1, b2⟩ := h.2 (i / 6) _ (List.getElem?_eq_getElem hj)
  have hr : i % 6 < 6 := Nat.mod_lt _ (by decide)
  have hd : i = i / 6 * 6 + i % 6 := by omega
  generalize i % 6 = r at *
  rw [hd] at hi
  match r, hr with
  | 0, _ => rw [h0] at hi; obtain rfl := Option.some.inj hi; rfl
  | 1, _ => rw [h1] at hi; obtain rfl := Option.some.inj hi; rfl
  | 2, _ => rw [h2] at hi; obtain rfl := Option.some.inj hi; rfl
  | 3, _ => rw [h3] at hi; obtain rfl := Option.some.inj hi; exact b0
  | 4, _ => rw [h4] at hi; obtain rfl := Option.some.inj hi; exact b1
  | 5, _ => rw [h5] at hi; obtain rfl := Option.some.inj hi; exact b2
theorem info_Locale : (Tryz.prog.info? 33).map (fun i => (i.zero, i.size, i.bytes)) = some (some (.agg #[.string ⟨#[]⟩, .int .i64 0, .int .i64 0, .slice none 0 0, .slice none 0 0, .slice none 0 0]), 6, 104) := by kernel_rfl
theorem Locales_own {w : World} {B : Nat} {v : Value} {cs : List Value} {xs : List Locale} (h : w.ownsRow B 33 6 v xs.length cs) (hc : LocaleC w cs xs) (hl : xs.length ≤ 1000000) : LocalesAt w v xs := by
  obtain ⟨ad, cap, rfl, hn, hcp⟩ := own_shape h
  refine ⟨ad, cap, rfl, hl, ⟨fun e => (hn e).1, hcp⟩, fun j hj => ?_⟩
  obtain ⟨g, cap', e, _, _, hcell⟩ := own_at h (by omega)
  injection e with e1 _ e3
  subst e1 e3
  refine ⟨g, 0, rfl, ?_⟩
  obtain ⟨v0, v1, v2, h0, h1, h2, h3, h4, h5, a0, a1, a2, b0, b1, b2⟩ := hc.2 j _ (Locale_at hj)
  exact ⟨v0, v1, v2, by simpa using hcell _ _ h0, by simpa using hcell _ _ h1, by simpa using hcell _ _ h2, by simpa using hcell _ _ h3, by simpa using hcell _ _ h4, by simpa using hcell _ _ h5, a0, a1, a2⟩
theorem Locales_cells {w : World} {v : Value} {xs : List Locale} (h : LocalesAt w v xs) : ∃ cs, CellsAt w v xs.length 6 cs ∧ LocaleC w cs xs := by
  obtain ⟨ad, cap, rfl, hl, hnil, hc⟩ := h
  have : ∀ j, j < xs.length → ∃ l : List Value, l.length = 6 ∧ (∀ k u, l[k]? = some u → ∃ g o, ad = some ⟨g, o, none⟩ ∧ w.cell? ⟨g, o + j * 6 + k, none⟩ = some u) ∧ LocaleC w l [xs.getD j nilLocale] := fun j hj => by
    obtain ⟨g, o, e, v0, v1, v2, h0, h1, h2, h3, h4, h5, a0, a1, a2⟩ := hc j hj
    refine ⟨[.string (xs.getD j nilLocale).id, .int .i64 (xs.getD j nilLocale).parent, .int .i64 (xs.getD j nilLocale).digits, v0, v1, v2], rfl, fun k u hk => ⟨g, o, e, ?_⟩, LocaleC.one w _ _ _ _ a0 a1 a2 (at_oneCellEntriesAt a0) (at_oneCellRulesOk a1) (at_oneCellStylesAt a2)⟩
    match k with
    | 0 => simp at hk; subst hk; exact h0
    | 1 => simp at hk; subst hk; exact h1
    | 2 => simp at hk; subst hk; exact h2
    | 3 => simp at hk; subst hk; exact h3
    | 4 => simp at hk; subst hk; exact h4
    | 5 => simp at hk; subst hk; exact h5
    | k + 6 => simp at hk
  exact cells_build ad cap 6 (by decide) xs nilLocale (fun w cs xs => LocaleC w cs xs) (LocaleC.nil w) (fun a b => a.append b) (fun a => a.ones) (fun e => ⟨hnil.1 e, by have := hnil.2; have := hnil.1 e; omega⟩) this
theorem at_oneCellLocalesAt {w : World} {v : Value} {xs : List Locale} (h : LocalesAt w v xs) : v.oneCell' = true := by
  obtain ⟨ad, cap, rfl, _⟩ := h
  rfl

end Go.Proofs.YtannndpamhgknaaGreatDoor.Bl

/- What is read: rows, element by element; rows of numbers. -/
namespace Go.Proofs.YtannndpamhgknaaGreatDoor.Bl
open Go.RowKit Gr

def setL : List Value → Nat → List Value → List Value
  | L, _, [] => L
  | L, o, u :: us => setL (L.set o u) (o + 1) us
theorem setL_take : ∀ (us L : List Value) (o : Nat), o + us.length ≤ L.length → (setL L o us).take (o + us.length) = L.take o ++ us
  | [], L, o, _ => by simp [setL]
  | u :: us, L, o, h => by
    rw [List.length_cons] at h ⊢
    have := setL_take us (L.set o u) (o + 1) (by rw [List.length_set]; omega)
    rw [show o + (us.length + 1) = o + 1 + us.length by omega]
    unfold setL
    rw [this, List.take_add_one, List.take_set_of_le (Nat.le_refl _), List.getElem?_set_self (by omega)]
    simp
def putL (w : World) (k : Nat) : Nat → List Value → World
  | _, [] => w
  | o, u :: us => putL (w.setCell ⟨k, o, none⟩ u) k (o + 1) us
theorem putL_own {B e size k n cap : Nat} : ∀ (us : List Value) (w : World) (L : List Value) (o : Nat), w.ownsRow B e size (.slice (some ⟨k, 0, none⟩) n cap) n L → (putL w k o us).ownsRow B e size (.slice (some ⟨k, 0, none⟩) n cap) n (setL L o us) ∧ w.grownBy (putL w k o us) (some k)
  | [], w, L, o, h => ⟨h, World.grownBy.refl _ _⟩
  | u :: us, w, L, o, h => by
    obtain ⟨h1, g1⟩ := h.stored o u
    obtain ⟨h2, g2⟩ := putL_own us _ _ (o + 1) h1
    exact ⟨h2, grown_on g1 g2⟩
theorem grown_all : ∀ (us : List Value) (w : World) (k o : Nat), w.grownBy (putL w k o us) (some k)
  | [], _, _, _ => World.grownBy.refl _ _
  | u :: us, w, k, o => grown_on (set_by w k o u) (grown_all us _ _ _)
theorem own_upto {w W : World} {B B' e size k n cap : Nat} {L : List Value} (h : w.ownsRow B e size (.slice (some ⟨k, 0, none⟩) n cap) n L) (u : Up B' w W) (hk : B' ≤ k) : W.ownsRow B e size (.slice (some ⟨k, 0, none⟩) n cap) n L := by
  obtain ⟨h1, h2⟩ := h
  refine ⟨h1, ?_⟩
  rcases h2 with h2 | ⟨g', cap', cur, e', hb, hg, h5⟩
  · exact .inl h2
  · refine .inr ⟨g', cap', cur, e', hb, ?_, h5⟩
    have : k = g' := by injection e' with e1; injection e1 with e1; injection e1
    subst this
    exact (u.block _ hk (Array.getElem?_eq_some_iff.1 hg).1).trans hg
theorem pMany_step {α : Type} {p : Rdr α} {n i : Nat} {r r' r'' : List Int} {xs : List α} {x : α} (h : pMany p n r = (pMany p (n - i) r').bind fun y => some (xs ++ y.1, y.2)) (hi : i < n) (hp : p r' = some (x, r'')) : pMany p n r = (pMany p (n - (i + 1)) r'').bind fun y => some (xs ++ [x] ++ y.1, y.2) := by
  rw [h, show n - i = n - (i + 1) + 1 by omega]
  simp only [pMany, hp, Option.bind_some]
  cases pMany p (n - (i + 1)) r'' with
  | none => rfl
  | some y => simp
theorem pMany_stop {α : Type} {p : Rdr α} {n i : Nat} {r r' : List Int} {xs : List α} (h : pMany p n r = (pMany p (n - i) r').bind fun y => some (xs ++ y.1, y.2)) (hi : i < n) (hp : p r' = none) : pMany p n r = none := by
  rw [h, show n - i = n - (i + 1) + 1 by omega]
  simp only [pMany, hp, Option.bind_none]
theorem pMany_done {α : Type} {p : Rdr α} {n : Nat} {r r' : List Int} {xs : List α} (h : pMany p n r = (pMany p (n - n) r').bind fun y => some (xs ++ y.1, y.2)) : pMany p n r = some (xs, r') := by
  rw [h, Nat.sub_self]
  simp [pMany]
theorem frozen_own {w : World} {B e size k n cap : Nat} {L : List Value} (h : w.ownsRow B e size (.slice (some ⟨k, 0, none⟩) n cap) n L) (j : Nat) : w.frozen? ⟨k, j, none⟩ = false := by
  obtain ⟨_, h2 | ⟨g', cap', cur, e', hb, hg, h5⟩⟩ := h
  · simp at h2
  · have : k = g' := by injection e' with e1; injection e1 with e1; injection e1
    subst this
    exact frozen_of_row _ _ _ _ _ hg
theorem own_has {w : World} {B e size k n cap : Nat} {L : List Value} (h : w.ownsRow B e size (.slice (some ⟨k, 0, none⟩) n cap) n L) (j : Nat) (hj : j < n * size) : ∃ u, w.cell? ⟨k, j, none⟩ = some u := by
  have hl := h.1
  have hn : 0 < n := by
    cases n with
    | zero => rw [Nat.zero_mul] at hj; omega
    | succ n => omega
  obtain ⟨g, cap', e', _, _, h2⟩ := own_at h hn
  have : k = g := by injection e' with e1; injection e1 with e1; injection e1
  subst this
  exact ⟨L[j], h2 j _ (List.getElem?_eq_getElem (by omega))⟩
def IntC (_ : World) (cs : List Value) (xs : List Int) : Prop := cs = xs.map (Value.int .i64)
theorem ints_own {w : World} {B k n : Nat} {cs : List Value} {xs : List Int} (h : w.ownsRow B 3 1 (.slice (some ⟨k, 0, none⟩) n n) n cs) (hc : IntC w cs xs) (hn : xs.length = n) (hl : n ≤ 1000000) : Row w (.slice (some ⟨k, 0, none⟩) n n) xs := by
  subst hn
  refine ⟨_, _, rfl, by unfold maxLen; omega, fun j hj => ⟨_, rfl, ?_⟩⟩
  obtain ⟨g, cap, e, _, _, h2⟩ := own_at h (by omega)
  have : k = g := by injection e with e1; injection e1 with e1; injection e1
  subst this
  rw [Addr.add_lit, Nat.zero_add]
  refine h2 j _ ?_
  rw [hc, List.getElem?_map, getD_at hj]
  rfl

end Go.Proofs.YtannndpamhgknaaGreatDoor.Bl

/- A locale with what it has of its Parents: what the reference's 'at' answers. -/
namespace Go.Proofs.YtannndpamhgknaaGreatDoor.Bl
open Go.RowKit Gr

def lexUp (ls : List Locale) (l : List Int) : List Entry := l.flatMap fun k => (ls.getD k.toNat nilLocale).lex
def stylesUp (ls : List Locale) (l : List Int) : List Style := l.flatMap fun k => (ls.getD k.toNat nilLocale).styles
/-- A locale, resolved. -/
def resOf (ls : List Locale) (i : Nat) : Locale := { ls.getD i nilLocale with lex := lexUp ls (chainOf ls i), rules := rulesOf ls i, styles := stylesUp ls (chainOf ls i) }
theorem chainUp_fuel (ls : List Locale) (i : Nat) (hp : Par ls i) : ∀ (f f' : Nat) (a : Int), a ≤ i → a < f → a < f' → chainUp ls f a = chainUp ls f' a
  | 0, f', a, _, h1, _ => by rw [chainUp_neg ls 0 a (by omega), chainUp_neg ls f' a (by omega)]
  | f + 1, 0, a, _, _, h2 => by rw [chainUp_neg ls 0 a (by omega), chainUp_neg ls (f + 1) a (by omega)]
  | f + 1, f' + 1, a, ha, h1, h2 => by
    by_cases h0 : a < 0
    · rw [chainUp_neg ls _ a h0, chainUp_neg ls _ a h0]
    · obtain ⟨k, rfl⟩ : ∃ k : Nat, a = (k : Int) := ⟨a.toNat, by omega⟩
      have := hp k (by omega)
      rw [chainUp_nat, chainUp_nat, chainUp_fuel ls i hp f f' _ (by omega) (by omega) (by omega)]
theorem chainOf_root (ls : List Locale) (i : Nat) (h : (ls.getD i nilLocale).parent < 0) : chainOf ls i = [(i : Int)] := by
  unfold chainOf
  rw [chainUp_nat, chainUp_neg ls _ _ h]
  rfl
theorem chainOf_step (ls : List Locale) (i p : Nat) (hp : Par ls i) (h : (ls.getD i nilLocale).parent = (p : Int)) : chainOf ls i = chainOf ls p ++ [(i : Int)] := by
  have h1 := hp i (Nat.le_refl _)
  unfold chainOf
  rw [chainUp_nat, h, List.reverse_cons, chainUp_fuel ls i hp i (p + 1) p (by omega) (by omega) (by omega)]
theorem resOf_root (ls : List Locale) (i : Nat) (h : (ls.getD i nilLocale).parent < 0) : resOf ls i = ls.getD i nilLocale := by
  unfold resOf rulesOf lexUp stylesUp
  rw [chainOf_root ls i h]
  simp
theorem resOf_step (ls : List Locale) (i p : Nat) (hp : Par ls i) (h : (ls.getD i nilLocale).parent = (p : Int)) : resOf ls i = { ls.getD i nilLocale with lex := (resOf ls p).lex ++ (ls.getD i nilLocale).lex, rules := (resOf ls p).rules ++ (ls.getD i nilLocale).rules, styles := (resOf ls p).styles ++ (ls.getD i nilLocale).styles } := by
  unfold resOf rulesOf lexUp stylesUp
  rw [chainOf_step ls i p hp h]
  simp
theorem resOf_length (ls : List Locale) (hS : Small ls) : ∀ (l : List Int), (lexUp ls l).length ≤ 10000 * l.length ∧ (stylesUp ls l).length ≤ 10000 * l.length
  | [] => by simp [lexUp, stylesUp]
  | k :: l => by
    have h1 := hS.at k.toNat
    have h2 := resOf_length ls hS l
    have h3 : lexUp ls (k :: l) = (ls.getD k.toNat nilLocale).lex ++ lexUp ls l := rfl
    have h4 : stylesUp ls (k :: l) = (ls.getD k.toNat nilLocale).styles ++ stylesUp ls l := rfl
    rw [h3, h4, List.length_append, List.length_append, List.length_cons]
    omega
theorem resOf_small (ls : List Locale) (hS : Small ls) (i : Nat) (hi : i < 10) : (resOf ls i).lex.length ≤ 100000 ∧ (resOf ls i).rules.length ≤ 100000 ∧ (resOf ls i).styles.length ≤ 100000 := by
  have h1 := resOf_length ls hS (chainOf ls i)
  have h2 := rulesUp_length ls hS (chainOf ls i)
  have h3 := chainOf_length ls i
  have h4 : (resOf ls i).lex = lexUp ls (chainOf ls i) := rfl
  have h5 : (resOf ls i).rules = rulesUp ls (chainOf ls i) := rfl
  have h6 : (resOf ls i).styles = stylesUp ls (chainOf ls i) := rfl
  rw [h4, h5, h6]
  omega
/-- An empty row, just made. -/
theorem own_made (w : World) (e : TypeId) (size B g : Nat) (hB : B ≤ w.heap.size) (hg : g = w.heap.size) : (w.alloc (.cells #[] e)).ownsRow B e size (.slice (some ⟨g, 0, none⟩) 0 0) 0 [] := by
  subst hg
  exact ⟨by simp, .inr ⟨_, 0, #[], rfl, hB, row_new w _, Nat.le_refl _, by unfold maxLen; omega, by simp, by simp⟩⟩
theorem frozen_on {w w' : World} {g c : Nat} (hb : Below w.heap.size w w') (hg : g < w.heap.size) (h : w.frozen? ⟨g, c, none⟩ = false) : w'.frozen? ⟨g, c, none⟩ = false := by
  have := hb.block g hg
  unfold World.frozen? at *
  rw [this]
  exact h

theorem key_cut4 {T : Prop} {α β γ δ : Type} (F : α → β → γ → δ → Prop) {P : α → β → γ → δ → Prop} (rest : (∀ a b c d, F a b c d → P a b c d) → T) (key : ∀ a b c d, F a b c d → P a b c d) : T := rest key
theorem set6_heap {w : World} {g : Nat} {t : TypeId} {z0 z1 z2 z3 z4 z5 : Value} (h : w.heap[g]? = some (.cells #[z0, z1, z2, z3, z4, z5] t (0, 0))) (u0 u1 u2 u3 u4 u5 : Value) : ((((((w.setCell ⟨g, 0, none⟩ u0).setCell ⟨g, 1, none⟩ u1).setCell ⟨g, 2, none⟩ u2).setCell ⟨g, 3, none⟩ u3).setCell ⟨g, 4, none⟩ u4).setCell ⟨g, 5, none⟩ u5).heap[g]? = some (.cells #[u0, u1, u2, u3, u4, u5] t (0, 0)) :=
  heap_setCell_same _ g 5 _ _ _ (heap_setCell_same _ g 4 _ _ _ (heap_setCell_same _ g 3 _ _ _ (heap_setCell_same _ g 2 _ _ _ (heap_setCell_same _ g 1 _ _ _ (heap_setCell_same _ g 0 _ _ _ h)))))
theorem row_new' (w : World) (o : Obj) (g : Nat) (hg : g = w.heap.size) : (w.alloc o).heap[g]? = some o := by
  subst hg
  exact row_new w o
/-- A row's cells, none of them in block g. -/
def Safe (w : World) (g : Nat) (v : Value) (n size : Nat) (cs : List Value) : Prop := CellsAt w v n size cs ∧ (n = 0 ∨ v.ownBlock ≠ some g)
theorem add_block (a : Addr) (j : Nat) : (a.add j).block = a.block := by unfold Addr.add; split <;> rfl
theorem cells_set {w : World} {g c : Nat} {u v : Value} {n size : Nat} {cs : List Value} (h : CellsAt w v n size cs) (hn : n = 0 ∨ v.ownBlock ≠ some g) : CellsAt (w.setCell ⟨g, c, none⟩ u) v n size cs := by
  obtain ⟨ad, cap, rfl, h2, h3, h4, h5⟩ := h
  refine ⟨ad, cap, rfl, h2, h3, h4, fun j x hj => ?_⟩
  obtain ⟨a, rfl, h6⟩ := h5 j x hj
  refine ⟨a, rfl, ?_⟩
  rw [World.cell?_setCell_far _ _ _ _ (fun e => ?_)]
  · exact h6
  · rw [add_block] at e
    rcases hn with e2 | e2
    · rw [e2, Nat.zero_mul] at h2
      rw [List.length_eq_zero_iff.1 h2] at hj
      simp at hj
    · exact e2 (by show some a.block = some g; rw [← e])
theorem cells_set6 {w : World} {g : Nat} {u0 u1 u2 u3 u4 u5 v : Value} {n size : Nat} {cs : List Value} (h : CellsAt w v n size cs) (hn : n = 0 ∨ v.ownBlock ≠ some g) : CellsAt ((((((w.setCell ⟨g, 0, none⟩ u0).setCell ⟨g, 1, none⟩ u1).setCell ⟨g, 2, none⟩ u2).setCell ⟨g, 3, none⟩ u3).setCell ⟨g, 4, none⟩ u4).setCell ⟨g, 5, none⟩ u5) v n size cs :=
  cells_set (cells_set (cells_set (cells_set (cells_set (cells_set h hn) hn) hn) hn) hn) hn
theorem below_set6 {w0 w : World} {B g : Nat} (h : Below B w0 w) (hg : B ≤ g) (u0 u1 u2 u3 u4 u5 : Value) : Below B w0 ((((((w.setCell ⟨g, 0, none⟩ u0).setCell ⟨g, 1, none⟩ u1).setCell ⟨g, 2, none⟩ u2).setCell ⟨g, 3, none⟩ u3).setCell ⟨g, 4, none⟩ u4).setCell ⟨g, 5, none⟩ u5) :=
  (((((h.setCell (p := ⟨g, 0, none⟩) hg _).setCell (p := ⟨g, 1, none⟩) hg _).setCell (p := ⟨g, 2, none⟩) hg _).setCell (p := ⟨g, 3, none⟩) hg _).setCell (p := ⟨g, 4, none⟩) hg _).setCell (p := ⟨g, 5, none⟩) hg _
theorem own_far {w : World} {B n size : Nat} {e : TypeId} {v : Value} {cs : List Value} (h : w.ownsRow B e size v n cs) {k : Nat} (hk : k < B) : v.ownBlock ≠ some k := fun e => by have := (World.ownsRow.lt h k e).1; omega
theorem Safe.step {w w' : World} {g c : Nat} {u v : Value} {n size : Nat} {cs : List Value} (h : Safe w g v n size cs) (hb : Below w.heap.size w w') : Safe (w'.setCell ⟨g, c, none⟩ u) g v n size cs := ⟨cells_set (h.1.on hb) h.2, h.2⟩
theorem Safe.on {w w' : World} {g : Nat} {v : Value} {n size : Nat} {cs : List Value} (h : Safe w g v n size cs) (hb : Below w.heap.size w w') : Safe w' g v n size cs := ⟨h.1.on hb, h.2⟩
/-- The three variables of a call, as they lie. -/
def Vars (w : World) (g4 g5 g6 : Nat) (A B C : Array Value) : Prop := w.heap[g4]? = some (.cells A 33 (0, 0)) ∧ w.heap[g5]? = some (.cells B 33 (0, 0)) ∧ w.heap[g6]? = some (.cells C 33 (0, 0)) ∧ g4 ≠ g5 ∧ g6 ≠ g5
theorem Vars.lt {w : World} {g4 g5 g6 : Nat} {A B C : Array Value} (h : Vars w g4 g5 g6 A B C) : g4 < w.heap.size ∧ g5 < w.heap.size ∧ g6 < w.heap.size := ⟨(Array.getElem?_eq_some_iff.1 h.1).1, (Array.getElem?_eq_some_iff.1 h.2.1).1, (Array.getElem?_eq_some_iff.1 h.2.2.1).1⟩
theorem Vars.on {w w' : World} {g4 g5 g6 : Nat} {A B C : Array Value} (h : Vars w g4 g5 g6 A B C) (hb : Below w.heap.size w w') : Vars w' g4 g5 g6 A B C := ⟨(hb.block _ h.lt.1).trans h.1, (hb.block _ h.lt.2.1).trans h.2.1, (hb.block _ h.lt.2.2).trans h.2.2.1, h.2.2.2⟩
theorem Vars.set {w : World} {g4 g5 g6 c : Nat} {A B C : Array Value} {u : Value} (h : Vars w g4 g5 g6 A B C) : Vars (w.setCell ⟨g5, c, none⟩ u) g4 g5 g6 A (B.setIfInBounds c u) C :=
  ⟨(Below.heap_setCell _ _ _ _ h.2.2.2.1).trans h.1, heap_setCell_same w g5 c B 33 u h.2.1, (Below.heap_setCell _ _ _ _ h.2.2.2.2).trans h.2.2.1, h.2.2.2⟩
/-- A slice at a plain address, if it has elements. -/
def Plain (v : Value) : Prop := ∃ ad n cap, v = .slice ad n cap ∧ (0 < n → ∃ g o, ad = some ⟨g, o, none⟩)
theorem rules_of_cells {w : World} {v : Value} {cs : List Value} {xs : List Rule} (h : CellsAt w v xs.length 5 cs) (hp : Plain v) (hc : RuleC w cs xs) (hl : xs.length ≤ 1000000) : RulesOk w v xs := by
  obtain ⟨ad, cap, rfl, h2, h3, h4, h5⟩ := h
  obtain ⟨ad', n', cap', e, hpl⟩ := hp
  injection e with e1 e2 e3
  subst e1 e2 e3
  refine ⟨⟨ad, cap, rfl, hl, fun j hj => ?_⟩, fun n c e => by injection e with e1 _ e3; rw [← e3]; exact (h3 e1).1⟩
  obtain ⟨v0, v1, k0, k1, k2, k3, k4, a0, a1, _⟩ := hc.2 j _ (rule_at hj)
  obtain ⟨g, o, ea⟩ := hpl (by omega)
  have cell : ∀ q u, cs[q]? = some u → w.cell? ⟨g, o + q, none⟩ = some u := fun q u hq => by
    obtain ⟨a', ea', g'⟩ := h5 _ _ hq
    obtain rfl := Option.some.inj (ea.symm.trans ea')
    rw [Addr.add_lit] at g'
    exact g'
  exact ⟨g, o, ea, v0, v1, cell _ _ k0, cell _ _ k1, cell _ _ k2, cell _ _ k3, cell _ _ k4, a0, a1⟩

theorem cells_old {w : World} {v : Value} {n size : Nat} {cs : List Value} (h : CellsAt w v n size cs) (hs : 0 < size := by decide) : ∀ k, w.heap.size ≤ k → n = 0 ∨ v.ownBlock ≠ some k := by
  intro k hk
  obtain ⟨ad, cap, rfl, h2, _, _, h5⟩ := h
  by_cases hn : n = 0
  · exact .inl hn
  · have hlt : 0 < cs.length := by rw [h2]; exact Nat.mul_pos (by omega) hs
    obtain ⟨a, rfl, h6⟩ := h5 0 _ (List.getElem?_eq_getElem hlt)
    have := lt_of_cell h6
    rw [add_block] at this
    exact .inr (fun e => by
      have e' : some a.block = some k := e
      injection e' with e'
      omega)
end Go.Proofs.YtannndpamhgknaaGreatDoor.Bl

/- Rows copied: slices.Clone, copyStyle, copyRule. -/
namespace Go.Proofs.YtannndpamhgknaaGreatDoor.Bl
open Go.RowKit Gr

/-- All rows of parts, and of numbers, are as they were. -/
structure Keep (w W : World) : Prop where
  size : w.heap.size ≤ W.heap.size
  row : ∀ (k : Nat) (cs : Array Value) (t : TypeId) (fr : Nat × Nat), (t = 51 ∨ t = 3) → w.heap[k]? = some (Obj.cells cs t fr) → W.heap[k]? = some (Obj.cells cs t fr)
theorem Keep.refl (w : World) : Keep w w := ⟨Nat.le_refl _, fun _ _ _ _ _ h => h⟩
theorem Keep.trans {a b c : World} (h : Keep a b) (k : Keep b c) : Keep a c := ⟨Nat.le_trans h.size k.size, fun i cs t fr ht hi => k.row i cs t fr ht (h.row i cs t fr ht hi)⟩
theorem Keep.up {w w' : World} (hb : Below w.heap.size w w') : Keep w w' := ⟨hb.size, fun k _ _ _ _ h => (hb.block k (Array.getElem?_eq_some_iff.1 h).1).trans h⟩
/-- It holds as long as these rows are as they are. -/
def Stay (w : World) (P : World → Prop) : Prop := ∀ W, Keep w W → P W
theorem Stay.now {w : World} {P : World → Prop} (h : Stay w P) : P w := h w (Keep.refl _)
theorem Stay.step {w w' : World} {P : World → Prop} (h : Stay w P) (k : Keep w w') : Stay w' P := fun W q => h W (k.trans q)
theorem own_keep {w W : World} {B n size : Nat} {e : TypeId} {v : Value} {cs : List Value} (h : w.ownsRow B e size v n cs) (he : e = 51 ∨ e = 3) (k : Keep w W) : W.ownsRow B e size v n cs := by
  obtain ⟨h1, h2 | ⟨g, cap, cur, h2, h3, h4, h5⟩⟩ := h
  · exact ⟨h1, .inl h2⟩
  · exact ⟨h1, .inr ⟨g, cap, cur, h2, h3, k.row _ _ _ _ he h4, h5⟩⟩
/-- Behind a row that grew only rows of that kind are others. -/
theorem kind_grown {w w' : World} {B n size : Nat} {e : TypeId} {v : Value} {xs : List Value} (h : w.ownsRow B e size v n xs) (hg : w.grownBy w' v.ownBlock) {k : Nat} {cs : Array Value} {t : TypeId} {fr : Nat × Nat} (ht : t ≠ e) (hk : w.heap[k]? = some (Obj.cells cs t fr)) : w'.heap[k]? = some (Obj.cells cs t fr) := by
  refine (hg.block k (Array.getElem?_eq_some_iff.1 hk).1 (fun e' => ?_)).trans hk
  obtain ⟨_, ⟨rfl, _⟩ | ⟨g', cap, cur, rfl, _, h5, _⟩⟩ := h
  · cases e'
  · have e2 : some k = some g' := e'
    injection e2 with e2
    subst e2
    rw [h5] at hk
    injection hk with hk
    injection hk with _ hk _
    exact ht hk.symm
theorem Keep.grown {w w' : World} {B n size : Nat} {e : TypeId} {v : Value} {xs : List Value} (h : w.ownsRow B e size v n xs) (hg : w.grownBy w' v.ownBlock) (h1 : 51 ≠ e) (h3 : 3 ≠ e) : Keep w w' := ⟨hg.size, fun k cs t fr ht hk => kind_grown h hg (by rcases ht with rfl | rfl <;> assumption) hk⟩
theorem own_int_row {w : World} {B : Nat} {v : Value} {xs : List Int} (h : w.ownsRow B 3 1 v xs.length (xs.map (Value.int .i64))) (hl : xs.length ≤ 1000000) : Row w v xs := by
  by_cases h0 : 0 < xs.length
  · obtain ⟨g, cap, rfl, _, _, hc⟩ := own_at h h0
    refine ⟨_, _, rfl, by unfold maxLen; omega, fun j hj => ⟨_, rfl, ?_⟩⟩
    rw [Addr.add_lit, Nat.zero_add]
    exact hc j _ (by rw [List.getElem?_map, getD_at hj]; rfl)
  · obtain ⟨ad, cap, rfl, _⟩ := own_shape h
    exact ⟨_, _, rfl, by unfold maxLen; omega, fun j hj => by omega⟩
end Go.Proofs.YtannndpamhgknaaGreatDoor.Bl

/- A locale with what it has of its Parents: package blob's Resolve. -/
namespace Go.Proofs.YtannndpamhgknaaGreatDoor.Bl
open Go.RowKit Gr

theorem own_base {w : World} {B B' n size : Nat} {e : TypeId} {v : Value} {cs : List Value} (h : w.ownsRow B e size v n cs) (hb : B' ≤ B) : w.ownsRow B' e size v n cs := by
  obtain ⟨h1, h2 | ⟨g, cap, cur, h2, h3, h4⟩⟩ := h
  · exact ⟨h1, .inl h2⟩
  · exact ⟨h1, .inr ⟨g, cap, cur, h2, Nat.le_trans hb h3, h4⟩⟩

end Go.Proofs.YtannndpamhgknaaGreatDoor.Bl

/- A locale with what it has of its Parents: package blob's resolve. -/
namespace Go.Proofs.YtannndpamhgknaaGreatDoor.Bl
open Go.RowKit Gr

/-- All blocks but locales' own are as they were. -/
structure KeepL (w W : World) : Prop where
  size : w.heap.size ≤ W.heap.size
  row : ∀ (k : Nat) (cs : Array Value) (t : TypeId) (fr : Nat × Nat), t ≠ 33 → w.heap[k]? = some (Obj.cells cs t fr) → W.heap[k]? = some (Obj.cells cs t fr)
theorem KeepL.refl (w : World) : KeepL w w := ⟨Nat.le_refl _, fun _ _ _ _ _ h => h⟩
theorem KeepL.trans {a b c : World} (h : KeepL a b) (k : KeepL b c) : KeepL a c := ⟨Nat.le_trans h.size k.size, fun i cs t fr ht hi => k.row i cs t fr ht (h.row i cs t fr ht hi)⟩
theorem KeepL.up {w w' : World} (hb : Below w.heap.size w w') : KeepL w w' := ⟨hb.size, fun k _ _ _ _ h => (hb.block k (Array.getElem?_eq_some_iff.1 h).1).trans h⟩
theorem KeepL.keep {w W : World} (h : KeepL w W) : Keep w W := ⟨h.size, fun k cs t fr ht hk => h.row k cs t fr (by rcases ht with rfl | rfl <;> decide) hk⟩
theorem KeepL.put {w W : World} {g : Nat} {cs : Array Value} {fr : Nat × Nat} (hg : w.heap[g]? = some (Obj.cells cs 33 fr)) (hW : w.grownBy W (some g)) : KeepL w W := ⟨hW.size, fun k cs' t' fr' ht hk => by
  by_cases e : k = g
  · subst e
    rw [hg] at hk
    injection hk with hk
    injection hk with _ hk _
    exact absurd hk.symm ht
  · exact (hW.block k (Array.getElem?_eq_some_iff.1 hk).1 (fun e' => e (by injection e'))).trans hk⟩
def Stl (w : World) (P : World → Prop) : Prop := ∀ W, KeepL w W → P W
theorem Stl.now {w : World} {P : World → Prop} (h : Stl w P) : P w := h w (KeepL.refl _)
theorem Stl.step {w w' : World} {P : World → Prop} (h : Stl w P) (k : KeepL w w') : Stl w' P := fun W q => h W (k.trans q)
theorem own_keepL {w W : World} {B n size : Nat} {e : TypeId} {v : Value} {cs : List Value} (h : w.ownsRow B e size v n cs) (he : e ≠ 33) (k : KeepL w W) : W.ownsRow B e size v n cs := by
  obtain ⟨h1, h2 | ⟨g, cap, cur, h2, h3, h4, h5⟩⟩ := h
  · exact ⟨h1, .inl h2⟩
  · exact ⟨h1, .inr ⟨g, cap, cur, h2, h3, k.row _ _ _ _ he h4, h5⟩⟩
end Go.Proofs.YtannndpamhgknaaGreatDoor.Bl

/- A name resolved: package blob's Resolve. -/
namespace Go.Proofs.YtannndpamhgknaaGreatDoor.Bl
open Go.RowKit Gr

theorem results_cell_tmp {fn : Func} {p q : Tmp} {ty : TypeId} (h : fn.results = #[.cell p ty, .tmp q]) (tmps : Array Value) (w : World) (g : Nat) (cs : Array Value)
    (hp : tmps.getD p undef = .pointer (some ⟨g, 0, none⟩)) (hl : (loadVar ty ⟨g, 0, none⟩).run Tryz.prog w = .ok (.agg cs) w) :
    (results fn tmps).run Tryz.prog w = .ok (.tuple #[.agg cs, tmps.getD q undef]) w := by
  have hp' : tmps[p]?.getD undef = .pointer (some ⟨g, 0, none⟩) := by simpa using hp
  simp [results, h, hp', asAddr, hl]

end Go.Proofs.YtannndpamhgknaaGreatDoor.Bl
