/- rank's own: a reading whose numbers nobody else has; the row of them. -/
import Derived.Test.YtjocpbcmehicmaaDoorCpt
import Derived.Maps.AppendAt
import Derived.Laws.OwnMore
namespace Go.Proofs.YtjocpbcmehicmaaDoor
open Go.RowKit

/-- A row of numbers of one's own, from block B on. -/
def NA (B : Nat) (w : World) (v : Value) (xs : List Int) : Prop :=
  (xs = [] ∧ v = .slice none 0 0) ∨
  ∃ (b cap : Nat) (cs : Array Value) (t : TypeId), v = .slice (some ⟨b, 0, none⟩) xs.length cap ∧ (xs.length ≤ 1000000 ∧ xs.length ≤ cap ∧ cap ≤ maxLen) ∧ B ≤ b ∧ w.heap[b]? = some (.cells cs t (0, 0)) ∧ ∀ j, j < xs.length → cs[j]? = some (.int .i64 (xs.getD j 0))
theorem NA.ia {B : Nat} {w : World} {v : Value} {xs : List Int} (h : NA B w v xs) : IA w v xs := by
  rcases h with ⟨rfl, rfl⟩ | ⟨b, cap, cs, t, h1, h2, h3, h4, h5⟩
  · exact IA.nil w
  · exact ⟨_, _, h1, h2, .inr ⟨b, 0, rfl, (Array.getElem?_eq_some_iff.1 h4).1, fun j hj => by rw [Nat.zero_add, cell_of_row h4]; exact h5 j hj⟩⟩
theorem NA.on {B : Nat} {w w' : World} {v : Value} {xs : List Int} (h : NA B w v xs) (hb : Below w.heap.size w w') : NA B w' v xs := by
  rcases h with h | ⟨b, cap, cs, t, h1, h2, h3, h4, h5⟩
  · exact .inl h
  · exact .inr ⟨b, cap, cs, t, h1, h2, h3, (hb.block b (Array.getElem?_eq_some_iff.1 h4).1).trans h4, h5⟩
theorem NA.low {B B' : Nat} {w : World} {v : Value} {xs : List Int} (h : NA B w v xs) (hb : B' ≤ B) : NA B' w v xs := by
  rcases h with h | ⟨b, cap, cs, t, h1, h2, h3, h4, h5⟩
  · exact .inl h
  · exact .inr ⟨b, cap, cs, t, h1, h2, Nat.le_trans hb h3, h4, h5⟩
theorem NA.set {B R j : Nat} {w : World} {v u : Value} {xs : List Int} (h : NA B w v xs) (hR : R < B) : NA B (w.setCell ⟨R, j, none⟩ u) v xs := by
  rcases h with h | ⟨b, cap, cs, t, h1, h2, h3, h4, h5⟩
  · exact .inl h
  · exact .inr ⟨b, cap, cs, t, h1, h2, h3, (Below.heap_setCell _ _ _ _ (show b ≠ R by omega)).trans h4, h5⟩
/-- A row of numbers that the call itself made, from block B on. -/
def RN (w : World) (B : Nat) (v : Value) (xs : List Int) : Prop := w.ownsRow B 3 1 v xs.length (xs.map (Value.int .i64))
theorem RN.nil (w : World) (B : Nat) : RN w B (.slice none 0 0) [] := World.ownsRow_nil _ _ _ _
theorem RN.na {w : World} {B : Nat} {v : Value} {xs : List Int} (h : RN w B v xs) (hl : xs.length ≤ 1000000) : NA B w v xs := by
  obtain ⟨_, ⟨rfl, h0⟩ | ⟨g, cap, cur, rfl, hB, hg, h1, h2, h3, h4⟩⟩ := h
  · exact .inl ⟨List.length_eq_zero_iff.1 h0, rfl⟩
  · refine .inr ⟨g, cap, cur, _, rfl, ⟨hl, h1, h2⟩, hB, hg, fun j hj => ?_⟩
    have := congrArg (·[j]?) h4
    rw [List.getElem?_take] at this
    simp only [Nat.mul_one, hj, if_true] at this
    rw [← Array.getElem?_toList, this, List.getElem?_map, List.getD_eq_getElem?_getD, List.getElem?_eq_getElem hj]
    rfl
theorem RN.on {w w' : World} {B : Nat} {v : Value} {xs : List Int} (h : RN w B v xs) (hb : Below w.heap.size w w') : RN w' B v xs := by
  refine World.ownsRow.kept (row := none) h ⟨hb.os, hb.tape, hb.output, hb.size, fun k hk _ => hb.block k hk⟩ ?_
  cases hv : v.ownBlock with
  | none => exact .inl rfl
  | some k => exact .inr (by simp)
theorem info_int : (Tryd.prog.info? 3).map (fun i => (i.zero, i.size, i.bytes)) = some (some (.int .i64 0), 1, 8) := by kernel_rfl
theorem below_grown {B : Nat} {w w' : World} {v : Value} (hg : w.grownBy w' v.ownBlock) (hB : B ≤ w.heap.size) (hv : ∀ g, v.ownBlock = some g → B ≤ g) : Below B w w' :=
  ⟨hg.os, hg.tape, hg.output, hg.size, fun k hk => hg.block k (Nat.lt_of_lt_of_le hk hB) (fun e => by have := hv k e.symm; omega)⟩
theorem RN.own {w : World} {B : Nat} {v : Value} {xs : List Int} (h : RN w B v xs) : ∀ g, v.ownBlock = some g → B ≤ g := by
  intro g e
  obtain ⟨_, ⟨rfl, h0⟩ | ⟨g', cap, cur, rfl, hB, _⟩⟩ := h
  · cases e
  · injection e with e; rw [← e]; exact hB

/-- A row of numbers appended to one that the call itself made. -/
theorem run_append_ia (w : World) (ty : TypeId) (B : Nat) (v : Value) (xs : List Int) (h : RN w B v xs) (xv : Value) (ys : List Int) (hq : IA w xv ys) (hl : xs.length + ys.length ≤ 1000000) (hB : B ≤ w.heap.size) :
    ∃ v' w', (Builtin.append_ #[22, 22] ty #[v, xv]).run Tryd.prog w = .ok v' w' ∧ RN w' B v' (xs ++ ys) ∧ Below B w w' := by
  obtain ⟨i0, hi, hz0, hz1, hz2⟩ := info_parts info_int
  obtain ⟨ad, cap, rfl, _, hq⟩ := hq
  rcases hq with ⟨rfl, rfl, rfl⟩ | ⟨b, o, rfl, hb, hqc⟩
  · exact ⟨v, w, run_append_owned_none (P := Tryd.prog) w B 22 ty 3 i0 1 Tryd.underlying22 hi v xs.length _ h, by simpa using h, Below.refl _ _⟩
  · obtain ⟨v', w', hr, h2, h3, _, h5⟩ := run_append_own_at (P := Tryd.prog) w B 22 ty 3 i0 _ 1 8 Tryd.underlying22 hi hz0 hz1 hz2 rfl (by decide) v xs.length _ h ⟨b, o, none⟩ ys.length cap (ys.map (Value.int .i64)) (by simp)
      (fun j u hj => by
        rw [List.getElem?_map] at hj
        obtain ⟨y, hy, rfl⟩ := Option.map_eq_some_iff.1 hj
        have hlt := (List.getElem?_eq_some_iff.1 hy).1
        have e : (⟨b, o, none⟩ : Addr).add j = ⟨b, o + j, none⟩ := by unfold Addr.add; split <;> simp_all
        rw [e, hqc j hlt, List.getD_eq_getElem?_getD, hy]; rfl)
      (fun u hu => by obtain ⟨y, _, rfl⟩ := List.mem_map.1 hu; rfl) (by unfold maxLen; omega) (by omega) hB
    refine ⟨v', w', hr, ?_, below_grown h3 hB h.own⟩
    unfold RN
    rw [List.length_append, List.map_append]
    exact h2

theorem wpList_append_ia (w : World) {ops : Array Oper} {rest : List Oper} {o : Oper} {a : Act} {Q : Exit → Act → World → Prop} (hgd : o.guard = none) (s x : Operand)
    (ho : o.op = .call { callee := .builtin .append, args := #[s, x], argTypes := #[22, 22] })
    (B : Nat) (v : Value) (xs : List Int) (hs : a.eval s = v) (h : RN w B v xs) (xv : Value) (ys : List Int) (hx : a.eval x = xv) (hq : IA w xv ys)
    (hl : xs.length + ys.length ≤ 1000000) (hB : B ≤ w.heap.size)
    (hK : ∀ v' w', RN w' B v' (xs ++ ys) → Below B w w' → wpList Tryd.prog ops Q rest (a.put o.dst v') w') : wpList Tryd.prog ops Q (o :: rest) a w := by
  refine wpList_plain hgd fun _ hK' => ?_
  obtain ⟨v', w', hr, h2, h3⟩ := run_append_ia w o.type B v xs h xv ys hq hl hB
  unfold Oper.wp execOp
  simp only [ho, resolve, invoke, builtin, Sem.run_bind, Sem.run_pure, Result.andThen_ok, List.map_toArray, List.map_cons, List.map_nil, hs, hx, hr]
  exact hK' _ _ (hK v' w' h2 h3)


theorem row3 {w : World} {b : Nat} {a0 a1 a2 : Value} {t : TypeId} (h : w.heap[b]? = some (.cells #[a0, a1, a2] t (0, 0))) : (w.cell? ⟨b, 0, none⟩ = some a0 ∧ w.cell? ⟨b, 1, none⟩ = some a1 ∧ w.cell? ⟨b, 2, none⟩ = some a2) ∧ w.frozen? ⟨b, 0, none⟩ = false ∧ w.frozen? ⟨b, 1, none⟩ = false ∧ w.frozen? ⟨b, 2, none⟩ = false :=
  ⟨⟨cell_of_row (o := 0) h, cell_of_row (o := 1) h, cell_of_row (o := 2) h⟩, frozen_of_row h, frozen_of_row h, frozen_of_row h⟩
theorem RN.shape {w : World} {B : Nat} {v : Value} {xs : List Int} (h : RN w B v xs) : ∃ ad n cap, v = .slice ad n cap := by
  obtain ⟨_, ⟨rfl, h0⟩ | ⟨g', cap, cur, rfl, hB, _⟩⟩ := h
  · exact ⟨_, _, _, rfl⟩
  · exact ⟨_, _, _, rfl⟩

set_option maxRecDepth 8000 in
set_option maxHeartbeats 2000000 in
theorem own_any (k : Int) (ad : Option Addr) (n cap : Nat) (f : List Int) (c : Int) (w : World) (h : IA w (.slice ad n cap) f) :
    Calls Tryd.prog 37 #[.agg #[.int .i64 k, .slice ad n cap, .int .i64 c]] w fun e w' => ∃ fv, e = .returned (.agg #[.int .i64 k, fv, .int .i64 c]) ∧ NA w.heap.size w' fv f ∧ Below w.heap.size w w' := by
  obtain ⟨w2, hw2⟩ : ∃ w2, w2 = (w.alloc (.cells #[.int .i64 k, .slice ad n cap, .int .i64 c] 50)).alloc (.cells #[.int .i64 0, .slice none 0 0, .int .i64 0] 36) := ⟨_, rfl⟩
  have H := hid (h.on (show Below w.heap.size w w2 by rw [hw2]; exact up_trans (up_alloc _ _) (up_alloc _ _)))
  have HB := hid (show Below w.heap.size w w2 by rw [hw2]; exact up_trans (up_alloc _ _) (up_alloc _ _))
  have X0 := hid (show w2.heap[w.heap.size]? = some (.cells #[.int .i64 k, .slice ad n cap, .int .i64 c] 50 (0, 0)) by rw [hw2, Below.heap_alloc _ _ _ (by simp)]; exact new_row _ _)
  have X1 := hid (show w2.heap[w.heap.size + 1]? = some (.cells #[.int .i64 0, .slice none 0 0, .int .i64 0] 36 (0, 0)) by rw [hw2]; exact heap_alloc2_new _ _ _)
  have hs2 : w2.heap.size = w.heap.size + 2 := by rw [hw2]; simp
  have HL := hid h.shape.choose_spec.choose_spec.2.2.2
  clear h
  go_enter Tryd.func37, Tryd.ntmps37
  go_wp2_with (at_builtin; rw [← hw2]; refine wpList_append_ia _ rfl _ _ rfl w2.heap.size (.slice none 0 0) [] rfl (RN.nil _ _) (.slice ad n cap) f rfl H.out (by simpa using HL.out) (Nat.le_refl _) ?_; intro v' w3 hr hb; have HR := hid hr; have HB3 := hid hb; obtain ⟨ad', n', cap', rfl⟩ := hr.shape; obtain ⟨⟨c0, c1, c2⟩, f0, f1, f2⟩ := row3 ((hb.block w.heap.size (by omega)).trans X0.out); obtain ⟨⟨e0, e1, e2⟩, g0, g1, g2⟩ := row3 ((hb.block (w.heap.size + 1) (by omega)).trans X1.out); clear hr hb)
  have hN := ((((HR.out.na (by simpa using HL.out)).set (R := w.heap.size) (j := 1) (u := .slice ad' n' cap') (by omega)).set (R := w.heap.size + 1) (j := 0) (u := .int .i64 k) (by omega)).set (R := w.heap.size + 1) (j := 1) (u := .slice ad' n' cap') (by omega)).set (R := w.heap.size + 1) (j := 2) (u := .int .i64 c) (by omega)
  rw [List.nil_append] at hN
  have hX := heap_setCell_same _ _ 2 _ _ (.int .i64 c) (heap_setCell_same _ _ 1 _ _ (.slice ad' n' cap') (heap_setCell_same _ _ 0 _ _ (.int .i64 k) ((Below.heap_setCell w3 ⟨w.heap.size, 1, none⟩ (.slice ad' n' cap') (w.heap.size + 1) (by dsimp only; omega)).trans ((HB3.out.block (w.heap.size + 1) (by omega)).trans X1.out))))
  have hBf : Below w.heap.size w w3 := HB.out.trans (HB3.out.mono (by omega))
  exact bodyPost_ret (v := .agg #[.int .i64 k, .slice ad' n' cap', .int .i64 c]) (results_cell_row rfl _ _ (w.heap.size + 1) 36 _ (0, 0) _ rfl hX Tryd.underlying36 rfl (by kernel_rfl)) rfl ⟨_, rfl, hN.low (by omega), (((hBf.setCell (p := ⟨w.heap.size, 1, none⟩) (Nat.le_refl _) _).setCell (p := ⟨w.heap.size + 1, 0, none⟩) (by dsimp only; omega) _).setCell (p := ⟨w.heap.size + 1, 1, none⟩) (by dsimp only; omega) _).setCell (p := ⟨w.heap.size + 1, 2, none⟩) (by dsimp only; omega) _⟩

/-- A row of readings of one's own, from block B on. -/
def RO (B : Nat) (w : World) (v : Value) (xs : List Rd) : Prop :=
  ∃ (g : Nat) (cs : Array Value) (t : TypeId) (cap : Nat), v = .slice (some ⟨g, 0, none⟩) xs.length cap ∧ (xs.length ≤ 1000000 ∧ xs.length ≤ cap ∧ cap ≤ maxLen) ∧ B ≤ g ∧ w.heap[g]? = some (.cells cs t (0, 0)) ∧
    ∀ j, j < xs.length → ∃ fv, cs[j * 3]? = some (.int .i64 (xs.getD j nilRd).v.kind) ∧ cs[j * 3 + 1]? = some fv ∧ cs[j * 3 + 2]? = some (.int .i64 (xs.getD j nilRd).cost) ∧ NA (g + 1) w fv (xs.getD j nilRd).v.f
theorem RO.ra {B : Nat} {w : World} {v : Value} {xs : List Rd} (h : RO B w v xs) : RA w v xs := by
  obtain ⟨g, cs, t, cap, e, h1, h2, h3, h4⟩ := h
  refine ⟨_, cap, e, h1, .inr ⟨g, 0, rfl, (Array.getElem?_eq_some_iff.1 h3).1, fun j hj => ?_⟩⟩
  obtain ⟨fv, c0, c1, c2, hn⟩ := h4 j hj
  rw [Nat.zero_add]
  exact ⟨fv, (cell_of_row h3).trans c0, (cell_of_row h3).trans c1, (cell_of_row h3).trans c2, hn.ia⟩
theorem RO.on {B : Nat} {w w' : World} {v : Value} {xs : List Rd} (h : RO B w v xs) (hb : Below w.heap.size w w') : RO B w' v xs := by
  obtain ⟨g, cs, t, cap, e, h1, h2, h3, h4⟩ := h
  refine ⟨g, cs, t, cap, e, h1, h2, (hb.block g (Array.getElem?_eq_some_iff.1 h3).1).trans h3, fun j hj => ?_⟩
  obtain ⟨fv, c0, c1, c2, hn⟩ := h4 j hj
  exact ⟨fv, c0, c1, c2, hn.on hb⟩
theorem RO.low {B B' : Nat} {w : World} {v : Value} {xs : List Rd} (h : RO B w v xs) (hb : B' ≤ B) : RO B' w v xs := by
  obtain ⟨g, cs, t, cap, e, h1, h2, h3, h4⟩ := h
  exact ⟨g, cs, t, cap, e, h1, Nat.le_trans hb h2, h3, h4⟩

/-- A row under work: the first j are laid. -/
def WK (w : World) (g n j : Nat) (xs : List Rd) : Prop :=
  ∃ cs, w.heap[g]? = some (.cells cs 36 (0, 0)) ∧ cs.size = n * 3 ∧ ∀ i, i < j → ∃ fv, cs[i * 3]? = some (.int .i64 (xs.getD i nilRd).v.kind) ∧ cs[i * 3 + 1]? = some fv ∧ cs[i * 3 + 2]? = some (.int .i64 (xs.getD i nilRd).cost) ∧ NA (g + 1) w fv (xs.getD i nilRd).v.f
theorem WK.on {w w' : World} {g n j : Nat} {xs : List Rd} (h : WK w g n j xs) (hb : Below w.heap.size w w') : WK w' g n j xs := by
  obtain ⟨cs, h1, h2, h3⟩ := h
  refine ⟨cs, (hb.block g (Array.getElem?_eq_some_iff.1 h1).1).trans h1, h2, fun i hi => ?_⟩
  obtain ⟨fv, c0, c1, c2, hn⟩ := h3 i hi
  exact ⟨fv, c0, c1, c2, hn.on hb⟩
theorem WK.cells {w : World} {g n j : Nat} {xs : List Rd} (h : WK w g n j xs) (i : Nat) (hi : i < n * 3) : (∃ z, w.cell? ⟨g, i, none⟩ = some z) ∧ w.frozen? ⟨g, i, none⟩ = false := by
  obtain ⟨cs, h1, h2, _⟩ := h
  refine ⟨?_, frozen_of_row h1⟩
  rw [cell_of_row h1, Array.getElem?_eq_getElem (by omega)]
  exact ⟨_, rfl⟩
theorem WK.put {w : World} {g n j : Nat} {xs : List Rd} (h : WK w g n j xs) (hj : j < n) (k c : Int) (fv : Value) (hk : k = (xs.getD j nilRd).v.kind) (hc : c = (xs.getD j nilRd).cost) (hn : NA (g + 1) w fv (xs.getD j nilRd).v.f) :
    WK (((w.setCell ⟨g, j * 3, none⟩ (.int .i64 k)).setCell ⟨g, j * 3 + 1, none⟩ fv).setCell ⟨g, j * 3 + 2, none⟩ (.int .i64 c)) g n (j + 1) xs := by
  obtain ⟨cs, h1, h2, h3⟩ := h
  subst hk hc
  have hX := heap_setCell_same _ _ (j * 3 + 2) _ _ (.int .i64 (xs.getD j nilRd).cost) (heap_setCell_same _ _ (j * 3 + 1) _ _ fv (heap_setCell_same _ _ (j * 3) _ _ (.int .i64 (xs.getD j nilRd).v.kind) h1))
  have hN : ∀ {u : Value} {l : List Int}, NA (g + 1) w u l → NA (g + 1) (((w.setCell ⟨g, j * 3, none⟩ (.int .i64 (xs.getD j nilRd).v.kind)).setCell ⟨g, j * 3 + 1, none⟩ fv).setCell ⟨g, j * 3 + 2, none⟩ (.int .i64 (xs.getD j nilRd).cost)) u l := fun h => ((h.set (by omega)).set (by omega)).set (by omega)
  refine ⟨_, hX, by simp [h2], fun i hi => ?_⟩
  by_cases e : i = j
  · subst e
    refine ⟨fv, ?_, ?_, ?_, hN hn⟩
    · rw [Array.getElem?_setIfInBounds_ne (by omega), Array.getElem?_setIfInBounds_ne (by omega), Array.getElem?_setIfInBounds_self_of_lt (by omega)]
    · rw [Array.getElem?_setIfInBounds_ne (by omega), Array.getElem?_setIfInBounds_self_of_lt (by simp; omega)]
    · rw [Array.getElem?_setIfInBounds_self_of_lt (by simp; omega)]
  · obtain ⟨fv', c0, c1, c2, hn'⟩ := h3 i (by omega)
    refine ⟨fv', ?_, ?_, ?_, hN hn'⟩
    · rw [Array.getElem?_setIfInBounds_ne (by omega), Array.getElem?_setIfInBounds_ne (by omega), Array.getElem?_setIfInBounds_ne (by omega)]; exact c0
    · rw [Array.getElem?_setIfInBounds_ne (by omega), Array.getElem?_setIfInBounds_ne (by omega), Array.getElem?_setIfInBounds_ne (by omega)]; exact c1
    · rw [Array.getElem?_setIfInBounds_ne (by omega), Array.getElem?_setIfInBounds_ne (by omega), Array.getElem?_setIfInBounds_ne (by omega)]; exact c2

set_option maxRecDepth 8000 in
set_option maxHeartbeats 4000000 in
theorem eachOwn_any {W0 w : World} {g cap : Nat} {d : Array (El W0)} (h : HE w g d) (hs : d.size ≤ 1000000) :
    Calls Tryd.prog 36 #[.slice (some ⟨g, 0, none⟩) d.size cap, .func (.func 37) #[] #[]] w fun e w' => ∃ v, e = .returned v ∧ RO w.heap.size w' v (d.toList.map El.rd) ∧ Below w.heap.size w w' := by
  obtain ⟨i0, hi, hz0, hz1, hz2⟩ := info_parts info_ar
  obtain ⟨n, hn⟩ : ∃ n, n = d.size := ⟨_, rfl⟩
  obtain ⟨xs, hxs⟩ : ∃ xs, xs = d.toList.map El.rd := ⟨_, rfl⟩
  have hget : ∀ i, i < n → d[i]!.rd = xs.getD i nilRd := fun i hi => by
    rw [getElem!_pos d i (by omega), List.getD_eq_getElem?_getD, hxs]
    simp [show i < d.size by omega]
  have hl : xs.length = n := by rw [hxs, hn]; simp
  have H := hid h
  have HG := hid hget
  have HN := hid hn
  have HL := hid hl
  have HC := hid own_any
  rw [← hxs]
  rw [← hn] at hs ⊢
  clear h hxs hget hn hl
  have hmk : ∀ W : World, (Instr.makeSlice 28 (.int .i64 (n : Int)) (.int .i64 (n : Int))).run Tryd.prog W = .ok (.slice (some ⟨W.heap.size, 0, none⟩) n n) (W.alloc (.cells (madeCells #[.int .i64 0, .slice none 0 0, .int .i64 0] (n * 3)) 36)) := by
    intro W
    have := run_make (P := Tryd.prog) W 28 36 i0 (.agg #[.int .i64 0, .slice none 0 0, .int .i64 0]) Tryd.underlying28 hi hz0 .i64 .i64 n n (by omega) (by omega) (by rw [hz2]; omega) (by omega)
    rw [this, hz1]; rfl
  obtain ⟨w1, hw1⟩ : ∃ w1, w1 = w.alloc (.cells (madeCells #[.int .i64 0, .slice none 0 0, .int .i64 0] (n * 3)) 36) := ⟨_, rfl⟩
  have K0 := hid (show WK w1 w.heap.size n 0 xs from ⟨_, by rw [hw1]; exact new_row _ _, by simp [madeCells], fun i hi => by omega⟩)
  have HB1 := hid (show Below w.heap.size w w1 by rw [hw1]; exact up_alloc _ _)
  go_enter Tryd.func36, Tryd.ntmps36
  go_wp2
  rw [← hw1]
  clear hmk hw1
  go_loopw [13] (fun v wr => ∃ (j : Nat), j ≤ n ∧ v = .int .i64 j ∧ Hid (WK wr w.heap.size n j xs) ∧ Hid (Below w.heap.size w wr)) (fun v _ => n - (intOf v).toNat)
  case atStart => exact ⟨0, by omega, rfl, K0, HB1⟩
  case round =>
    obtain ⟨j, hj, rfl, HK, HB⟩ := hrel
    by_cases hlt : j < n
    case pos =>
      have hlt4 : (j : Int) < (n : Int) := by omega
      have hjd : j < d.size := by rw [← HN.out]; exact hlt
      obtain ⟨c0, c1, c2⟩ := H.out.cells j hjd
      have q0 := (HB.out.cell H.out.2.2.1).trans c0
      have q1 := (HB.out.cell H.out.2.2.1).trans c1
      have q2 := (HB.out.cell H.out.2.2.1).trans c2
      clear c0 c1 c2
      have HX := hid (HG.out j hlt)
      have HIA := hid (d[j]!.ia.on H.out.2.2.2)
      obtain ⟨x, hx⟩ : ∃ x, x = d[j]! := ⟨_, rfl⟩
      rw [← hx] at q0 q1 q2 HX HIA
      obtain ⟨fa, fc, hfx, _, _, _⟩ := x.ia.shape
      rw [hfx] at q1 HIA
      clear hx hfx
      have HK1 := hid (show x.rd.v.kind = (xs.getD j nilRd).v.kind by rw [HX.out])
      have HK2 := hid (show x.rd.cost = (xs.getD j nilRd).cost by rw [HX.out])
      have HK3 := hid (show x.rd.v.f = (xs.getD j nilRd).v.f by rw [HX.out])
      generalize x.rd.v.kind = k at *
      generalize x.rd.cost = c at *
      generalize x.rd.v.f = f at *
      generalize f.length = l at *
      go_wp2_with fail
      refine (HC.out k fa l fc f c _ ((HIA.out.on HB.out).on (up_alloc _ _))).mono ?_
      rintro e w2 ⟨fv, rfl, hna, hb2⟩
      obtain ⟨ad', cap', e', _, _, _⟩ := hna.ia.shape
      subst e'
      have hsz : w.heap.size ≤ wr.heap.size := HB.out.size
      have HNA := hid (hna.low (B' := w.heap.size + 1) (by simp; omega))
      have HB2 := hid ((HB.out.trans ((up_alloc wr _).mono hsz)).trans (hb2.mono (by simp; omega)))
      have HK4 := hid ((HK.out.on (up_alloc _ _)).on hb2)
      clear hna hb2
      obtain ⟨⟨z0, y0⟩, f0⟩ := HK4.out.cells (j * 3) (by omega)
      obtain ⟨⟨z1, y1⟩, f1⟩ := HK4.out.cells (j * 3 + 1) (by omega)
      obtain ⟨⟨z2, y2⟩, f2⟩ := HK4.out.cells (j * 3 + 2) (by omega)
      have HP := hid (HK4.out.put hlt k c _ HK1.out HK2.out (by rw [← HK3.out]; exact HNA.out))
      go_wp2
      go_round
      case rel => exact ⟨j + 1, by omega, by simp, HP, hid (((HB2.out.setCell (p := ⟨w.heap.size, j * 3, none⟩) (Nat.le_refl _) _).setCell (p := ⟨w.heap.size, j * 3 + 1, none⟩) (Nat.le_refl _) _).setCell (p := ⟨w.heap.size, j * 3 + 2, none⟩) (Nat.le_refl _) _)⟩
      case measure => simp [intOf]; omega
    case neg =>
      obtain rfl : j = n := by omega
      go_wp2
      go_ret
      obtain ⟨cs, k1, k2, k3⟩ := HK.out
      have hl := HL.out
      exact ⟨_, rfl, ⟨w.heap.size, cs, _, j, by rw [hl]; rfl, ⟨by omega, by omega, by unfold maxLen; omega⟩, Nat.le_refl _, k1, by rw [hl]; exact k3⟩, HB.out⟩
end Go.Proofs.YtjocpbcmehicmaaDoor
