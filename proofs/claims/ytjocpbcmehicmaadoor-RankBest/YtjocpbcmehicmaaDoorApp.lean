/- A row of readings appended to one that the call itself made. -/
import Derived.Test.YtjocpbcmehicmaaDoorMake
import Derived.Maps.AppendAt
namespace Go.Proofs.YtjocpbcmehicmaaDoor
open Go.RowKit

/-- A row of readings to be read, their numbers a call's own. -/
def RS (B : Nat) (w : World) (u : Value) (qs : List (Value × Rd)) : Prop :=
  ((u = .slice none 0 0 ∧ qs = []) ∨ ∃ b o cap, u = .slice (some ⟨b, o, none⟩) qs.length cap ∧ b < w.heap.size ∧ ∀ t x, (rowR qs)[t]? = some x → w.cell? ⟨b, o + t, none⟩ = some x) ∧ ∀ q ∈ qs, NA B w q.1 q.2.v.f
theorem RS.on {B : Nat} {w w' : World} {u : Value} {qs : List (Value × Rd)} (h : RS B w u qs) (hb : Below w.heap.size w w') : RS B w' u qs := by
  refine ⟨?_, fun q hq => (h.2 q hq).on hb⟩
  rcases h.1 with h | ⟨b, o, cap, e, hlt, hc⟩
  · exact .inl h
  · exact .inr ⟨b, o, cap, e, Nat.lt_of_lt_of_le hlt hb.size, fun t x hx => (hb.cell hlt).trans (hc t x hx)⟩
theorem RS.low {B B' : Nat} {w : World} {u : Value} {qs : List (Value × Rd)} (h : RS B w u qs) (hb : B' ≤ B) : RS B' w u qs := ⟨h.1, fun q hq => (h.2 q hq).low hb⟩
theorem RW.rs {B : Nat} {w : World} {v : Value} {ps : List (Value × Rd)} (h : RW B w v ps) : RS B w v ps := by
  refine ⟨?_, fun q hq => (h.nums q hq).1⟩
  obtain ⟨_, ⟨rfl, h0⟩ | ⟨g, cap, cur, rfl, hB, hg, h1, h2, h3, h4⟩⟩ := h.row
  · exact .inl ⟨rfl, List.length_eq_zero_iff.1 h0⟩
  · refine .inr ⟨g, 0, cap, rfl, (Array.getElem?_eq_some_iff.1 hg).1, fun t x hx => ?_⟩
    have ht : t < ps.length * 3 := by have := (List.getElem?_eq_some_iff.1 hx).1; rwa [rowR_len] at this
    rw [Nat.zero_add, cell_of_row hg, ← hx, ← h4, List.getElem?_take, if_pos ht, Array.getElem?_toList]
theorem rowR_at : ∀ (l : List (Value × Rd)) (t : Nat) (x : Value), (rowR l)[t]? = some x → ∃ p, l[t / 3]? = some p ∧ ((t % 3 = 0 ∧ x = .int .i64 p.2.v.kind) ∨ (t % 3 = 1 ∧ x = p.1) ∨ (t % 3 = 2 ∧ x = .int .i64 p.2.cost))
  | [], t, x, h => by simp [rowR] at h
  | q :: l, 0, x, h => ⟨q, rfl, .inl ⟨rfl, by simpa [rowR] using h.symm⟩⟩
  | q :: l, 1, x, h => ⟨q, rfl, .inr (.inl ⟨rfl, by simpa [rowR] using h.symm⟩)⟩
  | q :: l, 2, x, h => ⟨q, rfl, .inr (.inr ⟨rfl, by simpa [rowR] using h.symm⟩)⟩
  | q :: l, t + 3, x, h => by
    obtain ⟨p, h1, h2⟩ := rowR_at l t x (by simpa [rowR] using h)
    refine ⟨p, by rw [show (t + 3) / 3 = t / 3 + 1 by omega]; simpa using h1, ?_⟩
    rw [show (t + 3) % 3 = t % 3 by omega]
    exact h2
theorem RO.rs {B : Nat} {w : World} {v : Value} {xs : List Rd} (h : RO B w v xs) : ∃ qs, qs.map Prod.snd = xs ∧ RS B w v qs := by
  obtain ⟨g, cs, t, cap, rfl, h1, h2, h3, h4⟩ := h
  have key : ∀ j, ∃ fv, j < xs.length → cs[j * 3]? = some (.int .i64 (xs.getD j nilRd).v.kind) ∧ cs[j * 3 + 1]? = some fv ∧ cs[j * 3 + 2]? = some (.int .i64 (xs.getD j nilRd).cost) ∧ NA (g + 1) w fv (xs.getD j nilRd).v.f := fun j => by
    by_cases hj : j < xs.length
    · obtain ⟨fv, h⟩ := h4 j hj
      exact ⟨fv, fun _ => h⟩
    · exact ⟨.slice none 0 0, fun h => absurd h hj⟩
  obtain ⟨f, hf⟩ : ∃ f : Nat → Value, ∀ j, j < xs.length → cs[j * 3]? = some (.int .i64 (xs.getD j nilRd).v.kind) ∧ cs[j * 3 + 1]? = some (f j) ∧ cs[j * 3 + 2]? = some (.int .i64 (xs.getD j nilRd).cost) ∧ NA (g + 1) w (f j) (xs.getD j nilRd).v.f := ⟨fun j => (key j).choose, fun j => (key j).choose_spec⟩
  have hget : ∀ j, ((List.range xs.length).map fun j => (f j, xs.getD j nilRd))[j]? = if j < xs.length then some (f j, xs.getD j nilRd) else none := fun j => by
    rw [List.getElem?_map]
    by_cases hj : j < xs.length
    · rw [List.getElem?_range hj, if_pos hj]; rfl
    · rw [if_neg hj, List.getElem?_eq_none (by simp; omega)]; rfl
  refine ⟨(List.range xs.length).map fun j => (f j, xs.getD j nilRd), ?_, ?_, fun q hq => ?_⟩
  · apply List.ext_getElem?
    intro j
    rw [List.getElem?_map, hget]
    by_cases hj : j < xs.length
    · rw [if_pos hj, List.getD_eq_getElem?_getD, List.getElem?_eq_getElem hj]; rfl
    · rw [if_neg hj, List.getElem?_eq_none (by omega)]; rfl
  · refine .inr ⟨g, 0, cap, by simp, (Array.getElem?_eq_some_iff.1 h3).1, fun t x hx => ?_⟩
    obtain ⟨p, hp, hx2⟩ := rowR_at _ t x hx
    rw [hget] at hp
    by_cases hj : t / 3 < xs.length
    · rw [if_pos hj] at hp
      injection hp with hp
      subst hp
      obtain ⟨a, b, c, _⟩ := hf (t / 3) hj
      rw [Nat.zero_add, cell_of_row h3]
      rcases hx2 with ⟨e, rfl⟩ | ⟨e, rfl⟩ | ⟨e, rfl⟩
      · rw [show t = t / 3 * 3 by omega]; rw [show t / 3 * 3 / 3 = t / 3 by omega]; exact a
      · rw [show t = t / 3 * 3 + 1 by omega]; rw [show (t / 3 * 3 + 1) / 3 = t / 3 by omega]; exact b
      · rw [show t = t / 3 * 3 + 2 by omega]; rw [show (t / 3 * 3 + 2) / 3 = t / 3 by omega]; exact c
    · rw [if_neg hj] at hp; cases hp
  · obtain ⟨j, hj, rfl⟩ := List.mem_map.1 hq
    exact (hf j (List.mem_range.1 hj)).2.2.2.low (by omega)

theorem rowR_app2 : ∀ (l m : List (Value × Rd)), rowR (l ++ m) = rowR l ++ rowR m
  | [], _ => rfl
  | q :: l, m => by show _ :: _ :: _ :: rowR (l ++ m) = _; rw [rowR_app2 l m]; rfl
theorem NA.one {B : Nat} {w : World} {v : Value} {xs : List Int} (h : NA B w v xs) : v.oneCell' = true := by
  obtain ⟨ad, cap, e, _⟩ := h.ia.shape
  rw [e]; rfl
/-- Readings appended to a row that the call itself made. -/
theorem run_append_rs {B : Nat} {w : World} {v u : Value} {ps qs : List (Value × Rd)} (ty : TypeId) (h : RW B w v ps) (hs : RS B w u qs) (hne : ∀ q ∈ qs, ∀ b, q.1.ownBlock = some b → v.ownBlock ≠ some b) (hl : ps.length + qs.length ≤ 1000000) (hB : B ≤ w.heap.size) :
    ∃ v' w', (Builtin.append_ #[28, 28] ty #[v, u]).run Tryd.prog w = .ok v' w' ∧ RW B w' v' (ps ++ qs) ∧ (∀ C, C ≤ w.heap.size → (∀ k, v.ownBlock = some k → C ≤ k) → Below C w w') ∧ (v'.ownBlock = v.ownBlock ∨ v'.ownBlock = some w.heap.size) := by
  obtain ⟨i0, hi, hz0, hz1, hz2⟩ := info_parts info_ar
  rcases hs.1 with ⟨rfl, rfl⟩ | ⟨b, o, cap, rfl, hb, hc⟩
  · exact ⟨v, w, run_append_owned_none (P := Tryd.prog) w B 28 ty 36 i0 3 Tryd.underlying28 hi v ps.length _ h.row, by simpa using h, fun _ _ _ => Below.refl _ _, .inl rfl⟩
  · obtain ⟨v', w', hr, h2, h3, _, h5⟩ := run_append_own_at (P := Tryd.prog) w B 28 ty 36 i0 (.agg #[.int .i64 0, .slice none 0 0, .int .i64 0]) 3 40 Tryd.underlying28 hi hz0 hz1 hz2 rfl (by decide) v ps.length _ h.row ⟨b, o, none⟩ qs.length cap (rowR qs) (rowR_len qs)
      (fun j x hj => by
        have e : (⟨b, o, none⟩ : Addr).add j = ⟨b, o + j, none⟩ := by unfold Addr.add; split <;> simp_all
        rw [e]; exact hc j x hj)
      (rowR_one qs fun q hq => (hs.2 q hq).one) (by unfold maxLen; omega) (by omega) hB
    have hbel : (∀ C, C ≤ w.heap.size → (∀ k, v.ownBlock = some k → C ≤ k) → Below C w w') := fun C hC hv => ⟨h3.os, h3.tape, h3.output, h3.size, fun k hk => h3.block k (Nat.lt_of_lt_of_le hk hC) (fun e => by have := hv k e.symm; omega)⟩
    refine ⟨v', w', hr, ⟨by rw [List.length_append, rowR_app2]; exact h2, fun p hp => ?_⟩, hbel, h5⟩
    have key : ∀ {u : Value} {xs : List Int}, NA B w u xs → (∀ b, u.ownBlock = some b → v.ownBlock ≠ some b) → NA B w' u xs ∧ ∀ b, u.ownBlock = some b → v'.ownBlock ≠ some b := by
      intro u xs hu hv
      refine ⟨hu.of_block fun b hb => h3.block b (hu.lt hb).2 (fun e => hv b hb e.symm), fun b hb e => ?_⟩
      rcases h5 with h5 | h5
      · exact hv b hb (by rw [← h5]; exact e)
      · rw [h5] at e
        injection e with e
        have := (hu.lt hb).2
        omega
    rcases List.mem_append.1 hp with hp | hp
    · exact key (h.nums p hp).1 (h.nums p hp).2
    · exact key (hs.2 p hp) (hne p hp)
theorem wpList_append_rs {w : World} {ops : Array Oper} {rest : List Oper} {o : Oper} {a : Act} {Q : Exit → Act → World → Prop} (hgd : o.guard = none) (s x : Operand)
    (ho : o.op = .call { callee := .builtin .append, args := #[s, x], argTypes := #[28, 28] })
    {B : Nat} {v u : Value} {ps qs : List (Value × Rd)} (hs : a.eval s = v) (hx : a.eval x = u) (h : RW B w v ps) (hq : RS B w u qs) (hne : ∀ q ∈ qs, ∀ b, q.1.ownBlock = some b → v.ownBlock ≠ some b) (hl : ps.length + qs.length ≤ 1000000) (hB : B ≤ w.heap.size)
    (hK : ∀ v' w', RW B w' v' (ps ++ qs) → (∀ C, C ≤ w.heap.size → (∀ k, v.ownBlock = some k → C ≤ k) → Below C w w') → (v'.ownBlock = v.ownBlock ∨ v'.ownBlock = some w.heap.size) → wpList Tryd.prog ops Q rest (a.put o.dst v') w') : wpList Tryd.prog ops Q (o :: rest) a w := by
  refine wpList_plain hgd fun _ hK' => ?_
  obtain ⟨v', w', hr, h2, h3, h4⟩ := run_append_rs o.type h hq hne hl hB
  unfold Oper.wp execOp
  simp only [ho, resolve, invoke, builtin, Sem.run_bind, Sem.run_pure, Result.andThen_ok, List.map_toArray, List.map_cons, List.map_nil, hs, hx, hr]
  exact hK' _ _ (hK v' w' h2 h3 h4)
end Go.Proofs.YtjocpbcmehicmaaDoor
