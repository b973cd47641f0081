/- Rows of readings that are read in parts and laid together anew: what an operation of such a region makes, and how long it lasts. -/
import Derived.Test.YtjocpbcmehicmaaDoorAddM
import Derived.Test.YtjocpbcmehicmaaDoorApp
import Derived.Test.YtjocpbcmehicmaaDoorSwap
import Derived.Test.YtjocpbcmehicmaaDoorHead
import Derived.ProofKit
import Derived.BigQuiet
namespace Go.Proofs.YtjocpbcmehicmaaDoor
open Go.RowKit

/-- A row of readings from a block's beginning on, or none; their numbers a call's own. -/
def RB (B : Nat) (w : World) (u : Value) (qs : List (Value × Rd)) : Prop :=
  (∀ q ∈ qs, NA B w q.1 q.2.v.f) ∧ ∃ ad cap, u = .slice ad qs.length cap ∧ qs.length ≤ cap ∧ cap ≤ maxLen ∧
    ((ad = none ∧ cap = 0) ∨ ∃ b, ad = some ⟨b, 0, none⟩ ∧ b < w.heap.size ∧ ∀ t x, (rowR qs)[t]? = some x → w.cell? ⟨b, t, none⟩ = some x)
theorem RB.nil (B : Nat) (w : World) : RB B w (.slice none 0 0) [] := ⟨fun q hq => by simp at hq, none, 0, rfl, Nat.le_refl _, by unfold maxLen; omega, .inl ⟨rfl, rfl⟩⟩
theorem RB.on {B : Nat} {w w' : World} {u : Value} {qs : List (Value × Rd)} (h : RB B w u qs) (hb : Below w.heap.size w w') : RB B w' u qs := by
  obtain ⟨h1, ad, cap, e, h2, h3, h4⟩ := h
  refine ⟨fun q hq => (h1 q hq).on hb, ad, cap, e, h2, h3, ?_⟩
  rcases h4 with h | ⟨b, e, hlt, hc⟩
  · exact .inl h
  · exact .inr ⟨b, e, Nat.lt_of_lt_of_le hlt hb.size, fun t x hx => (hb.cell hlt).trans (hc t x hx)⟩
theorem RW.rb {B : Nat} {w : World} {v : Value} {ps : List (Value × Rd)} (h : RW B w v ps) : RB B w v ps := by
  refine ⟨fun q hq => (h.nums q hq).1, ?_⟩
  obtain ⟨_, ⟨rfl, h0⟩ | ⟨g, cap, cur, rfl, hB, hg, h1, h2, h3, h4⟩⟩ := h.row
  · obtain rfl := List.length_eq_zero_iff.1 h0
    exact ⟨none, 0, rfl, Nat.le_refl _, by unfold maxLen; omega, .inl ⟨rfl, rfl⟩⟩
  · refine ⟨_, cap, rfl, h1, h2, .inr ⟨g, rfl, (Array.getElem?_eq_some_iff.1 hg).1, fun t x hx => ?_⟩⟩
    have ht : t < ps.length * 3 := by have := (List.getElem?_eq_some_iff.1 hx).1; rwa [rowR_len] at this
    rw [cell_of_row hg, ← hx, ← h4, List.getElem?_take, if_pos ht, Array.getElem?_toList]
theorem RB.cell {B : Nat} {w : World} {ad : Option Addr} {n cap : Nat} {qs : List (Value × Rd)} (h : RB B w (.slice ad n cap) qs) {j : Nat} {q : Value × Rd} (hq : qs[j]? = some q) :
    ∃ b, ad = some ⟨b, 0, none⟩ ∧ b < w.heap.size ∧ w.cell? ⟨b, j * 3, none⟩ = some (.int .i64 q.2.v.kind) ∧ w.cell? ⟨b, j * 3 + 1, none⟩ = some q.1 ∧ w.cell? ⟨b, j * 3 + 2, none⟩ = some (.int .i64 q.2.cost) := by
  obtain ⟨h1, ad, cap, e, h2, h3, h4⟩ := h
  injection e with e1 e2 e3
  subst e1 e3
  obtain ⟨a, b, c⟩ := rowR_get qs j q hq
  rcases h4 with ⟨_, h⟩ | ⟨bl, e, hlt, hc⟩
  · have := (List.getElem?_eq_some_iff.1 hq).1; omega
  · exact ⟨bl, e, hlt, hc _ _ a, hc _ _ b, hc _ _ c⟩
theorem rowR_take : ∀ (l : List (Value × Rd)) (k t : Nat) (x : Value), (rowR (l.take k))[t]? = some x → (rowR l)[t]? = some x := by
  intro l k t x h
  rw [← List.take_append_drop k l, rowR_app2]
  rw [List.getElem?_append_left (List.getElem?_eq_some_iff.1 h).1]
  exact h
theorem rowR_drop : ∀ (l : List (Value × Rd)) (k t : Nat) (x : Value), k ≤ l.length → (rowR (l.drop k))[t]? = some x → (rowR l)[k * 3 + t]? = some x := by
  intro l k t x hk h
  have e : (rowR (l.take k)).length = k * 3 := by rw [rowR_len, List.length_take]; omega
  conv => lhs; rw [← List.take_append_drop k l, rowR_app2]
  rw [List.getElem?_append_right (by omega), e, Nat.add_sub_cancel_left]
  exact h
theorem RB.take {B : Nat} {w : World} {ad : Option Addr} {n cap : Nat} {qs : List (Value × Rd)} (h : RB B w (.slice ad n cap) qs) {k : Nat} (hk : k ≤ n) : RS B w (.slice ad k cap) (qs.take k) := by
  obtain ⟨h1, ad, cap, e, h2, h3, h4⟩ := h
  injection e with e1 e2 e3
  subst e1 e2 e3
  refine ⟨?_, fun q hq => h1 q (List.mem_of_mem_take hq)⟩
  rcases h4 with ⟨rfl, h⟩ | ⟨bl, rfl, hlt, hc⟩
  · obtain rfl : k = 0 := by omega
    subst h
    exact .inl ⟨rfl, by simp⟩
  · refine .inr ⟨bl, 0, cap, by rw [List.length_take, Nat.min_eq_left hk], hlt, fun t x hx => ?_⟩
    rw [Nat.zero_add]
    exact hc t x (rowR_take _ _ _ _ hx)
theorem RB.dropS {B : Nat} {w : World} {b n cap : Nat} {qs : List (Value × Rd)} (h : RB B w (.slice (some ⟨b, 0, none⟩) n cap) qs) {k : Nat} (hk : k ≤ n) : RS B w (.slice (some ⟨b, k * 3, none⟩) (n - k) (cap - k)) (qs.drop k) := by
  obtain ⟨h1, ad, cap, e, h2, h3, h4⟩ := h
  injection e with e1 e2 e3
  subst e1 e2 e3
  refine ⟨?_, fun q hq => h1 q (List.mem_of_mem_drop hq)⟩
  rcases h4 with ⟨h, _⟩ | ⟨bl, e, hlt, hc⟩
  · cases h
  · injection e with e
    injection e with e
    subst e
    refine .inr ⟨b, k * 3, cap - k, by rw [List.length_drop], hlt, fun t x hx => hc _ x (rowR_drop _ _ _ _ hk hx)⟩
theorem RB.none {B : Nat} {w : World} {n cap : Nat} {qs : List (Value × Rd)} (h : RB B w (.slice none n cap) qs) : n = 0 ∧ cap = 0 ∧ qs = [] := by
  obtain ⟨h1, ad, cap, e, h2, h3, h4⟩ := h
  injection e with e1 e2 e3
  subst e1 e2 e3
  rcases h4 with ⟨_, h⟩ | ⟨bl, e, _⟩
  · exact ⟨by omega, h, List.length_eq_zero_iff.1 (by omega)⟩
  · cases e

/-- A row just built, of nothing. -/
def Kb (W0 : World) (v : Value) (w : World) : Prop := ∃ g, v = .slice (some ⟨g, 0, none⟩) 0 0 ∧ W0.heap.size ≤ g ∧ w.heap[g]? = some (.cells #[] 36 (0, 0))
/-- A row appended to. -/
def Kr (B : Nat) (W0 : World) (ps : List (Value × Rd)) (v : Value) (w : World) : Prop := RW B w v ps ∧ ∀ b, v.ownBlock = some b → W0.heap.size ≤ b
/-- A row just built, of one. -/
def Ks (W0 : World) (p : Value × Rd) (v : Value) (w : World) : Prop := ∃ g, v = .slice (some ⟨g, 0, none⟩) 1 1 ∧ W0.heap.size ≤ g ∧ w.heap[g]? = some (.cells #[.int .i64 p.2.v.kind, p.1, .int .i64 p.2.cost] 36 (0, 0))
theorem heap_on {w w' : World} {g : Nat} {o : Obj} (hb : Below w.heap.size w w') (h : w.heap[g]? = some o) : w'.heap[g]? = some o := (hb.block g (Array.getElem?_eq_some_iff.1 h).1).trans h
theorem Kb.on {W0 w w' : World} {v : Value} (h : Kb W0 v w) (hb : Below w.heap.size w w') : Kb W0 v w' := by
  obtain ⟨g, e, h1, h2⟩ := h
  exact ⟨g, e, h1, heap_on hb h2⟩
theorem Ks.on {W0 w w' : World} {p : Value × Rd} {v : Value} (h : Ks W0 p v w) (hb : Below w.heap.size w w') : Ks W0 p v w' := by
  obtain ⟨g, e, h1, h2⟩ := h
  exact ⟨g, e, h1, heap_on hb h2⟩
theorem Kr.on {B : Nat} {W0 w w' : World} {ps : List (Value × Rd)} {v : Value} (h : Kr B W0 ps v w) (hb : Below w.heap.size w w') : Kr B W0 ps v w' := ⟨h.1.on hb, h.2⟩
theorem Ks.rs {B : Nat} {W0 w : World} {p : Value × Rd} {v : Value} (h : Ks W0 p v w) (hn : NA B w p.1 p.2.v.f) : RS B w v [p] := by
  obtain ⟨g, e, h1, h2⟩ := h
  refine ⟨.inr ⟨g, 0, 1, e, (Array.getElem?_eq_some_iff.1 h2).1, fun t x hx => ?_⟩, fun q hq => by rw [List.mem_singleton.1 hq]; exact hn⟩
  rw [Nat.zero_add, cell_of_row h2]
  rcases t with _ | _ | _ | t
  · exact hx
  · exact hx
  · exact hx
  · simp [rowR] at hx
/-- Readings appended, and what else stays. -/
theorem run_append_rs2 {B : Nat} {w : World} {v u : Value} {ps qs : List (Value × Rd)} (ty : TypeId) (h : RW B w v ps) (hs : RS B w u qs) (hne : ∀ q ∈ qs, ∀ b, q.1.ownBlock = some b → v.ownBlock ≠ some b) (hl : ps.length + qs.length ≤ 1000000) (hB : B ≤ w.heap.size) :
    ∃ v' w', (Builtin.append_ #[28, 28] ty #[v, u]).run Tryd.prog w = .ok v' w' ∧ RW B w' v' (ps ++ qs) ∧ (∀ C, C ≤ w.heap.size → (∀ k, v.ownBlock = some k → C ≤ k) → Below C w w') ∧ (v'.ownBlock = v.ownBlock ∨ v'.ownBlock = some w.heap.size) ∧ ∀ b, b < w.heap.size → v.ownBlock ≠ some b → w'.heap[b]? = w.heap[b]? := by
  obtain ⟨i0, hi, hz0, hz1, hz2⟩ := info_parts info_ar
  rcases hs.1 with ⟨rfl, rfl⟩ | ⟨b, o, cap, rfl, hb, hc⟩
  · exact ⟨v, w, run_append_owned_none (P := Tryd.prog) w B 28 ty 36 i0 3 Tryd.underlying28 hi v ps.length _ h.row, by simpa using h, fun _ _ _ => Below.refl _ _, .inl rfl, fun _ _ _ => rfl⟩
  · obtain ⟨v', w', hr, h2, h3, _, h5⟩ := run_append_own_at (P := Tryd.prog) w B 28 ty 36 i0 (.agg #[.int .i64 0, .slice none 0 0, .int .i64 0]) 3 40 Tryd.underlying28 hi hz0 hz1 hz2 rfl (by decide) v ps.length _ h.row ⟨b, o, none⟩ qs.length cap (rowR qs) (rowR_len qs)
      (fun j x hj => by
        have e : (⟨b, o, none⟩ : Addr).add j = ⟨b, o + j, none⟩ := by unfold Addr.add; split <;> simp_all
        rw [e]; exact hc j x hj)
      (rowR_one qs fun q hq => (hs.2 q hq).one) (by unfold maxLen; omega) (by omega) hB
    have hbel : (∀ C, C ≤ w.heap.size → (∀ k, v.ownBlock = some k → C ≤ k) → Below C w w') := fun C hC hv => ⟨h3.os, h3.tape, h3.output, h3.size, fun k hk => h3.block k (Nat.lt_of_lt_of_le hk hC) (fun e => by have := hv k e.symm; omega)⟩
    refine ⟨v', w', hr, ⟨by rw [List.length_append, rowR_app2]; exact h2, fun p hp => ?_⟩, hbel, h5, fun b hb hv => h3.block b hb (fun e => hv e.symm)⟩
    have key : ∀ {u : Value} {xs : List Int}, NA B w u xs → (∀ b, u.ownBlock = some b → v.ownBlock ≠ some b) → NA B w' u xs ∧ ∀ b, u.ownBlock = some b → v'.ownBlock ≠ some b := by
      intro u xs hu hv
      refine ⟨hu.of_block fun b hb => h3.block b (hu.lt hb).2 (fun e => hv b hb e.symm), fun b hb e => ?_⟩
      rcases h5 with h5 | h5
      · exact hv b hb (by rw [← h5]; exact e)
      · rw [h5] at e
        injection e with e
        have := (hu.lt hb).2
        omega
    rcases List.mem_append.1 hp with hp | hp
    · exact key (h.nums p hp).1 (h.nums p hp).2
    · exact key (hs.2 p hp) (hne p hp)
/-- A row of one's own from a call on: appended to, from an older row whose numbers are older. -/
theorem Kr.append {B : Nat} {W0 w : World} {v u : Value} {ps qs : List (Value × Rd)} (ty : TypeId) (h : Kr B W0 ps v w) (hs : RS B w u qs) (hq : ∀ q ∈ qs, NA B W0 q.1 q.2.v.f) (hC : Below W0.heap.size W0 w) (hl : ps.length + qs.length ≤ 1000000) (hB : B ≤ W0.heap.size) :
    ∃ v' w', (Builtin.append_ #[28, 28] ty #[v, u]).run Tryd.prog w = .ok v' w' ∧ Kr B W0 (ps ++ qs) v' w' ∧ Below W0.heap.size W0 w' ∧ ∀ b, b < w.heap.size → v.ownBlock ≠ some b → w'.heap[b]? = w.heap[b]? := by
  obtain ⟨v', w', hr, h1, h2, h3, h4⟩ := run_append_rs2 ty h.1 hs (fun q hqq b e => fun e2 => by
    have := ((hq q hqq).lt e).2
    have := h.2 b e2
    omega) hl (Nat.le_trans hB hC.size)
  refine ⟨v', w', hr, ⟨h1, fun b e => ?_⟩, hC.trans (h2 W0.heap.size hC.size h.2), h4⟩
  rcases h3 with h3 | h3
  · exact h.2 b (by rw [← h3]; exact e)
  · rw [h3] at e
    injection e with e
    rw [← e]
    exact hC.size
theorem Kb.kr {B : Nat} {W0 w : World} {v : Value} (h : Kb W0 v w) (hB : B ≤ W0.heap.size) : Kr B W0 [] v w := by
  obtain ⟨g, rfl, h1, h2⟩ := h
  exact ⟨⟨⟨rfl, .inr ⟨g, 0, #[], rfl, Nat.le_trans hB h1, h2, Nat.le_refl _, by unfold maxLen; omega, rfl, rfl⟩⟩, fun p hp => by simp at hp⟩, fun b e => by injection e with e; rw [← e]; exact h1⟩
end Go.Proofs.YtjocpbcmehicmaaDoor
