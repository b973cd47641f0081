/- Rows of numbers that the call itself makes; one appended to another. -/
import Derived.Test.YtannndpamhgknaaGreatDoorGrRules
import Derived.Maps.AppendAt
import Derived.Deep.RegionLaw
import Derived.Deep.AppendLies
import Derived.Laws.OwnMore
namespace Go.Proofs.YtannndpamhgknaaGreatDoor.Gr
open Go.RowKit

/-- A row of numbers that the call itself made, from block B on. -/
def RowNew (w : World) (B : Nat) (v : Value) (xs : List Int) : Prop := w.ownsRow B 3 1 v xs.length (xs.map (Value.int .i64))
theorem RowNew.row {w : World} {B : Nat} {v : Value} {xs : List Int} (h : RowNew w B v xs) (hx : xs.length ≤ maxLen) : Row w v xs := by
  obtain ⟨_, ⟨rfl, h0⟩ | ⟨g, cap, cur, rfl, _, hg, _, _, _, ht⟩⟩ := h
  · refine ⟨none, 0, by rw [h0], hx, fun j hj => by omega⟩
  · refine ⟨some ⟨g, 0, none⟩, cap, rfl, hx, fun j hj => ⟨_, rfl, ?_⟩⟩
    have e : (⟨g, 0, none⟩ : Addr).add j = ⟨g, j, none⟩ := by simp [Addr.add]; omega
    rw [e, cell_of_row _ _ _ _ _ _ hg]
    have := congrArg (·[j]?) ht
    rw [List.getElem?_take] at this
    simp only [Nat.mul_one, hj, if_true] at this
    rw [← Array.getElem?_toList, this, List.getElem?_map, getD_at hj]
    rfl

theorem RowNew.kept {w w' : World} {B : Nat} {v : Value} {xs : List Int} {row : Option Nat} (h : RowNew w B v xs) (hg : w.grownBy w' row) (hne : v.ownBlock = none ∨ v.ownBlock ≠ row) : RowNew w' B v xs := World.ownsRow.kept h hg hne
theorem RowNew.on {w w' : World} {B : Nat} {v : Value} {xs : List Int} (h : RowNew w B v xs) (hb : Below w.heap.size w w') : RowNew w' B v xs := by
  refine h.kept (row := none) ⟨hb.os, hb.tape, hb.output, hb.size, fun k hk _ => hb.block k hk⟩ ?_
  cases hv : v.ownBlock with
  | none => exact .inl rfl
  | some k => exact .inr (by simp)
theorem RowNew.shape {w : World} {B : Nat} {v : Value} {xs : List Int} (h : RowNew w B v xs) : ∃ ad cap, v = .slice ad xs.length cap := by
  obtain ⟨_, ⟨rfl, h0⟩ | ⟨g, cap, cur, rfl, _⟩⟩ := h
  · exact ⟨none, 0, by rw [h0]⟩
  · exact ⟨_, _, rfl⟩
theorem owns_below {w w' : World} {B n size : Nat} {e : TypeId} {v : Value} {xs : List Value} (h : w.ownsRow B e size v n xs) (hb : Below w.heap.size w w') : w'.ownsRow B e size v n xs := by
  refine h.kept (row := none) ⟨hb.os, hb.tape, hb.output, hb.size, fun k hk _ => hb.block k hk⟩ ?_
  cases hv : v.ownBlock with
  | none => exact .inl rfl
  | some k => exact .inr (by simp)

theorem row_kept {w w' : World} {sv : Value} {xs : List Int} {row : Option Nat} (h : Row w sv xs) (hg : w.grownBy w' row) (ho : xs = [] ∨ sv.ownBlock ≠ row) : Row w' sv xs := by
  obtain ⟨ad, cap, rfl, h0, h2⟩ := h
  refine ⟨ad, cap, rfl, h0, fun j hj => ?_⟩
  obtain ⟨a, rfl, h4⟩ := h2 j hj
  refine ⟨a, rfl, hg.cell h4 ?_⟩
  have e : (a.add j).block = a.block := by
    unfold Addr.add
    split <;> rfl
  rw [e]
  rcases ho with ho | ho
  · subst ho; simp at hj
  · exact ho
theorem row_block {w : World} {sv : Value} {xs : List Int} (h : Row w sv xs) : xs = [] ∨ ∃ g, sv.ownBlock = some g ∧ g < w.heap.size := by
  obtain ⟨ad, cap, rfl, h0, h2⟩ := h
  cases xs with
  | nil => exact .inl rfl
  | cons x xs =>
    obtain ⟨a, rfl, h4⟩ := h2 0 (by simp)
    refine .inr ⟨a.block, rfl, ?_⟩
    have := lt_of_cell h4
    simpa [Addr.add] using this
theorem info_int : (Tryz.prog.info? 3).map (fun i => (i.zero, i.size, i.bytes)) = some (some (.int .i64 0), 1, 8) := by kernel_rfl
theorem row_one (w : World) (x : Int) (g : Nat) (hg : g = w.heap.size) : Row (w.alloc (.cells #[.int .i64 x] 3)) (.slice (some ⟨g, 0, none⟩) 1 1) [x] := by
  subst hg
  refine ⟨_, _, rfl, by unfold maxLen; simp, fun j hj => ⟨_, rfl, ?_⟩⟩
  obtain rfl : j = 0 := by simp at hj; exact hj
  rw [Addr.add_lit, new_cell]; rfl

theorem RowNew.base {w : World} {B B' : Nat} {v : Value} {xs : List Int} (h : RowNew w B v xs) (hb : B' ≤ B) : RowNew w B' v xs := by
  obtain ⟨h1, h2⟩ := h
  refine ⟨h1, ?_⟩
  rcases h2 with h2 | ⟨g, cap, cur, e, h3, h4⟩
  · exact .inl h2
  · exact .inr ⟨g, cap, cur, e, Nat.le_trans hb h3, h4⟩
theorem RowNew.none_cap {w : World} {B : Nat} {v : Value} {xs : List Int} (h : RowNew w B v xs) : ∀ n c, v = .slice none n c → c = 0 := by
  obtain ⟨_, ⟨rfl, h0⟩ | ⟨g, cap, cur, rfl, _⟩⟩ := h
  · intro n c e; simp at e; exact e.2.symm
  · intro n c e; simp at e
theorem RowNew.nil (w : World) (B : Nat) : RowNew w B (.slice none 0 0) [] := World.ownsRow_nil _ _ _ _
theorem row_made (w : World) (B : Nat) (hB : B ≤ w.heap.size) (g : Nat) (hg : g = w.heap.size) : RowNew (w.alloc (.cells #[] 3)) B (.slice (some ⟨g, 0, none⟩) 0 0) [] := by
  subst hg
  exact ⟨rfl, .inr ⟨w.heap.size, 0, #[], rfl, hB, row_new w _, Nat.le_refl _, by unfold maxLen; omega, rfl, rfl⟩⟩
/-- A row of numbers appended to one that the call itself made. -/
theorem run_append_row (w : World) (ty : TypeId) (B : Nat) (v : Value) (xs : List Int) (h : RowNew w B v xs) (xv : Value) (ys : List Int) (hq : Row w xv ys) (hnil : ∀ n c, xv = .slice none n c → c = 0)
    (hl : xs.length + ys.length ≤ 1000000) (hB : B ≤ w.heap.size) :
    ∃ v' w', (Builtin.append_ #[25, 25] ty #[v, xv]).run Tryz.prog w = .ok v' w' ∧ RowNew w' B v' (xs ++ ys) ∧ w.grownBy w' v.ownBlock ∧ (v'.ownBlock = v.ownBlock ∨ v'.ownBlock = some w.heap.size) := by
  obtain ⟨i0, hi, hz0, hz1, hz2⟩ := info_parts info_int
  obtain ⟨ad, cap, rfl, hql, hqc⟩ := hq
  cases ad with
  | none =>
    have hc := hnil _ _ rfl
    subst hc
    have hys : ys = [] := by
      cases ys with
      | nil => rfl
      | cons y ys => obtain ⟨a, e, _⟩ := hqc 0 (by simp); cases e
    subst hys
    refine ⟨v, w, run_append_owned_none (P := Tryz.prog) w B 25 ty 3 i0 1 Tryz.underlying25 hi v xs.length _ h, by simpa using h, World.grownBy.refl _ _, .inl rfl⟩
  | some adr =>
    obtain ⟨v', w', hr, h2, h3, _, h5⟩ := run_append_own_at (P := Tryz.prog) w B 25 ty 3 i0 _ 1 8 Tryz.underlying25 hi hz0 hz1 hz2 rfl (by decide) v xs.length _ h adr ys.length cap (ys.map (Value.int .i64)) (by simp)
      (fun j u hj => by
        rw [List.getElem?_map] at hj
        obtain ⟨y, hy, rfl⟩ := Option.map_eq_some_iff.1 hj
        have hlt := (List.getElem?_eq_some_iff.1 hy).1
        obtain ⟨a, e, h4⟩ := hqc j hlt
        obtain rfl := Option.some.inj e
        rw [h4, List.getD_eq_getElem?_getD, hy]; rfl)
      (fun u hu => by obtain ⟨y, _, rfl⟩ := List.mem_map.1 hu; rfl) (by unfold maxLen; omega) (by omega) hB
    refine ⟨v', w', hr, ?_, h3, h5⟩
    unfold RowNew
    rw [List.length_append, List.map_append]
    exact h2

theorem step_append_row (w : World) {ops : Array Oper} {o : Oper} {a : Act} {K : Act → World → Prop} {Q : Exit → Act → World → Prop} {E : Prop} (hgd : o.guard = none) (s x : Operand)
    (ho : o.op = .call { callee := .builtin .append, args := #[s, x], argTypes := #[25, 25] })
    (B : Nat) (v : Value) (xs : List Int) (hs : a.eval s = v) (h : RowNew w B v xs) (xv : Value) (ys : List Int) (hx : a.eval x = xv) (hq : Row w xv ys) (hnil : ∀ n c, xv = .slice none n c → c = 0)
    (hl : xs.length + ys.length ≤ 1000000) (hB : B ≤ w.heap.size)
    (hK : ∀ v' w', RowNew w' B v' (xs ++ ys) → w.grownBy w' v.ownBlock → (v'.ownBlock = v.ownBlock ∨ v'.ownBlock = some w.heap.size) → K (a.put o.dst v') w') :
    if Region.wanted o (yielded ops a.tmps) = true then Oper.wp Tryz.prog o a w K Q else E := by
  have hw : Region.wanted o (yielded ops a.tmps) = true := by simp [Region.wanted, hgd]
  rw [if_pos hw]
  obtain ⟨v', w', hr, h2, h3, h4⟩ := run_append_row w o.type B v xs h xv ys hq hnil hl hB
  unfold Oper.wp execOp
  simp only [ho, resolve, invoke, builtin, Sem.run_bind, Sem.run_pure, Result.andThen_ok, List.map_toArray, List.map_cons, List.map_nil, hs, hx, hr]
  exact hK v' w' h2 h3 h4

theorem row_take {w : World} {g cap : Nat} {xs : List Int} (h : Row w (.slice (some ⟨g, 0, none⟩) xs.length cap) xs) (k c : Nat) (hk : k ≤ xs.length) : Row w (.slice (some ⟨g, 0, none⟩) k c) (xs.take k) := by
  obtain ⟨ad, cap', e, hl, hc⟩ := h
  simp only [Value.slice.injEq, true_and] at e
  obtain ⟨rfl, rfl⟩ := e
  have hlen : (xs.take k).length = k := by simp; omega
  refine ⟨_, c, by rw [hlen], by omega, fun j hj => ?_⟩
  rw [hlen] at hj
  obtain ⟨a, e, h4⟩ := hc j (by omega)
  refine ⟨a, e, ?_⟩
  rw [h4]
  simp [List.getD_eq_getElem?_getD, hj]
theorem row_drop {w : World} {g cap : Nat} {xs : List Int} (h : Row w (.slice (some ⟨g, 0, none⟩) xs.length cap) xs) (k o n c : Nat) (hk : k ≤ xs.length) (hn : n = xs.length - k) (ho : o = k ∨ n = 0) : Row w (.slice (some ⟨g, o, none⟩) n c) (xs.drop k) := by
  obtain ⟨ad, cap', e, hl, hc⟩ := h
  simp only [Value.slice.injEq, true_and] at e
  obtain ⟨rfl, rfl⟩ := e
  have hlen : (xs.drop k).length = n := by simp; omega
  refine ⟨_, c, by rw [hlen], by omega, fun j hj => ⟨_, rfl, ?_⟩⟩
  rw [hlen] at hj
  obtain ⟨a, e, h4⟩ := hc (k + j) (by omega)
  obtain rfl := Option.some.inj e
  rw [Addr.add_lit] at h4 ⊢
  rcases ho with rfl | h0
  · rw [Nat.zero_add] at h4
    rw [h4]
    simp [List.getD_eq_getElem?_getD]
  · omega
theorem row_nil (w : World) (ad : Option Addr) (c : Nat) : Row w (.slice ad 0 c) [] := ⟨ad, c, rfl, by unfold maxLen; simp, fun j hj => by simp at hj⟩

end Go.Proofs.YtannndpamhgknaaGreatDoor.Gr
