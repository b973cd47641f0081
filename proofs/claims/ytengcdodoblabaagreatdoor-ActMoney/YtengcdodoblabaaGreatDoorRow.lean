/- Rows of numbers that a call makes: what is appended to them; slices.Grow, slices.Concat. -/
import Derived.Test.YtengcdodoblabaaGreatDoorWays
import Derived.Maps.AppendAt
import Derived.Laws.OwnMore
import Derived.Lib.AppendZerosOnto
namespace Go.Proofs.YtengcdodoblabaaGreatDoor
open Go.RowKit

/-- A row of numbers that the call itself made, from block B on. -/
def RN (w : World) (B : Nat) (v : Value) (xs : List Int) : Prop := w.ownsRow B 3 1 v xs.length (xs.map (Value.int .i64))
theorem RN.nil (w : World) (B : Nat) : RN w B (.slice none 0 0) [] := World.ownsRow_nil _ _ _ _
theorem RN.na {w : World} {B : Nat} {v : Value} {xs : List Int} (h : RN w B v xs) (hl : xs.length ≤ 1000000) : NA B w v xs := by
  obtain ⟨_, ⟨rfl, h0⟩ | ⟨g, cap, cur, rfl, hB, hg, h1, h2, h3, h4⟩⟩ := h
  · exact .inl ⟨List.length_eq_zero_iff.1 h0, rfl⟩
  · refine .inr ⟨g, cap, cur, _, rfl, ⟨hl, h1, h2⟩, hB, hg, fun j hj => ?_⟩
    have := congrArg (·[j]?) h4
    rw [List.getElem?_take] at this
    simp only [Nat.mul_one, hj, if_true] at this
    rw [← Array.getElem?_toList, this, List.getElem?_map, List.getD_eq_getElem?_getD, List.getElem?_eq_getElem hj]
    rfl
theorem RN.on {w w' : World} {B : Nat} {v : Value} {xs : List Int} (h : RN w B v xs) (hb : Below w.heap.size w w') : RN w' B v xs := by
  refine World.ownsRow.kept (row := none) h ⟨hb.os, hb.tape, hb.output, hb.size, fun k hk _ => hb.block k hk⟩ ?_
  cases hv : v.ownBlock with
  | none => exact .inl rfl
  | some k => exact .inr (by simp)
theorem info_int : (Tryz.prog.info? 3).map (fun i => (i.zero, i.size, i.bytes)) = some (some (.int .i64 0), 1, 8) := by kernel_rfl
theorem info_parts {o : Option TypeInfo} {z : Value} {a b : Nat} (h : o.map (fun i => (i.zero, i.size, i.bytes)) = some (some z, a, b)) : ∃ i, o = some i ∧ i.zero = some z ∧ i.size = a ∧ i.bytes = b := by
  obtain ⟨i, h1, h2⟩ := Option.map_eq_some_iff.1 h
  injection h2 with h3 h4
  injection h4 with h4 h5
  exact ⟨i, h1, h3, h4, h5⟩
theorem below_grown {B : Nat} {w w' : World} {v : Value} (hg : w.grownBy w' v.ownBlock) (hB : B ≤ w.heap.size) (hv : ∀ g, v.ownBlock = some g → B ≤ g) : Below B w w' :=
  ⟨hg.os, hg.tape, hg.output, hg.size, fun k hk => hg.block k (Nat.lt_of_lt_of_le hk hB) (fun e => by have := hv k e.symm; omega)⟩
theorem RN.own {w : World} {B : Nat} {v : Value} {xs : List Int} (h : RN w B v xs) : ∀ g, v.ownBlock = some g → B ≤ g := by
  intro g e
  obtain ⟨_, ⟨rfl, h0⟩ | ⟨g', cap, cur, rfl, hB, _⟩⟩ := h
  · cases e
  · injection e with e; rw [← e]; exact hB

/-- A row of numbers appended to one that the call itself made. -/
theorem run_append_ia (w : World) (ty : TypeId) (B : Nat) (v : Value) (xs : List Int) (h : RN w B v xs) (xv : Value) (ys : List Int) (hq : IA w xv ys) (hl : xs.length + ys.length ≤ 1000000) (hB : B ≤ w.heap.size) :
    ∃ v' w', (Builtin.append_ #[22, 22] ty #[v, xv]).run Tryz.prog w = .ok v' w' ∧ RN w' B v' (xs ++ ys) ∧ Below B w w' := by
  obtain ⟨i0, hi, hz0, hz1, hz2⟩ := info_parts info_int
  obtain ⟨ad, cap, rfl, _, hq⟩ := hq
  rcases hq with ⟨rfl, rfl, rfl⟩ | ⟨b, o, rfl, hb, hqc⟩
  · exact ⟨v, w, run_append_owned_none (P := Tryz.prog) w B 22 ty 3 i0 1 Tryz.underlying22 hi v xs.length _ h, by simpa using h, Below.refl _ _⟩
  · obtain ⟨v', w', hr, h2, h3, _, h5⟩ := run_append_own_at (P := Tryz.prog) w B 22 ty 3 i0 _ 1 8 Tryz.underlying22 hi hz0 hz1 hz2 rfl (by decide) v xs.length _ h ⟨b, o, none⟩ ys.length cap (ys.map (Value.int .i64)) (by simp)
      (fun j u hj => by
        rw [List.getElem?_map] at hj
        obtain ⟨y, hy, rfl⟩ := Option.map_eq_some_iff.1 hj
        have hlt := (List.getElem?_eq_some_iff.1 hy).1
        have e : (⟨b, o, none⟩ : Addr).add j = ⟨b, o + j, none⟩ := by unfold Addr.add; split <;> simp_all
        rw [e, hqc j hlt, List.getD_eq_getElem?_getD, hy]; rfl)
      (fun u hu => by obtain ⟨y, _, rfl⟩ := List.mem_map.1 hu; rfl) (by unfold maxLen; omega) (by omega) hB
    refine ⟨v', w', hr, ?_, below_grown h3 hB h.own⟩
    unfold RN
    rw [List.length_append, List.map_append]
    exact h2

theorem grown_zeros (w : World) (n : Nat) (h0 : 0 < n) (h1 : n ≤ 1000) : ∃ G W, (∀ ty, (Builtin.append_ #[22, 3] ty #[.slice none 0 0, .int .i64 n]).run Tryz.prog w = .ok (.slice (some ⟨w.heap.size, 0, none⟩) n G) W) ∧ n ≤ G ∧ G ≤ maxLen ∧
    RN W w.heap.size (.slice (some ⟨w.heap.size, 0, none⟩) 0 G) [] ∧ Below w.heap.size w W := by
  obtain ⟨i0, hi, hz0, hz1, hz2⟩ := info_parts info_int
  have hG1 := grownCap_ge w n 0 3
  have hG2 := grownCap_le_maxLen w n 0 3 (by unfold maxLen; omega)
  have h := fun ty => Lib.run_append_grow_zeros w 22 3 ty 3 i0 (.int .i64 0) .i64 .i64 Tryz.underlying22 Tryz.underlying3 hi hz0 none 0 0 [] (by rw [hz1]; exact run_firstCells_none w.drew 1 0 0 0) n h0 (by omega) (by omega) (by omega) (by rw [hz2]; omega)
      (by rw [Nat.zero_add]; exact growslice_fits (by omega) (by rw [hz2]; omega))
  rw [Nat.zero_add] at h
  refine ⟨_, _, h, hG1, hG2, ?_, up_trans (Below.refl _ _).drew (up_alloc w.drew _)⟩
  refine ⟨rfl, .inr ⟨w.heap.size, _, _, rfl, Nat.le_refl _, new_row w.drew _, Nat.zero_le _, hG2, ?_, rfl⟩⟩
  simp [Builtin.zeroCells, Value.cells]
  omega

set_option maxRecDepth 8000 in
set_option maxHeartbeats 2000000 in
theorem grow_any (w : World) (n : Nat) (h0 : 0 < n) (h1 : n ≤ 1000) :
    Calls Tryz.prog 103 #[.slice none 0 0, .int .i64 n] w fun e w' => ∃ v, e = .returned v ∧ RN w' w.heap.size v [] ∧ Below w.heap.size w w' := by
  obtain ⟨G, W, hr, hG1, hG2, hR, hb⟩ := grown_zeros w n h0 h1
  have HR := hid hR
  have HB := hid hb
  have hn : ¬ ((n : Int) < 0) := by omega
  have hn2 : (n : Int) > 0 := by omega
  have hn3 : wrap64 ((n : Int) - 0) = n := by unfold wrap64; omega
  unfold maxLen at hG2
  clear hR hb
  go_enter Tryz.func103, Tryz.ntmps103
  go_wp2_with (at_builtin; refine Lib.wpList_append_run _ rfl _ _ _ _ rfl _ _ rfl rfl _ _ (hr _) ?_)
  all_goals (go_ret; exact ⟨_, rfl, HR.out, HB.out⟩)

theorem wpList_append_ia (w : World) {ops : Array Oper} {rest : List Oper} {o : Oper} {a : Act} {Q : Exit → Act → World → Prop} (hgd : o.guard = none) (s x : Operand)
    (ho : o.op = .call { callee := .builtin .append, args := #[s, x], argTypes := #[22, 22] })
    (B : Nat) (v : Value) (xs : List Int) (hs : a.eval s = v) (h : RN w B v xs) (xv : Value) (ys : List Int) (hx : a.eval x = xv) (hq : IA w xv ys)
    (hl : xs.length + ys.length ≤ 1000000) (hB : B ≤ w.heap.size)
    (hK : ∀ v' w', RN w' B v' (xs ++ ys) → Below B w w' → wpList Tryz.prog ops Q rest (a.put o.dst v') w') : wpList Tryz.prog ops Q (o :: rest) a w := by
  refine wpList_plain hgd fun _ hK' => ?_
  obtain ⟨v', w', hr, h2, h3⟩ := run_append_ia w o.type B v xs h xv ys hq hl hB
  unfold Oper.wp execOp
  simp only [ho, resolve, invoke, builtin, Sem.run_bind, Sem.run_pure, Result.andThen_ok, List.map_toArray, List.map_cons, List.map_nil, hs, hx, hr]
  exact hK' _ _ (hK v' w' h2 h3)

set_option maxRecDepth 8000 in
set_option maxHeartbeats 2000000 in
theorem concat_any (x1 x2 x3 y1 y2 y3 : Int) (v1 v2 : Value) (b : Nat) (w : World) (h1 : IA w v1 [x1, x2, x3]) (h2 : IA w v2 [y1, y2, y3]) (hb : b < w.heap.size) (c0 : w.cell? ⟨b, 0, none⟩ = some v1) (c1 : w.cell? ⟨b, 1, none⟩ = some v2) :
    Calls Tryz.prog 81 #[.slice (some ⟨b, 0, none⟩) 2 2] w fun e w' => ∃ v, e = .returned v ∧ RN w' w.heap.size v [x1, x2, x3, y1, y2, y3] ∧ Below w.heap.size w w' := by
  have H1 := hid h1
  have H2 := hid h2
  have HG : Hid (∀ w, Calls Tryz.prog 103 #[.slice none 0 0, .int .i64 6] w fun e w' => ∃ v, e = .returned v ∧ RN w' w.heap.size v [] ∧ Below w.heap.size w w') := hid fun w => grow_any w 6 (by decide) (by decide)
  obtain ⟨b1, o1, cap1, rfl, hc1, hm1, hl1⟩ := h1.has3
  obtain ⟨b2, o2, cap2, rfl, hc2, hm2, hl2⟩ := h2.has3
  have C0 := hid c0
  have C1 := hid c1
  clear h1 h2
  go_enter Tryz.func81, Tryz.ntmps81
  go_wp2_with fail
  refine wp_loop_rounds 3 ?_
  rw [rounds_succ]
  go_wp2
  rw [rounds_succ]
  go_wp2
  rw [rounds_succ]
  go_wp2_with fail
  refine (HG.out _).mono ?_
  rintro e w1 ⟨v, rfl, hr, hu⟩
  have HR1 := hid hr
  have HU1 := hid hu
  have c0 := (hu.cell (p := ⟨b, 0, none⟩) hb).trans C0.out
  have c1 := (hu.cell (p := ⟨b, 1, none⟩) hb).trans C1.out
  clear hr hu
  go_wp2_with fail
  refine wp_loop_rounds 3 ?_
  rw [rounds_succ]
  go_wp2_with (at_builtin; refine wpList_append_ia _ rfl (.tmp 31) (.tmp 32) rfl w.heap.size v [] (by simp [Act.eval]) HR1.out (.slice (some ⟨b1, o1, none⟩) 3 cap1) [x1, x2, x3] (by simp [Act.eval]) (H1.out.on HU1.out) (by simp) HU1.out.size ?_; intro v2' w2 hr2 hu2; have HR2 := hid hr2; have HU2 := hid (HU1.out.trans hu2); have c1 := (HU2.out.cell (p := ⟨b, 1, none⟩) hb).trans C1.out; clear hr2 hu2)
  rw [rounds_succ]
  go_wp2_with (at_builtin; refine wpList_append_ia _ rfl (.tmp 31) (.tmp 32) rfl w.heap.size v2' [x1, x2, x3] (by simp [Act.eval]) HR2.out (.slice (some ⟨b2, o2, none⟩) 3 cap2) [y1, y2, y3] (by simp [Act.eval]) (H2.out.on HU2.out) (by simp) HU2.out.size ?_; intro v3' w3 hr3 hu3; have HR3 := hid hr3; have HU3 := hid (HU2.out.trans hu3); clear hr3 hu3)
  rw [rounds_succ]
  go_wp2
  go_ret
  exact ⟨_, rfl, HR3.out, HU3.out⟩
end Go.Proofs.YtengcdodoblabaaGreatDoor
