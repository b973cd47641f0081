/- The fields of money; of any value that is right. -/
import Derived.Test.YtannndpamhgknaaGreatDoorXRe2
namespace Go.Proofs.YtannndpamhgknaaGreatDoor
open Go.RowKit Gr Bl

/-- Onto a row that is full: a new row. -/
theorem step_append_fullR (w : World) {ops : Array Oper} {o : Oper} {a : Act} {K : Act → World → Prop} {Q : Exit → Act → World → Prop} {E : Prop} (hgd : o.guard = none) (s x : Operand) (t e : TypeId)
    (ho : o.op = .call { callee := .builtin .append, args := #[s, x], argTypes := #[t, t] }) (z : Value) (size bytes : Nat) (ht : Tryz.prog.underlying t = some (.slice e)) (hi : (Tryz.prog.info? e).map (fun i => (i.zero, i.size, i.bytes)) = some (some z, size, bytes)) (hzs : z.cells.size = size) (hsz : 0 < size) (hby : bytes ≤ 1000)
    (B g n : Nat) (cs : List Value) (hs : a.eval s = .slice (some ⟨g, 0, none⟩) n n) (h : w.ownsRow B e size (.slice (some ⟨g, 0, none⟩) n n) n cs) (xv : Value) (m : Nat) (ds : List Value) (hx : a.eval x = xv) (hq : CellsAt w xv m size ds) (nm : Nat) (hnm : n + m = nm) (hm : 0 < m) (hl : nm ≤ 1000000) (hB : B ≤ w.heap.size)
    (hK : ∀ cap w', w'.ownsRow B e size (.slice (some ⟨w.heap.size, 0, none⟩) nm cap) nm (cs ++ ds) → Below w.heap.size w w' → K (a.put o.dst (.slice (some ⟨w.heap.size, 0, none⟩) nm cap)) w') :
    if Region.wanted o (yielded ops a.tmps) = true then Oper.wp Tryz.prog o a w K Q else E := by
  subst hnm
  have hw : Region.wanted o (yielded ops a.tmps) = true := by simp [Region.wanted, hgd]
  rw [if_pos hw]
  obtain ⟨v', w', hr, h2, h3, h4⟩ := run_append_cells w t e o.type z size bytes ht hi hzs hsz hby B _ n cs h xv m ds hq hl hB
  have hk : ∃ cap, v' = .slice (some ⟨w.heap.size, 0, none⟩) (n + m) cap ∧ Below w.heap.size w w' := by
    obtain ⟨i0, hi0, hz0, hz1, hz2⟩ := info_parts hi
    obtain ⟨ad, cap, rfl, hdl, hnil, hone, hqc⟩ := hq
    cases ad with
    | none => have := (hnil rfl).2; omega
    | some adr =>
      subst hz1 hz2
      have hg := run_append_grow (P := Tryz.prog) w t o.type e i0 z ht hi0 hz0 ⟨g, 0, none⟩ n n cs h.1 (h.cells (g := g) rfl) adr m cap ds hdl (fun j u hj => by
        obtain ⟨a, e, h4⟩ := hqc j u hj
        obtain rfl := Option.some.inj e
        exact h4) (by omega) (by omega) (growslice_fits (by omega) (by
          have : (n + m) * i0.bytes ≤ 1000000 * 1000 := Nat.mul_le_mul hl hby
          omega))
      rw [hr] at hg
      injection hg with e1 e2
      subst e1 e2
      exact ⟨_, rfl, ((Below.refl _ w).drew).alloc (Nat.le_refl _) _⟩
  obtain ⟨cap, rfl, hb⟩ := hk
  unfold Oper.wp execOp
  simp only [ho, resolve, invoke, builtin, Sem.run_bind, Sem.run_pure, Result.andThen_ok, List.map_toArray, List.map_cons, List.map_nil, hs, hx, hr]
  exact hK cap w' h2 hb

/-- Two fields' cells. -/
def twoF (sg1 dg1 sg2 dg2 : List UInt8) : List Value := [.string ⟨sg1.toArray⟩, .string ⟨dg1.toArray⟩, .func (.func 85) #[.agg #[.string ⟨sg1.toArray⟩, .string ⟨dg1.toArray⟩]] #[], .string ⟨sg2.toArray⟩, .string ⟨dg2.toArray⟩, .func (.func 88) #[.agg #[.string ⟨sg2.toArray⟩, .string ⟨dg2.toArray⟩]] #[]]
/-- The values of the region that makes money's fields, operation by operation. -/
def Pm (B b o cap : Nat) (c : Int) (sg1 dg1 sg2 dg2 : List UInt8) (j : Nat) (v : Value) (w : World) : Prop :=
  match j with
  | 0 => v = .slice (some ⟨b, o, none⟩) 2 cap
  | 1 => v = .slice (some ⟨b, o, none⟩) 1 cap
  | 2 => ∃ g, v = .slice (some ⟨g, 0, none⟩) 1 1 ∧ w.ownsRow B 104 3 v 1 (fldCells ⟨nI c, 0⟩)
  | 3 | 4 => v = .agg #[.string ⟨sg1.toArray⟩, .string ⟨dg1.toArray⟩]
  | 5 => v = .func (.func 85) #[.agg #[.string ⟨sg1.toArray⟩, .string ⟨dg1.toArray⟩]] #[]
  | 6 => v = .agg #[.string ⟨sg1.toArray⟩, .string ⟨dg1.toArray⟩, .func (.func 85) #[.agg #[.string ⟨sg1.toArray⟩, .string ⟨dg1.toArray⟩]] #[]]
  | 7 | 8 => v = .agg #[.string ⟨sg2.toArray⟩, .string ⟨dg2.toArray⟩]
  | 9 => v = .func (.func 88) #[.agg #[.string ⟨sg2.toArray⟩, .string ⟨dg2.toArray⟩]] #[]
  | 10 => v = .agg #[.string ⟨sg2.toArray⟩, .string ⟨dg2.toArray⟩, .func (.func 88) #[.agg #[.string ⟨sg2.toArray⟩, .string ⟨dg2.toArray⟩]] #[]]
  | 11 => ∃ g, v = .slice (some ⟨g, 0, none⟩) 2 2 ∧ w.ownsRow B 104 3 v 2 (twoF sg1 dg1 sg2 dg2)
  | 12 => ∃ g cap', v = .slice (some ⟨g, 0, none⟩) 3 cap' ∧ w.ownsRow B 104 3 v 3 (fldCells ⟨nI c, 0⟩ ++ twoF sg1 dg1 sg2 dg2)
  | _ => False
theorem Pm.on {B b o cap : Nat} {c : Int} {sg1 dg1 sg2 dg2 : List UInt8} : ∀ (j : Nat) (v : Value) (w w' : World), Below w.heap.size w w' → Pm B b o cap c sg1 dg1 sg2 dg2 j v w → Pm B b o cap c sg1 dg1 sg2 dg2 j v w' := by
  intro j v w w' hb h
  match j with
  | 0 | 1 | 3 | 4 | 5 | 6 | 7 | 8 | 9 | 10 => exact h
  | 2 => obtain ⟨g, e, h⟩ := h; exact ⟨g, e, owns_below h hb⟩
  | 11 => obtain ⟨g, e, h⟩ := h; exact ⟨g, e, owns_below h hb⟩
  | 12 => obtain ⟨g, cap', e, h⟩ := h; exact ⟨g, cap', e, owns_below h hb⟩
  | _ + 13 => exact h.elim
theorem twoF_one (sg1 dg1 sg2 dg2 : List UInt8) : ∀ u ∈ twoF sg1 dg1 sg2 dg2, u.oneCell' = true := by
  intro u hu
  simp [twoF] at hu
  rcases hu with rfl | rfl | rfl | rfl | rfl | rfl <;> rfl
def Fm (w0 : World) (c : Int) (sg1 dg1 sg2 dg2 : List UInt8) (us : Nat → Value) (w : World) : Prop :=
  Below w0.heap.size w0 w ∧ ∃ g cap, us 13 = .slice (some ⟨g, 0, none⟩) 3 cap ∧ w.ownsRow w0.heap.size 104 3 (us 13) 3 (fldCells ⟨nI c, 0⟩ ++ twoF sg1 dg1 sg2 dg2)

set_option maxRecDepth 8000 in
set_option maxHeartbeats 4000000 in
theorem money_any (c m : Int) (v : Value) (w : World) (hf : Ac.IA w v [c, m]) (hc0 : 0 ≤ c) (hc1 : c ≤ 1000000000) (h0 : -1000000000000000000 < m) (h1 : m < 1000000000000000000) (hT : TabN w) :
    Calls Tryz.prog 59 #[v] w (FRet w (monF c m)) := by
  have HIA := hid hf
  obtain ⟨b, o, cap, rfl, hl, hc, hlt, hcs⟩ := hf.has (by simp)
  have c0 := hcs 0 (by simp)
  have c1 := hcs 1 (by simp)
  simp only [List.length_cons, List.length_nil, Nat.zero_add, List.getD_cons_zero, List.getD_cons_succ, Nat.add_zero, Nat.reduceAdd] at *
  obtain ⟨s, hs⟩ : ∃ s : Nat, s = (c % 10).toNat := ⟨_, rfl⟩
  have hs9 : s ≤ 18 := by omega
  have hrem : c.tmod 10 = (s : Int) := by rw [Int.tmod_eq_emod_of_nonneg hc0]; omega
  have HS := hid (fun w' (hb : Below w.heap.size w w') => split_any m s w' hs9 h0 h1 (hT.on hb))
  have HTB := hid hT.tab
  unfold monF
  rw [← hs]
  clear hs
  generalize wholeN m s = x at *
  generalize partN m s = y at *
  obtain ⟨sg1, dg1⟩ := x
  obtain ⟨sg2, dg2⟩ := y
  unfold numV at HS
  dsimp only at HS
  clear hf hcs hT
  have hmf : ∀ (fn : Fn) (first cap : Array Value) (w : World), (Instr.makeFunc fn first cap).run Tryz.prog w = .ok (.func fn first cap) w := fun _ _ _ _ => rfl
  go_enter Tryz.func59, Tryz.ntmps59
  go_wp2
  go_quiet (fail)
  go_wp2_with fail
  refine (HS.out _ (below_drewN (Below.refl _ _) _)).mono ?_
  rintro e w2 ⟨rfl, hb⟩
  have hb2 : Below w.heap.size w w2 := (below_drewN (Below.refl _ _) _).trans (hb.mono (Nat.le_refl _))
  obtain ⟨w0, hw0⟩ : ∃ w0, w0 = (w2.alloc (.cells #[.string ⟨sg1.toArray⟩, .string ⟨dg1.toArray⟩] 102)).alloc (.cells #[.string ⟨sg2.toArray⟩, .string ⟨dg2.toArray⟩] 102) := ⟨_, rfl⟩
  have hbw : Below w2.heap.size w2 w0 := by rw [hw0]; exact ((Below.refl w2.heap.size w2).alloc (Nat.le_refl _) _).alloc (by simp) _
  have hA : w0.heap[w2.heap.size]? = some (.cells #[.string ⟨sg1.toArray⟩, .string ⟨dg1.toArray⟩] 102) := by
    rw [hw0]
    exact ((up_alloc _ _).block w2.heap.size (by simp)).trans (row_new w2 _)
  have hB : w0.heap[w2.heap.size + 1]? = some (.cells #[.string ⟨sg2.toArray⟩, .string ⟨dg2.toArray⟩] 102) := by
    rw [hw0]
    have := row_new (w2.alloc (.cells #[.string ⟨sg1.toArray⟩, .string ⟨dg1.toArray⟩] 102)) (.cells #[.string ⟨sg2.toArray⟩, .string ⟨dg2.toArray⟩] 102)
    simpa using this
  have a0 : w0.cell? ⟨w2.heap.size, 0, none⟩ = some (.string ⟨sg1.toArray⟩) := by rw [cell_of_row _ _ _ _ _ _ hA]; rfl
  have a1 : w0.cell? ⟨w2.heap.size, 1, none⟩ = some (.string ⟨dg1.toArray⟩) := by rw [cell_of_row _ _ _ _ _ _ hA]; rfl
  have b0 : w0.cell? ⟨w2.heap.size + 1, 0, none⟩ = some (.string ⟨sg2.toArray⟩) := by rw [cell_of_row _ _ _ _ _ _ hB]; rfl
  have b1 : w0.cell? ⟨w2.heap.size + 1, 1, none⟩ = some (.string ⟨dg2.toArray⟩) := by rw [cell_of_row _ _ _ _ _ _ hB]; rfl
  have la0 := (Array.getElem?_eq_some_iff.1 hA).1
  have la1 := la0
  have lb0 := (Array.getElem?_eq_some_iff.1 hB).1
  have lb1 := lb0
  have HB0 := hid (up_trans hb2 hbw)
  have hia : Ac.IA w0 (.slice (some ⟨b, o, none⟩) 1 cap) [c] := by
    refine ⟨_, _, rfl, ⟨by simp, by show 1 ≤ cap; omega, hc⟩, .inr ⟨b, o, rfl, Nat.lt_of_lt_of_le hlt HB0.out.size, fun j hj => ?_⟩⟩
    obtain rfl : j = 0 := by simpa using hj
    exact (HB0.out.cell (p := ⟨b, o, none⟩) hlt).trans c0
  have HN := hid (fun w' (hb : Below w0.heap.size w0 w') => numbers_any [c] _ w' (hia.on hb) (by intro n hn; simp at hn; subst hn; unfold i18; omega) (by show 1 ≤ 10; omega) (HTB.out.on (up_trans HB0.out hb)))
  clear hb hb2 hbw hA hB hia
  go_wp2
  rw [← hw0]
  clear hw0
  refine wp_region_relc (n := 13) (E := fun _ => false) (by kernel_rfl) (by kernel_rfl) (fun us => ⟨#[.slice (some ⟨b, o, none⟩) 2 cap, undef, us 13, .int .i64 c, .int .i64 m, .pointer (some ⟨w2.heap.size, 0, none⟩), .pointer (some ⟨w2.heap.size + 1, 0, none⟩), .slice (some ⟨b, o, none⟩) 2 cap, .pointer (some ⟨b, o, none⟩), .int .i64 c, .slice (some ⟨b, o, none⟩) 2 cap, .pointer (some ⟨b, o + 1, none⟩), .int .i64 m, .tuple #[.agg #[.string ⟨sg1.toArray⟩, .string ⟨dg1.toArray⟩], .agg #[.string ⟨sg2.toArray⟩, .string ⟨dg2.toArray⟩]], .int .i64 m, .int .i64 c, .int .i64 s, .tuple #[.agg #[.string ⟨sg1.toArray⟩, .string ⟨dg1.toArray⟩], .agg #[.string ⟨sg2.toArray⟩, .string ⟨dg2.toArray⟩]], .agg #[.string ⟨sg1.toArray⟩, .string ⟨dg1.toArray⟩], .agg #[.string ⟨sg2.toArray⟩, .string ⟨dg2.toArray⟩], us 0, us 1, us 2, us 3, us 4, us 5, us 6, us 7, us 8, us 9, us 10, us 11, us 12], []⟩)
    (Pm w0.heap.size b o cap c sg1 dg1 sg2 dg2) (fun _ _ => True) (fun _ w => Below w0.heap.size w0 w) (fun w w' => Below w.heap.size w w') (Fm w0 c sg1 dg1 sg2 dg2) (fun i => if i = 13 then .slice none 0 0 else undef) (by rfl) (Below.refl _ _).drew (fun j v w w' h hp => Pm.on j v w w' h hp) (fun _ _ _ _ => trivial) (fun us w i v hE h => by simp at hE) ?_ ?_ ?_ ?_
  case refine_1 =>
    intro i hi us w hC hd
    rcases (by omega : i = 0 ∨ i = 1 ∨ i = 2 ∨ i = 3 ∨ i = 4 ∨ i = 5 ∨ i = 6 ∨ i = 7 ∨ i = 8 ∨ i = 9 ∨ i = 10 ∨ i = 11 ∨ i = 12) with rfl | rfl | rfl | rfl | rfl | rfl | rfl | rfl | rfl | rfl | rfl | rfl | rfl
    · refine wpOp_step rfl (fun K hK => ?_)
      rw [if_pos (by rfl)]
      go_simp
      exact hK _ _ ⟨_, rfl, rfl, Below.refl _ _, hC⟩
    · have hk1 : 1 ≤ cap := by omega
      have hk2 : (1 : Int) ≤ (cap : Int) := by omega
      have e0 : us 0 = .slice (some ⟨b, o, none⟩) 2 cap := hd _ rfl ⟨0, .data⟩ (by simp) rfl
      refine wpOp_step rfl (fun K hK => ?_)
      rw [if_pos (by rfl)]
      rw [e0]
      go_simp
      exact hK _ _ ⟨_, by simp [upd, e0], rfl, Below.refl _ _, hC⟩
    · have e1 : us 1 = .slice (some ⟨b, o, none⟩) 1 cap := hd _ rfl ⟨1, .data⟩ (by simp) rfl
      refine wpOp_step rfl (fun K hK => ?_)
      rw [if_pos (by rfl)]
      rw [e1]
      go_simp
      go_at_call 57
      refine (HN.out _ hC).mono ?_
      rintro e2 w' ⟨g, rfl, ho, hb⟩
      exact hK _ _ ⟨_, by simp [upd, e1], ⟨g, rfl, by have := own_low ho.1 hC.size; simpa [numsF] using this⟩, hb, up_trans hC hb⟩
    · have d0 := (hC.cell (p := ⟨w2.heap.size, 0, none⟩) la0).trans a0
      have d1 := (hC.cell (p := ⟨w2.heap.size, 1, none⟩) la0).trans a1
      refine wpOp_step rfl (fun K hK => ?_)
      rw [if_pos (by rfl)]
      go_simp
      exact hK _ _ ⟨_, rfl, rfl, Below.refl _ _, hC⟩
    · have d0 := (hC.cell (p := ⟨w2.heap.size, 0, none⟩) la0).trans a0
      have d1 := (hC.cell (p := ⟨w2.heap.size, 1, none⟩) la0).trans a1
      refine wpOp_step rfl (fun K hK => ?_)
      rw [if_pos (by rfl)]
      go_simp
      exact hK _ _ ⟨_, rfl, rfl, Below.refl _ _, hC⟩
    · have e4 : us 4 = .agg #[.string ⟨sg1.toArray⟩, .string ⟨dg1.toArray⟩] := hd _ rfl ⟨4, .data⟩ (by simp) rfl
      refine wpOp_step rfl (fun K hK => ?_)
      rw [if_pos (by rfl)]
      rw [e4]
      go_simp
      exact hK _ _ ⟨_, by simp [upd, e4], rfl, Below.refl _ _, hC⟩
    · have e3 : us 3 = .agg #[.string ⟨sg1.toArray⟩, .string ⟨dg1.toArray⟩] := hd _ rfl ⟨3, .data⟩ (by simp) rfl
      have e5 : us 5 = .func (.func 85) #[.agg #[.string ⟨sg1.toArray⟩, .string ⟨dg1.toArray⟩]] #[] := hd _ rfl ⟨5, .data⟩ (by simp) rfl
      refine wpOp_step rfl (fun K hK => ?_)
      rw [if_pos (by rfl)]
      rw [e3, e5]
      go_simp
      exact hK _ _ ⟨_, by simp [upd, e3, e5], rfl, Below.refl _ _, hC⟩
    · have d0 := (hC.cell (p := ⟨w2.heap.size + 1, 0, none⟩) lb0).trans b0
      have d1 := (hC.cell (p := ⟨w2.heap.size + 1, 1, none⟩) lb0).trans b1
      refine wpOp_step rfl (fun K hK => ?_)
      rw [if_pos (by rfl)]
      go_simp
      exact hK _ _ ⟨_, rfl, rfl, Below.refl _ _, hC⟩
    · have d0 := (hC.cell (p := ⟨w2.heap.size + 1, 0, none⟩) lb0).trans b0
      have d1 := (hC.cell (p := ⟨w2.heap.size + 1, 1, none⟩) lb0).trans b1
      refine wpOp_step rfl (fun K hK => ?_)
      rw [if_pos (by rfl)]
      go_simp
      exact hK _ _ ⟨_, rfl, rfl, Below.refl _ _, hC⟩
    · have e8 : us 8 = .agg #[.string ⟨sg2.toArray⟩, .string ⟨dg2.toArray⟩] := hd _ rfl ⟨8, .data⟩ (by simp) rfl
      refine wpOp_step rfl (fun K hK => ?_)
      rw [if_pos (by rfl)]
      rw [e8]
      go_simp
      exact hK _ _ ⟨_, by simp [upd, e8], rfl, Below.refl _ _, hC⟩
    · have e7 : us 7 = .agg #[.string ⟨sg2.toArray⟩, .string ⟨dg2.toArray⟩] := hd _ rfl ⟨7, .data⟩ (by simp) rfl
      have e9 : us 9 = .func (.func 88) #[.agg #[.string ⟨sg2.toArray⟩, .string ⟨dg2.toArray⟩]] #[] := hd _ rfl ⟨9, .data⟩ (by simp) rfl
      refine wpOp_step rfl (fun K hK => ?_)
      rw [if_pos (by rfl)]
      rw [e7, e9]
      go_simp
      exact hK _ _ ⟨_, by simp [upd, e7, e9], rfl, Below.refl _ _, hC⟩
    · have e6 : us 6 = .agg #[.string ⟨sg1.toArray⟩, .string ⟨dg1.toArray⟩, .func (.func 85) #[.agg #[.string ⟨sg1.toArray⟩, .string ⟨dg1.toArray⟩]] #[]] := hd _ rfl ⟨6, .data⟩ (by simp) rfl
      have e10 : us 10 = .agg #[.string ⟨sg2.toArray⟩, .string ⟨dg2.toArray⟩, .func (.func 88) #[.agg #[.string ⟨sg2.toArray⟩, .string ⟨dg2.toArray⟩]] #[]] := hd _ rfl ⟨10, .data⟩ (by simp) rfl
      refine wpOp_step rfl (fun K hK => ?_)
      rw [if_pos (by rfl)]
      rw [e6, e10]
      go_simp
      exact hK _ _ ⟨_, by simp [upd, e6, e10], ⟨_, rfl, own_low (own_litR _ 104 3 2 _ _ (twoF sg1 dg1 sg2 dg2) rfl rfl rfl (by omega)) hC.size⟩, up_alloc _ _, up_trans hC (up_alloc _ _)⟩
    · obtain ⟨g2, e2, o2⟩ := hd _ rfl ⟨2, .data⟩ (by simp) rfl
      obtain ⟨g11, e11, o11⟩ := hd _ rfl ⟨11, .data⟩ (by simp) rfl
      rw [e2] at o2
      rw [e11] at o11
      refine wpOp_step rfl (fun K hK => ?_)
      refine step_append_fullR w rfl (.tmp 22) (.tmp 31) 77 104 rfl (.agg #[.string ⟨#[]⟩, .string ⟨#[]⟩, .nilFunc]) 3 40 Tryz.underlying77 info_Fld rfl (by decide) (by decide) w0.heap.size g2 1 _ (by simp [Act.eval, e2]) o2 (.slice (some ⟨g11, 0, none⟩) 2 2) 2 _ (by simp [Act.eval, e11]) (own_cells o11 (twoF_one _ _ _ _)) 3 rfl (by decide) (by decide) hC.size ?_
      intro cap' w' h1 h2
      exact hK _ _ ⟨_, by simp [upd, e2, e11, Act.put], ⟨_, cap', rfl, h1⟩, h2, up_trans hC h2⟩
  case refine_2 =>
    intro us w hC hd
    obtain ⟨g, cap', e12, ho⟩ := hd 12 (by decide) rfl
    refine wpOp_step rfl (fun K hK => ?_)
    rw [if_pos (by rfl)]
    rw [e12] at ho
    rw [e12]
    go_simp
    exact hK _ _ ⟨.slice (some ⟨g, 0, none⟩) 3 cap', by simp [upd, e12], hC, g, cap', rfl, ho⟩
  case refine_3 =>
    intro i hi hE us w hd
    simp at hE
  case refine_4 =>
    intro us w3 hF hd
    obtain ⟨hb, g, cap', e13, ho⟩ := hF
    rw [e13] at ho
    have HO := hid ho
    have HB := hid hb
    clear ho hb
    rw [e13]
    go_wp2
    go_ret
    exact ⟨g, cap', rfl, ⟨own_low HO.out HB0.out.size, by show 3 ≤ 20; omega⟩, up_trans HB0.out HB.out⟩
end Go.Proofs.YtannndpamhgknaaGreatDoor
