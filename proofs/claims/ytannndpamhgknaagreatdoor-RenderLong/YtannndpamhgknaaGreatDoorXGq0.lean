/- GrRawArgs, GrRuleArg: these texts, one behind the other. -/
import Derived.Test.YtannndpamhgknaaGreatDoorGrRaws
import Derived.Test.YtannndpamhgknaaGreatDoorGrGrow2
import Derived.ChangeArms
import Derived.ChangeSame
/- Raw rules that come in as an argument: what the reading of the argument says of their cells. -/
namespace Go.Proofs.YtannndpamhgknaaGreatDoor.Gr
open Go.RowKit Go.ChangeShapes Go.WideShapes

theorem add_zero (b : Addr) : b.add 0 = b := by simp [Addr.add]
theorem add_pos (b : Addr) (i : Nat) (h : i ≠ 0) : b.add i = ⟨b.block, b.off + i, none⟩ := by simp [Addr.add, h]

theorem wf64_of {y : Int} (h : (Lit.int .i64 y).wf = true) : wf64 y := by
  have e1 : IntKind.i64.signed = true := rfl
  have e2 : IntKind.i64.bits = 64 := rfl
  simp [Lit.wf, IntKind.min, IntKind.max, e1, e2] at h
  exact h
section
variable {H : Type} {enc : TypeId × Value → H} {W : World}
set_option maxRecDepth 8000 in
theorem row_of_trod {fuel : Nat} {cs : List Value} {x : DataW H × List MemPlace} (h : DataW.trod enc Tryz.prog W 0 (fun _ => true) true fuel 25 cs = some x) : ∃ sv xs, cs = [sv] ∧ Row W sv xs ∧ ∀ y ∈ xs, wf64 y := by
  rcases open_ints Tryz.underlying25 Tryz.underlying3 (by kernel_rfl) h with ⟨hcs, _⟩ | ⟨a, len, cap, zs, hcs, _, hl, hm, hz, _, hcell, hwz⟩
  · exact ⟨_, [], hcs, ⟨none, 0, rfl, by simp, fun j hj => by simp at hj⟩, fun y hy => by cases hy⟩
  · simp only [if_true] at hz
    have hlen : (zs.take len).length = len := by simp; omega
    refine ⟨_, zs.take len, hcs, ⟨some a, cap, by rw [hlen], by rw [hlen]; omega, fun j hj => ⟨a, rfl, ?_⟩⟩, fun y hy => ?_⟩
    · rw [hlen] at hj
      rw [hcell j (by omega)]
      simp [List.getD, hj]
    · exact wf64_of (hwz y (List.mem_of_mem_take hy))

set_option maxRecDepth 8000 in
theorem raw_of_cells {fuel : Nat} {cs : List Value} {x : DataW H × List MemPlace} {b : Addr} (hc : W.cells? 0 b 5 = some cs) (h : DataW.trod enc Tryz.prog W 0 (fun _ => true) true fuel 91 cs = some x) : ∃ r : Raw, ∃ sv pv, W.cell? b = some (.int .i64 r.lhs) ∧ W.cell? ⟨b.block, b.off + 1, none⟩ = some (.int .i64 r.op) ∧ W.cell? ⟨b.block, b.off + 2, none⟩ = some (.int .i64 r.cost) ∧ W.cell? ⟨b.block, b.off + 3, none⟩ = some sv ∧ W.cell? ⟨b.block, b.off + 4, none⟩ = some pv ∧ Row W sv r.rhs ∧ Row W pv r.p ∧ RawOk r := by
  obtain ⟨_, hlen, hcell⟩ := World.cells?_some hc
  obtain ⟨xs, k, _, _, _, hxl, hf⟩ := DataW.trod_struct Tryz.underlying91 h
  match xs, hxl, cs, hlen with
  | [y0, y1, y2, y3, y4], _, [v0, v1, v2, v3, v4], _ =>
    have c1 : Tryz.prog.cellsOf 3 = 1 := by kernel_rfl
    have c2 : Tryz.prog.cellsOf 25 = 1 := by kernel_rfl
    have g0 := hf 0 _ rfl
    have g1 := hf 1 _ rfl
    have g2 := hf 2 _ rfl
    have g3 := hf 3 _ rfl
    have g4 := hf 4 _ rfl
    change DataW.trod _ _ _ _ _ _ _ 3 (List.take (Tryz.prog.cellsOf 3) (List.drop 0 [v0, v1, v2, v3, v4])) = _ at g0
    change DataW.trod _ _ _ _ _ _ _ 3 (List.take (Tryz.prog.cellsOf 3) (List.drop 1 [v0, v1, v2, v3, v4])) = _ at g1
    change DataW.trod _ _ _ _ _ _ _ 3 (List.take (Tryz.prog.cellsOf 3) (List.drop 2 [v0, v1, v2, v3, v4])) = _ at g2
    change DataW.trod _ _ _ _ _ _ _ 25 (List.take (Tryz.prog.cellsOf 25) (List.drop 3 [v0, v1, v2, v3, v4])) = _ at g3
    change DataW.trod _ _ _ _ _ _ _ 25 (List.take (Tryz.prog.cellsOf 25) (List.drop 4 [v0, v1, v2, v3, v4])) = _ at g4
    rw [c1] at g0 g1 g2
    rw [c2] at g3 g4
    simp only [List.drop_zero, List.drop_succ_cons, List.take_succ_cons, List.take_zero, List.getElem?_cons_zero, List.getElem?_cons_succ] at g0 g1 g2 g3 g4
    obtain ⟨z0, e0, _, q0⟩ := DataW.trod_int Tryz.underlying3 g0
    obtain ⟨z1, e1, _, q1⟩ := DataW.trod_int Tryz.underlying3 g1
    obtain ⟨z2, e2, _, q2⟩ := DataW.trod_int Tryz.underlying3 g2
    obtain ⟨sv, rhs, e3, hr3, hw3⟩ := row_of_trod g3
    obtain ⟨pv, p, e4, hr4, hw4⟩ := row_of_trod g4
    simp only [List.cons.injEq, and_true] at e0 e1 e2 e3 e4
    have w0 : wf64 z0 := wf64_of q0
    have w1 : wf64 z1 := wf64_of q1
    have w2 : wf64 z2 := wf64_of q2
    have k0 := hcell 0 (by decide)
    have k1 := hcell 1 (by decide)
    have k2 := hcell 2 (by decide)
    have k3 := hcell 3 (by decide)
    have k4 := hcell 4 (by decide)
    rw [add_zero] at k0
    rw [add_pos _ _ (by decide)] at k1 k2 k3 k4
    refine ⟨⟨z0, z1, z2, rhs, p⟩, sv, pv, ?_, ?_, ?_, ?_, ?_, hr3, hr4, w0, w1, w2, hw3, hw4⟩
    · rw [k0]; simpa using e0
    · rw [k1]; simpa using e1
    · rw [k2]; simpa using e2
    · rw [k3]; simpa using e3
    · rw [k4]; simpa using e4

end

end Go.Proofs.YtannndpamhgknaaGreatDoor.Gr

/- A rule that comes in as an argument: what the reading of the argument says of it. -/
namespace Go.Proofs.YtannndpamhgknaaGreatDoor.Gr
open Go.RowKit Go.ChangeShapes Go.WideShapes

theorem array5 {cs : Array Value} (h : cs.size = 5) : ∃ c0 c1 c2 c3 c4, cs = #[c0, c1, c2, c3, c4] := by
  obtain ⟨l⟩ := cs
  match l, h with
  | [c0, c1, c2, c3, c4], _ => exact ⟨c0, c1, c2, c3, c4, rfl⟩
section
variable {H : Type} {enc : TypeId × Value → H} {W : World}
set_option maxRecDepth 8000 in
theorem rule_of {base : Nat} {v : Value} {d : DataW H} {ps : List MemPlace} (hval : Value.okWide Tryz.prog W .any base 120 v) (h : DataW.Trod enc Tryz.prog W 0 (fun _ => true) true 120 v d ps) : ∃ r : Rule, RuleAt W v r := by
  have c5 : Tryz.prog.cellsOf 120 = 5 := by kernel_rfl
  have c1 : Tryz.prog.cellsOf 3 = 1 := by kernel_rfl
  have c2 : Tryz.prog.cellsOf 25 = 1 := by kernel_rfl
  have c3 : Tryz.prog.cellsOf 118 = 2 := by kernel_rfl
  obtain ⟨cs, rfl, hsz⟩ := okWide_struct Tryz.underlying120 hval
  obtain ⟨v0, v1, v2, v3, v4, rfl⟩ := array5 (hsz.trans c5)
  obtain ⟨fuel, hf⟩ := h
  obtain ⟨xs, k, _, _, _, hxl, hfld⟩ := DataW.trod_struct Tryz.underlying120 hf
  match xs, hxl with
  | [y0, y1, y2, y3], _ =>
    have g0 := hfld 0 _ rfl
    have g1 := hfld 1 _ rfl
    have g2 := hfld 2 _ rfl
    have g3 := hfld 3 _ rfl
    change DataW.trod _ _ _ _ _ _ _ 3 (List.take (Tryz.prog.cellsOf 3) (List.drop 0 [v0, v1, v2, v3, v4])) = _ at g0
    change DataW.trod _ _ _ _ _ _ _ 25 (List.take (Tryz.prog.cellsOf 25) (List.drop 1 [v0, v1, v2, v3, v4])) = _ at g1
    change DataW.trod _ _ _ _ _ _ _ 118 (List.take (Tryz.prog.cellsOf 118) (List.drop 2 [v0, v1, v2, v3, v4])) = _ at g2
    change DataW.trod _ _ _ _ _ _ _ 3 (List.take (Tryz.prog.cellsOf 3) (List.drop 4 [v0, v1, v2, v3, v4])) = _ at g3
    rw [c1] at g0 g3
    rw [c2] at g1
    rw [c3] at g2
    simp only [List.drop_zero, List.drop_succ_cons, List.take_succ_cons, List.take_zero, List.getElem?_cons_zero, List.getElem?_cons_succ] at g0 g1 g2 g3
    obtain ⟨z0, e0, _, _⟩ := DataW.trod_int Tryz.underlying3 g0
    obtain ⟨sv, rhs, e1, hr1, _⟩ := row_of_trod g1
    obtain ⟨z3, e3, _, _⟩ := DataW.trod_int Tryz.underlying3 g3
    obtain ⟨xs2, k2, _, _, _, hxl2, hfld2⟩ := DataW.trod_struct Tryz.underlying118 g2
    match xs2, hxl2 with
    | [u0, u1], _ =>
      have q0 := hfld2 0 _ rfl
      have q1 := hfld2 1 _ rfl
      change DataW.trod _ _ _ _ _ _ _ 3 (List.take (Tryz.prog.cellsOf 3) (List.drop 0 [v2, v3])) = _ at q0
      change DataW.trod _ _ _ _ _ _ _ 25 (List.take (Tryz.prog.cellsOf 25) (List.drop 1 [v2, v3])) = _ at q1
      rw [c1] at q0
      rw [c2] at q1
      simp only [List.drop_zero, List.drop_succ_cons, List.take_succ_cons, List.take_zero, List.getElem?_cons_zero, List.getElem?_cons_succ] at q0 q1
      obtain ⟨z2, e2, _, _⟩ := DataW.trod_int Tryz.underlying3 q0
      obtain ⟨pv, p, e4, hr4, _⟩ := row_of_trod q1
      simp only [List.cons.injEq, and_true] at e0 e1 e2 e3 e4
      subst e0 e1 e2 e3 e4
      exact ⟨⟨z0, rhs, z2, p, z3⟩, _, _, rfl, hr1, hr4⟩
end

end Go.Proofs.YtannndpamhgknaaGreatDoor.Gr
