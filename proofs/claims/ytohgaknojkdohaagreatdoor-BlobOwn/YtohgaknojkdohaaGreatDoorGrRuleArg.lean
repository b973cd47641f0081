/- A rule that comes in as an argument: what the reading of the argument says of it. -/
import Derived.Test.YtohgaknojkdohaaGreatDoorGrRawArgs
namespace Go.Proofs.YtohgaknojkdohaaGreatDoor.Gr
open Go.RowKit Go.ChangeShapes Go.WideShapes

theorem array5 {cs : Array Value} (h : cs.size = 5) : ∃ c0 c1 c2 c3 c4, cs = #[c0, c1, c2, c3, c4] := by
  obtain ⟨l⟩ := cs
  match l, h with
  | [c0, c1, c2, c3, c4], _ => exact ⟨c0, c1, c2, c3, c4, rfl⟩
section
variable {H : Type} {enc : TypeId × Value → H} {W : World}
set_option maxRecDepth 8000 in
theorem rule_of {base : Nat} {v : Value} {d : DataW H} {ps : List MemPlace} (hval : Value.okWide Tryz.prog W .any base 56 v) (h : DataW.Trod enc Tryz.prog W 0 (fun _ => true) true 56 v d ps) : ∃ r : Rule, RuleAt W v r := by
  have c5 : Tryz.prog.cellsOf 56 = 5 := by kernel_rfl
  have c1 : Tryz.prog.cellsOf 3 = 1 := by kernel_rfl
  have c2 : Tryz.prog.cellsOf 35 = 1 := by kernel_rfl
  have c3 : Tryz.prog.cellsOf 54 = 2 := by kernel_rfl
  obtain ⟨cs, rfl, hsz⟩ := okWide_struct Tryz.underlying56 hval
  obtain ⟨v0, v1, v2, v3, v4, rfl⟩ := array5 (hsz.trans c5)
  obtain ⟨fuel, hf⟩ := h
  obtain ⟨xs, k, _, _, _, hxl, hfld⟩ := DataW.trod_struct Tryz.underlying56 hf
  match xs, hxl with
  | [y0, y1, y2, y3], _ =>
    have g0 := hfld 0 _ rfl
    have g1 := hfld 1 _ rfl
    have g2 := hfld 2 _ rfl
    have g3 := hfld 3 _ rfl
    change DataW.trod _ _ _ _ _ _ _ 3 (List.take (Tryz.prog.cellsOf 3) (List.drop 0 [v0, v1, v2, v3, v4])) = _ at g0
    change DataW.trod _ _ _ _ _ _ _ 35 (List.take (Tryz.prog.cellsOf 35) (List.drop 1 [v0, v1, v2, v3, v4])) = _ at g1
    change DataW.trod _ _ _ _ _ _ _ 54 (List.take (Tryz.prog.cellsOf 54) (List.drop 2 [v0, v1, v2, v3, v4])) = _ at g2
    change DataW.trod _ _ _ _ _ _ _ 3 (List.take (Tryz.prog.cellsOf 3) (List.drop 4 [v0, v1, v2, v3, v4])) = _ at g3
    rw [c1] at g0 g3
    rw [c2] at g1
    rw [c3] at g2
    simp only [List.drop_zero, List.drop_succ_cons, List.take_succ_cons, List.take_zero, List.getElem?_cons_zero, List.getElem?_cons_succ] at g0 g1 g2 g3
    obtain ⟨z0, e0, _, _⟩ := DataW.trod_int Tryz.underlying3 g0
    obtain ⟨sv, rhs, e1, hr1, _⟩ := row_of_trod g1
    obtain ⟨z3, e3, _, _⟩ := DataW.trod_int Tryz.underlying3 g3
    obtain ⟨xs2, k2, _, _, _, hxl2, hfld2⟩ := DataW.trod_struct Tryz.underlying54 g2
    match xs2, hxl2 with
    | [u0, u1], _ =>
      have q0 := hfld2 0 _ rfl
      have q1 := hfld2 1 _ rfl
      change DataW.trod _ _ _ _ _ _ _ 3 (List.take (Tryz.prog.cellsOf 3) (List.drop 0 [v2, v3])) = _ at q0
      change DataW.trod _ _ _ _ _ _ _ 35 (List.take (Tryz.prog.cellsOf 35) (List.drop 1 [v2, v3])) = _ at q1
      rw [c1] at q0
      rw [c2] at q1
      simp only [List.drop_zero, List.drop_succ_cons, List.take_succ_cons, List.take_zero, List.getElem?_cons_zero, List.getElem?_cons_succ] at q0 q1
      obtain ⟨z2, e2, _, _⟩ := DataW.trod_int Tryz.underlying3 q0
      obtain ⟨pv, p, e4, hr4, _⟩ := row_of_trod q1
      simp only [List.cons.injEq, and_true] at e0 e1 e2 e3 e4
      subst e0 e1 e2 e3 e4
      exact ⟨⟨z0, rhs, z2, p, z3⟩, _, _, rfl, hr1, hr4⟩
end

end Go.Proofs.YtohgaknojkdohaaGreatDoor.Gr
