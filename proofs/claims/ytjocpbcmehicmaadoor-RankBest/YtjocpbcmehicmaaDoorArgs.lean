/- Rows of numbers, values that come in as arguments: what the reading of the argument says of their cells. -/
import Derived.Test.YtjocpbcmehicmaaDoorKnown
import Derived.Test.YtjocpbcmehicmaaDoorRows
import Derived.Lib.LaidTab
import Derived.Stop.LaidErr
import Derived.ProofKit
import Derived.OpenShut
import Derived.ChangeArms
import Derived.ChangeSame
namespace Go.Proofs.YtjocpbcmehicmaaDoor
open Go.RowKit Go.ChangeShapes Go.WideShapes

theorem wf_bd {y : Int} (h : (Lit.int .i64 y).wf = true) : -9223372036854775808 ≤ y ∧ y ≤ 9223372036854775807 := by
  have e1 : IntKind.i64.signed = true := rfl
  have e2 : IntKind.i64.bits = 64 := rfl
  simp [Lit.wf, IntKind.min, IntKind.max, e1, e2] at h
  omega
/-- The listed table, out of a row's condition. -/
theorem tab_of_laid {W : World} (h : laidMet Tryd.prog [("math/bits.deBruijn32tab", Rows.laid_math_bits_deBruijn32tab), ("math/bits.deBruijn64tab", Rows.laid_math_bits_deBruijn64tab), ("internal/strconv.uint64pow10", Rows.laid_internal_strconv_uint64pow10)] W) : Tab W := by
  have hn : Tryd.prog.globalNamed "internal/strconv.uint64pow10" = some 0 := by kernel_rfl
  exact Lib.tabIs_of_head (k := .u64) (zs := Lib.pow10Tab) hn (show (Tryd.prog.globals[0]?).map (·.type) = some 105 by kernel_rfl) Tryd.underlying105 Tryd.underlying88 (by kernel_rfl) (by kernel_rfl) h.tail.tail
/-- A row of numbers that came in, however long. -/
def IW (W : World) (v : Value) (xs : List Int) : Prop :=
  (∃ ad cap, v = .slice ad xs.length cap ∧ xs.length ≤ cap ∧ cap ≤ maxLen) ∧ (0 < xs.length → xs.length ≤ 1000000 → IA W v xs) ∧ ∀ y ∈ xs, -9223372036854775808 ≤ y ∧ y ≤ 9223372036854775807
def VW (W : World) (v : Value) (x : Val) : Prop := ∃ fv, v = .agg #[.int .i64 x.kind, fv] ∧ IW W fv x.f ∧ -9223372036854775808 ≤ x.kind ∧ x.kind ≤ 9223372036854775807
/-- The same with its cells, however long. -/
def IX (W : World) (v : Value) (xs : List Int) : Prop :=
  ∃ ad cap, v = .slice ad xs.length cap ∧ xs.length ≤ cap ∧ cap ≤ maxLen ∧ (0 < xs.length → ∃ b o, ad = some ⟨b, o, none⟩ ∧ b < W.heap.size ∧ ∀ j, j < xs.length → W.cell? ⟨b, o + j, none⟩ = some (.int .i64 (xs.getD j 0))) ∧ ∀ y ∈ xs, -9223372036854775808 ≤ y ∧ y ≤ 9223372036854775807
section
variable {H : Type} {enc : TypeId × Value → H} {W : World}
set_option maxRecDepth 8000 in
theorem row_of_trod {fuel : Nat} {cs : List Value} {x : DataW H × List MemPlace} (h : DataW.trod enc Tryd.prog W 0 (fun _ => true) true fuel 22 cs = some x) : ∃ sv xs, cs = [sv] ∧ IW W sv xs := by
  rcases open_ints Tryd.underlying22 Tryd.underlying3 (by kernel_rfl) h with ⟨hcs, _⟩ | ⟨a, len, cap, zs, hcs, _, hl, hm, hz, _, hcell, hwz⟩
  · exact ⟨_, [], hcs, ⟨none, 0, rfl, by simp, by simp [maxLen]⟩, (fun h => by simp at h), fun y hy => by cases hy⟩
  · simp only [if_true] at hz
    have hlen : (zs.take len).length = len := by simp; omega
    refine ⟨_, zs.take len, hcs, ⟨some a, cap, by rw [hlen], by rw [hlen]; exact hl, hm⟩, fun h0 h1 => ?_, fun y hy => wf_bd (hwz y (List.mem_of_mem_take hy))⟩
    rw [hlen] at h0 h1
    have c0 := hcell 0 (by omega)
    have hs : a.spot = none := by
      unfold World.cell? at c0
      rw [show a.add 0 = a by simp [Addr.add]] at c0
      cases hsp : a.spot with
      | none => rfl
      | some s =>
        rw [hsp] at c0
        split at c0 <;> simp at c0
    obtain ⟨b, o, sp⟩ := a
    obtain rfl : sp = none := hs
    have hadd : ∀ j, Addr.add ⟨b, o, none⟩ j = ⟨b, o + j, none⟩ := fun j => by unfold Addr.add; split <;> simp_all
    refine ⟨_, cap, by rw [hlen], ⟨by rw [hlen]; exact h1, by rw [hlen]; exact hl, hm⟩, .inr ⟨b, o, rfl, lt_of_cell c0, fun j hj => ?_⟩⟩
    rw [hlen] at hj
    rw [← hadd, hcell j (by omega)]
    simp [List.getD, hj]
set_option maxRecDepth 8000 in
theorem ints_of {base : Nat} {v : Value} {d : DataW H} {ps : List MemPlace} (hval : Value.okWide Tryd.prog W .any base 22 v) (h : DataW.Trod enc Tryd.prog W 0 (fun _ => true) true 22 v d ps) : ∃ xs, IW W v xs := by
  obtain ⟨a0, len, cap, rfl⟩ := okWide_slice Tryd.underlying22 hval
  obtain ⟨fuel, hf⟩ := h
  obtain ⟨sv, xs, e, h1⟩ := row_of_trod hf
  simp [Value.cells] at e
  exact ⟨xs, e ▸ h1⟩
set_option maxRecDepth 8000 in
theorem ints_at {base : Nat} {v : Value} {d : DataW H} {ps : List MemPlace} (hval : Value.okWide Tryd.prog W .any base 22 v) (h : DataW.Trod enc Tryd.prog W 0 (fun _ => true) true 22 v d ps) : ∃ xs, IX W v xs := by
  obtain ⟨a0, len0, cap0, rfl⟩ := okWide_slice Tryd.underlying22 hval
  obtain ⟨fuel, hf⟩ := h
  rcases open_ints Tryd.underlying22 Tryd.underlying3 (by kernel_rfl) hf with ⟨hcs, _⟩ | ⟨a, len, cap, zs, hcs, _, hl, hm, hz, _, hcell, hwz⟩
  · simp [Value.cells] at hcs
    obtain ⟨rfl, rfl, rfl⟩ := hcs
    exact ⟨[], none, 0, rfl, by simp, by simp [maxLen], (fun h => by simp at h), fun y hy => by cases hy⟩
  · simp [Value.cells] at hcs
    obtain ⟨rfl, rfl, rfl⟩ := hcs
    simp only [if_true] at hz
    have hlen : (zs.take len0).length = len0 := by simp; omega
    refine ⟨zs.take len0, some a, cap0, by rw [hlen], by rw [hlen]; exact hl, hm, fun h0 => ?_, fun y hy => wf_bd (hwz y (List.mem_of_mem_take hy))⟩
    rw [hlen] at h0
    have c0 := hcell 0 (by omega)
    have hs : a.spot = none := by
      unfold World.cell? at c0
      rw [show a.add 0 = a by simp [Addr.add]] at c0
      cases hsp : a.spot with
      | none => rfl
      | some s =>
        rw [hsp] at c0
        split at c0 <;> simp at c0
    obtain ⟨b, o, sp⟩ := a
    obtain rfl : sp = none := hs
    have hadd : ∀ j, Addr.add ⟨b, o, none⟩ j = ⟨b, o + j, none⟩ := fun j => by unfold Addr.add; split <;> simp_all
    refine ⟨b, o, rfl, lt_of_cell c0, fun j hj => ?_⟩
    rw [hlen] at hj
    rw [← hadd, hcell j (by omega)]
    simp [List.getD, hj]
theorem array2 {cs : Array Value} (h : cs.size = 2) : ∃ c0 c1, cs = #[c0, c1] := by
  obtain ⟨l⟩ := cs
  match l, h with
  | [c0, c1], _ => exact ⟨c0, c1, rfl⟩
set_option maxRecDepth 8000 in
theorem value_of {base : Nat} {v : Value} {d : DataW H} {ps : List MemPlace} (hval : Value.okWide Tryd.prog W .any base 24 v) (h : DataW.Trod enc Tryd.prog W 0 (fun _ => true) true 24 v d ps) : ∃ x, VW W v x := by
  have c5 : Tryd.prog.cellsOf 24 = 2 := by kernel_rfl
  have c1 : Tryd.prog.cellsOf 3 = 1 := by kernel_rfl
  have c2 : Tryd.prog.cellsOf 22 = 1 := by kernel_rfl
  obtain ⟨cs, rfl, hsz⟩ := okWide_struct Tryd.underlying24 hval
  obtain ⟨v0, v1, rfl⟩ := array2 (hsz.trans c5)
  obtain ⟨fuel, hf⟩ := h
  obtain ⟨xs, k, _, _, _, hxl, hfld⟩ := DataW.trod_struct Tryd.underlying24 hf
  match xs, hxl with
  | [y0, y1], _ =>
    have g0 := hfld 0 _ rfl
    have g1 := hfld 1 _ rfl
    change DataW.trod _ _ _ _ _ _ _ 3 (List.take (Tryd.prog.cellsOf 3) (List.drop 0 [v0, v1])) = _ at g0
    change DataW.trod _ _ _ _ _ _ _ 22 (List.take (Tryd.prog.cellsOf 22) (List.drop 1 [v0, v1])) = _ at g1
    rw [c1] at g0
    rw [c2] at g1
    simp only [List.drop_zero, List.drop_succ_cons, List.take_succ_cons, List.take_zero] at g0 g1
    obtain ⟨z0, e0, _, q0⟩ := DataW.trod_int Tryd.underlying3 g0
    obtain ⟨sv, xs, e1, hr1⟩ := row_of_trod g1
    simp only [List.cons.injEq, and_true] at e0 e1
    subst e0 e1
    exact ⟨⟨z0, xs⟩, _, rfl, hr1, wf_bd q0⟩
end
theorem iw_ib {W : World} {v : Value} {xs : List Int} (h : IW W v xs) : ∃ ad cap, v = .slice ad xs.length cap ∧ xs.length ≤ cap ∧ cap ≤ maxLen ∧ (xs.length ≤ 1000000 → IB W (.slice ad xs.length cap) xs) ∧ ∀ y ∈ xs, I64 y := by
  obtain ⟨⟨ad, cap, e, h1, h2⟩, h3, h4⟩ := h
  refine ⟨ad, cap, e, h1, h2, fun hl => ?_, h4⟩
  by_cases h0 : 0 < xs.length
  · rw [← e]; exact (h3 h0 hl).ib
  · exact ⟨ad, cap, rfl, h1, h2, hl, fun h => absurd h h0⟩
theorem vw_ib {W : World} {v : Value} {x : Val} (h : VW W v x) : ∃ ad cap, v = .agg #[.int .i64 x.kind, .slice ad x.f.length cap] ∧ (x.f.length ≤ 1000000 → VA W v x) ∧ VI x ∧ x.f.length ≤ 9223372036854775807 := by
  obtain ⟨fv, rfl, hf, b0, b1⟩ := h
  obtain ⟨ad, cap, rfl, h1, h2, h3, h4⟩ := iw_ib hf
  exact ⟨ad, cap, rfl, fun hl => ⟨_, rfl, h3 hl⟩, ⟨⟨b0, b1⟩, h4⟩, by unfold maxLen at h2; omega⟩
end Go.Proofs.YtjocpbcmehicmaaDoor
