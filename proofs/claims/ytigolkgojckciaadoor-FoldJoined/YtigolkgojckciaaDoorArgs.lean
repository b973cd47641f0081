/- Slices that come in, read as numbers. -/
import Derived.Test.YtigolkgojckciaaDoorInts
import Derived.ChangeSlices
import Derived.WideShapes
namespace Go.Proofs.YtigolkgojckciaaDoor
open Go.RowKit Go.ChangeShapes Go.WideShapes

/-- A slice of numbers that came in. -/
def Arg (W : World) (k : IntKind) (v : Value) (xs : List Int) : Prop :=
  ∃ (ad : Option Addr) (cap : Nat), v = .slice ad xs.length cap ∧ xs.length ≤ cap ∧ cap ≤ maxLen ∧ (ad = none → xs = [] ∧ cap = 0) ∧ (∀ a, ad = some a → ∀ j, j < xs.length → W.cell? (a.add j) = some (.int k (xs.getD j 0))) ∧ ∀ x ∈ xs, (Lit.int k x).wf = true

theorem arg_of {H : Type} {enc : TypeId × Value → H} {W : World} {P : Program} {base : Nat} {t e : TypeId} {k : IntKind} {v : Value} {d : DataW H} {ps : List MemPlace} (ht : P.underlying t = some (.slice e)) (he : P.underlying e = some (.int k)) (hc : P.cellsOf e = 1)
    (hval : Value.okWide P W .any base t v) (h : DataW.Trod enc P W 0 (fun _ => true) true t v d ps) : ∃ xs, Arg W k v xs := by
  obtain ⟨a0, len, cap, rfl⟩ := okWide_slice ht hval
  obtain ⟨fuel, hf⟩ := h
  rcases open_ints ht he hc hf with ⟨hcs, hx⟩ | ⟨a, len', cap', zs, hcs, _, hl, hm, hz, hx, hcell, hwz⟩
  · simp [Value.cells] at hcs
    obtain ⟨rfl, rfl, rfl⟩ := hcs
    exact ⟨[], none, 0, rfl, Nat.le_refl _, by simp [maxLen], fun _ => ⟨rfl, rfl⟩, (fun ad h => by cases h), (fun n hn => by cases hn)⟩
  · simp [Value.cells] at hcs
    obtain ⟨rfl, rfl, rfl⟩ := hcs
    simp only [if_true] at hz
    have hlen : (zs.take len).length = len := by simp; omega
    refine ⟨zs.take len, some a, cap, by rw [hlen], by omega, hm, (fun h => by cases h), fun ad h j hj => ?_, fun n hn => hwz n (List.mem_of_mem_take hn)⟩
    obtain rfl := Option.some.inj h
    rw [hlen] at hj
    rw [hcell j (by omega)]
    simp [List.getD, hj]

theorem Arg.on {W W' : World} {k : IntKind} {v : Value} {xs : List Int} (h : Arg W k v xs) (hb : Below W.heap.size W W') : Arg W' k v xs := by
  obtain ⟨ad, cap, h1, h2, h3, h4, h5, h6⟩ := h
  refine ⟨ad, cap, h1, h2, h3, h4, fun a ha j hj => ?_, h6⟩
  have := h5 a ha j hj
  exact (hb.cell (lt_of_cell this)).trans this

end Go.Proofs.YtigolkgojckciaaDoor
