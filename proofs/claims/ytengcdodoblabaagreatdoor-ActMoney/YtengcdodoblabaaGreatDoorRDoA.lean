/- The reference's Do: what it takes of a child. -/
import Derived.Test.YtengcdodoblabaaGreatDoorLKnown
namespace Go.Proofs.YtengcdodoblabaaGreatDoor
open Go.RowKit

def optV : Option Int → Value
  | some n => .tuple #[.int .i64 n, .bool true]
  | none => .tuple #[.int .i64 0, .bool false]
theorem numC_yes (a b : Int) : numC ⟨1, [a, b]⟩ = some a := rfl
theorem numC_no (k : Int) (f : List Int) (h : k ≠ 1 ∨ f.length ≠ 2) : numC ⟨k, f⟩ = none := by
  unfold numC takeB wholeB
  refine if_neg (fun e => ?_)
  simp only [Bool.and_eq_true, beq_iff_eq] at e
  obtain ⟨⟨rfl, h1, h2⟩, _⟩ := e
  rcases h with h | h
  · exact h rfl
  · have e2 : fieldsL.getD (Int.toNat 1) 0 = 2 := by decide
    rw [e2] at h2
    omega
theorem wordC_yes (a : Int) : wordC ⟨2, [a]⟩ = some a := rfl
theorem wordC_no (k : Int) (f : List Int) (h : k ≠ 2 ∨ f.length ≠ 1) : wordC ⟨k, f⟩ = none := by
  unfold wordC takeB wholeB
  refine if_neg (fun e => ?_)
  simp only [Bool.and_eq_true, beq_iff_eq] at e
  obtain ⟨⟨rfl, h1, h2⟩, _⟩ := e
  rcases h with h | h
  · exact h rfl
  · have e2 : fieldsL.getD (Int.toNat 2) 0 = 1 := by decide
    rw [e2] at h2
    omega

set_option maxRecDepth 8000 in
set_option maxHeartbeats 1000000 in
theorem rnumber_any (c : Val) (v : Value) (w : World) (hv : VA w v c) :
    Calls Tryz.prog 59 #[v] w fun e w' => e = .returned (optV (numC c)) ∧ Below w.heap.size w w' := by
  obtain ⟨k, f⟩ := c
  obtain ⟨fv, rfl, hf⟩ := hv
  obtain ⟨ad, cap, rfl, h1, h2, h3⟩ := hf.shape
  dsimp only at *
  have HB := hid (up_alloc w (.cells #[.int .i64 k, .slice ad f.length cap] 27))
  by_cases hk : k = 1 ∧ f.length = 2
  · obtain ⟨rfl, hl⟩ := hk
    obtain ⟨a, b, rfl⟩ := len2 hl
    rw [numC_yes]
    obtain ⟨bb, oo, cap', e, _, _, hlt⟩ := hf.has2
    injection e with e1 e2 e3
    subst e1 e3
    clear e2
    have c0 := (hf.on (up_alloc w (.cells #[.int .i64 1, .slice (some ⟨bb, oo, none⟩) 2 cap] 27))).cell0
    clear hf
    have HB := hid (show Below w.heap.size w (w.alloc (.cells #[.int .i64 1, .slice (some ⟨bb, oo, none⟩) 2 cap] 27)) from HB.out)
    show Calls Tryz.prog 59 #[.agg #[.int .i64 1, .slice (some ⟨bb, oo, none⟩) 2 cap]] w _
    go_enter Tryz.func59, Tryz.ntmps59
    go_wp2
    go_ret2
    exact ⟨rfl, HB.out⟩
  · rw [numC_no k f (by omega)]
    clear hf
    generalize f.length = n at *
    by_cases h1' : k = 1
    · have g1 : (k != 1) = false := by simp [h1']
      have g2 : ((n : Int) != 2) = true := by simp; omega
      have g3 : ¬ (n : Int) = 2 := by omega
      subst h1'
      go_enter Tryz.func59, Tryz.ntmps59
      go_wp2
      go_ret2
      exact ⟨rfl, HB.out⟩
    · have g1 : (k != 1) = true := by simp [h1']
      go_enter Tryz.func59, Tryz.ntmps59
      go_wp2
      go_ret2
      exact ⟨rfl, HB.out⟩

set_option maxRecDepth 8000 in
set_option maxHeartbeats 1000000 in
theorem rword_any (c : Val) (v : Value) (w : World) (hv : VA w v c) :
    Calls Tryz.prog 89 #[v] w fun e w' => e = .returned (optV (wordC c)) ∧ Below w.heap.size w w' := by
  obtain ⟨k, f⟩ := c
  obtain ⟨fv, rfl, hf⟩ := hv
  obtain ⟨ad, cap, rfl, h1, h2, h3⟩ := hf.shape
  dsimp only at *
  have HB := hid (up_alloc w (.cells #[.int .i64 k, .slice ad f.length cap] 27))
  by_cases hk : k = 2 ∧ f.length = 1
  · obtain ⟨rfl, hl⟩ := hk
    obtain ⟨a, rfl⟩ := len1 hl
    rw [wordC_yes]
    obtain ⟨bb, oo, cap', e, _, _, hlt⟩ := hf.has1
    injection e with e1 e2 e3
    subst e1 e3
    clear e2
    have c0 := (hf.on (up_alloc w (.cells #[.int .i64 2, .slice (some ⟨bb, oo, none⟩) 1 cap] 27))).cell0
    clear hf
    have HB := hid (show Below w.heap.size w (w.alloc (.cells #[.int .i64 2, .slice (some ⟨bb, oo, none⟩) 1 cap] 27)) from HB.out)
    show Calls Tryz.prog 89 #[.agg #[.int .i64 2, .slice (some ⟨bb, oo, none⟩) 1 cap]] w _
    go_enter Tryz.func89, Tryz.ntmps89
    go_wp2
    go_ret2
    exact ⟨rfl, HB.out⟩
  · rw [wordC_no k f (by omega)]
    clear hf
    generalize f.length = n at *
    by_cases h1' : k = 2
    · have g3 : ¬ (n : Int) = 1 := by omega
      have g2 : ((n : Int) != 1) = true := by simp; omega
      subst h1'
      go_enter Tryz.func89, Tryz.ntmps89
      go_wp2
      go_ret2
      exact ⟨rfl, HB.out⟩
    · have g1 : (k != 2) = true := by simp [h1']
      go_enter Tryz.func89, Tryz.ntmps89
      go_wp2
      go_ret2
      exact ⟨rfl, HB.out⟩

/-- What the reference makes, ahead of whether it is right. -/
def RetR (w : World) (o : Option Val) (e : Ending) (w' : World) : Prop :=
  Below w.heap.size w w' ∧ match o with
    | some x => ∃ v, e = .returned (.tuple #[v, .bool true]) ∧ NV w.heap.size w' v x
    | none => ∃ k ad n cap, e = .returned (.tuple #[.agg #[.int .i64 k, .slice ad n cap], .bool false])
theorem RetR.no {w w' : World} {o : Option Val} {k : Int} {ad : Option Addr} {n cap : Nat} (h : o = none) (hb : Below w.heap.size w w') : RetR w o (.returned (.tuple #[.agg #[.int .i64 k, .slice ad n cap], .bool false])) w' := by subst h; exact ⟨hb, k, ad, n, cap, rfl⟩
theorem RetR.yes {w w' : World} {o : Option Val} {v : Value} {x : Val} (h : o = some x) (hb : Below w.heap.size w w') (hv : NV w.heap.size w' v x) : RetR w o (.returned (.tuple #[v, .bool true])) w' := by subst h; exact ⟨hb, v, rfl, hv⟩
theorem row_at {w : World} {o : Obj} {g : Nat} (h : g = w.heap.size) : (w.alloc o).heap[g]? = some o := by subst h; exact new_row w o
theorem row_up {w : World} {o o' : Obj} {g : Nat} (h : w.heap[g]? = some o) : (w.alloc o').heap[g]? = some o := ((up_alloc w o').block g (Array.getElem?_eq_some_iff.1 h).1).trans h
theorem row_drew {w : World} {o : Obj} {g : Nat} (h : w.heap[g]? = some o) : w.drew.heap[g]? = some o := h
theorem row_on {w w' : World} {o : Obj} {g : Nat} (hb : Below w.heap.size w w') (h : w.heap[g]? = some o) : w'.heap[g]? = some o := (hb.block g (Array.getElem?_eq_some_iff.1 h).1).trans h
end Go.Proofs.YtengcdodoblabaaGreatDoor
