/- What is grown alone; how one order after the other is asked. -/
import Derived.Test.YtjocpbcmehicmaaDoorBase
import Derived.Sort.Grow
import Derived.Shelf.Abstract
namespace Go.Proofs.YtjocpbcmehicmaaDoor
open Go.RowKit

/-- Draws, and blocks behind: nothing else. -/
def Gr (w w' : World) : Prop := ∃ (q : Nat) (os : Array Obj), w' = Go.Sort.grow (w.drewN q) os
theorem Gr.refl (w : World) : Gr w w := ⟨0, #[], by simp [World.drewN]⟩
theorem Gr.of {w w' : World} (h : Below w.heap.size w w') (hd : w.drawn ≤ w'.drawn) : Gr w w' := by
  refine ⟨w'.drawn - w.drawn, w'.heap.extract w.heap.size w'.heap.size, ?_⟩
  obtain ⟨h1, h2, h3, h4, h5⟩ := h
  cases w with | mk hp tp dr os ou =>
  cases w' with | mk hp' tp' dr' os' ou' =>
  unfold Go.Sort.grow World.drewN
  dsimp only at *
  subst h1 h2 h3
  congr 1
  · apply Array.ext_getElem?
    intro i
    rw [Array.getElem?_append]
    by_cases hi : i < hp.size
    · rw [if_pos hi]; exact h5 i hi
    · rw [if_neg hi, Array.getElem?_extract]
      by_cases hj : i < hp'.size
      · rw [if_pos (by omega)]; congr 1; omega
      · rw [if_neg (by omega)]; simp; omega
  · omega
theorem Gr.drawn {w w' : World} (h : Gr w w') : w.drawn ≤ w'.drawn := by
  obtain ⟨q, os, rfl⟩ := h
  show w.drawn ≤ w.drawn + q
  omega
theorem Gr.below {w w' : World} (h : Gr w w') : Below w.heap.size w w' := by
  obtain ⟨q, os, rfl⟩ := h
  refine ⟨rfl, rfl, rfl, by simp [Go.Sort.grow, World.drewN], fun k hk => ?_⟩
  show (w.heap ++ os)[k]? = _
  rw [Array.getElem?_append_left hk]
theorem Gr.trans {w w1 w2 : World} (h : Gr w w1) (k : Gr w1 w2) : Gr w w2 := .of (up_trans h.below k.below) (Nat.le_trans h.drawn k.drawn)
theorem Gr.alloc (w : World) (o : Obj) : Gr w (w.alloc o) := ⟨0, #[o], by rw [Go.Sort.alloc_eq_grow]; rfl⟩
theorem Gr.drew (w : World) : Gr w w.drew := ⟨1, #[], by rw [Go.Sort.grow_empty]; rfl⟩
theorem Gr.drewN (w : World) (n : Nat) : Gr w (w.drewN n) := ⟨n, #[], by rw [Go.Sort.grow_empty]⟩
theorem Gr.lt {w w' : World} (h : Gr w w') : w.heap.size ≤ w'.heap.size := h.below.size

/-- The first that is not 0. -/
def firstNZ : List (Nat × Int) → Int
  | [] => 0
  | p :: l => if p.2 = 0 then firstNZ l else p.2

theorem drop_getD {α : Type} (d : α) (xs : List α) (j : Nat) (h : j < xs.length) : xs.drop j = xs.getD j d :: xs.drop (j + 1) := by
  rw [List.drop_eq_getElem_cons h, List.getD_eq_getElem?_getD, List.getElem?_eq_getElem h]; rfl
theorem getD_mem {α : Type} (d : α) (xs : List α) (j : Nat) (h : j < xs.length) : xs.getD j d ∈ xs := by
  rw [List.getD_eq_getElem?_getD, List.getElem?_eq_getElem h]; exact List.getElem_mem h

set_option maxRecDepth 8000 in
set_option maxHeartbeats 2000000 in
theorem inV_any (fs : List (Nat × Int)) (b : Nat) (k1 : Int) (f1 : Value) (k2 : Int) (f2 : Value) (w : World) (hb : b < w.heap.size) (hl : fs.length ≤ 1000)
    (hr : ∀ j, j < fs.length → w.cell? ⟨b, j, none⟩ = some (.func (.func (fs.getD j (0, 0)).1) #[] #[]))
    (he : ∀ p ∈ fs, ∀ args w, (callFunc p.1 args).run Tryd.prog w = .ok (.enter p.1 args) w)
    (hc : ∀ p ∈ fs, ∀ w', Gr w w' → Calls Tryd.prog p.1 #[.agg #[.int .i64 k1, f1], .agg #[.int .i64 k2, f2]] w' fun e w2 => e = .returned (.int .i64 p.2) ∧ Gr w' w2) :
    Calls Tryd.prog 24 #[.agg #[.int .i64 k1, f1], .agg #[.int .i64 k2, f2], .slice (some ⟨b, 0, none⟩) fs.length fs.length] w fun e w' => e = .returned (.int .i64 (firstNZ fs)) ∧ Gr w w' := by
  obtain ⟨w2, hw2⟩ : ∃ w2, w2 = (w.alloc (.cells #[.int .i64 k1, f1] 45)).alloc (.cells #[.int .i64 k2, f2] 45) := ⟨_, rfl⟩
  have HB := hid (show Gr w w2 by rw [hw2]; exact (Gr.alloc _ _).trans (Gr.alloc _ _))
  have X0 := hid (show w2.heap[w.heap.size]? = some (.cells #[.int .i64 k1, f1] 45 (0, 0)) by rw [hw2, Below.heap_alloc _ _ _ (by simp)]; exact new_row _ _)
  have X1 := hid (show w2.heap[w.heap.size + 1]? = some (.cells #[.int .i64 k2, f2] 45 (0, 0)) by rw [hw2]; exact heap_alloc2_new _ _ _)
  have hs2 : w2.heap.size = w.heap.size + 2 := by rw [hw2]; simp
  have HR := hid hr
  have HE := hid he
  have HC := hid hc
  obtain ⟨n, hn⟩ : ∃ n, n = fs.length := ⟨_, rfl⟩
  have HN := hid hn
  rw [← hn] at hl hr ⊢
  clear hr he hc hn
  go_enter Tryd.func24, Tryd.ntmps24
  go_wp2
  rw [← hw2]
  clear hw2
  go_loopw [12] (fun v wr => ∃ j : Nat, j ≤ n ∧ v = .int .i64 j ∧ Hid (firstNZ (fs.drop j) = firstNZ fs) ∧ Hid (Gr w2 wr)) (fun v _ => n - (intOf v).toNat)
  case atStart => exact ⟨0, by omega, rfl, hid (by simp), hid (Gr.refl _)⟩
  case round =>
    obtain ⟨j, hj, rfl, hF, HBr⟩ := hrel
    by_cases hlt : j < n
    case pos =>
      have hlt4 : (j : Int) < (n : Int) := by omega
      have hX0 := (HBr.out.below.block w.heap.size (by omega)).trans X0.out
      have hX1 := (HBr.out.below.block (w.heap.size + 1) (by omega)).trans X1.out
      have c0 := cell_of_row (o := 0) hX0
      have c1 := cell_of_row (o := 1) hX0
      have c2 := cell_of_row (o := 0) hX1
      have c3 := cell_of_row (o := 1) hX1
      simp only [List.getElem?_toArray, List.getElem?_cons_zero, List.getElem?_cons_succ] at c0 c1 c2 c3
      have cf := ((HB.out.trans HBr.out).below.cell hb).trans (HR.out j (by rw [← HN.out]; exact hlt))
      have HE2 := hid (HE.out _ (getD_mem (0, 0) fs j (by rw [← HN.out]; exact hlt)))
      have HC2 := hid (HC.out _ (getD_mem (0, 0) fs j (by rw [← HN.out]; exact hlt)))
      have HS := hid (show firstNZ fs = if (fs.getD j (0, 0)).2 = 0 then firstNZ (fs.drop (j + 1)) else (fs.getD j (0, 0)).2 by rw [← hF.out, drop_getD (0, 0) fs j (by rw [← HN.out]; exact hlt)]; rfl)
      generalize fs.getD j (0, 0) = p at *
      obtain ⟨g, c⟩ := p
      dsimp only at *
      have eg := HE2.out
      clear hX0 hX1
      by_cases hz : c = 0
      case pos =>
        have HZ := hid (HS.out.trans (if_pos hz))
        subst hz
        clear HS
        go_wp2_with fail
        refine (HC2.out _ (HB.out.trans HBr.out)).mono ?_
        rintro e w3 ⟨rfl, hg⟩
        have HG := hid hg
        clear hg
        go_wp2
        go_round
        case rel => exact ⟨j + 1, by omega, by simp, hid HZ.out.symm, hid (HBr.out.trans HG.out)⟩
        case measure => simp [intOf]; omega
      case neg =>
        have HZ := hid (HS.out.trans (if_neg hz))
        have hz2 : (c != 0) = true := by simpa using hz
        clear HS
        go_wp2_with fail
        refine (HC2.out _ (HB.out.trans HBr.out)).mono ?_
        rintro e w3 ⟨rfl, hg⟩
        have HG := hid hg
        clear hg
        go_wp2
        go_ret
        exact ⟨ret_int HZ.out.symm, (HB.out.trans HBr.out).trans HG.out⟩
    case neg =>
      obtain rfl : j = n := by omega
      have HZ : Hid (firstNZ fs = 0) := hid (by rw [← hF.out, List.drop_eq_nil_of_le (by rw [← HN.out]; omega)]; rfl)
      go_wp2
      go_ret
      exact ⟨ret_int HZ.out.symm, HB.out.trans HBr.out⟩
set_option maxRecDepth 8000 in
set_option maxHeartbeats 2000000 in
theorem inR_any (fs : List (Nat × Int)) (b : Nat) (k1 : Int) (f1 : Value) (c1 : Int) (k2 : Int) (f2 : Value) (c2 : Int) (w : World) (hb : b < w.heap.size) (hl : fs.length ≤ 1000)
    (hr : ∀ j, j < fs.length → w.cell? ⟨b, j, none⟩ = some (.func (.func (fs.getD j (0, 0)).1) #[] #[]))
    (he : ∀ p ∈ fs, ∀ args w, (callFunc p.1 args).run Tryd.prog w = .ok (.enter p.1 args) w)
    (hc : ∀ p ∈ fs, ∀ w', Gr w w' → Calls Tryd.prog p.1 #[.agg #[.int .i64 k1, f1, .int .i64 c1], .agg #[.int .i64 k2, f2, .int .i64 c2]] w' fun e w2 => e = .returned (.int .i64 p.2) ∧ Gr w' w2) :
    Calls Tryd.prog 49 #[.agg #[.int .i64 k1, f1, .int .i64 c1], .agg #[.int .i64 k2, f2, .int .i64 c2], .slice (some ⟨b, 0, none⟩) fs.length fs.length] w fun e w' => e = .returned (.int .i64 (firstNZ fs)) ∧ Gr w w' := by
  obtain ⟨w2, hw2⟩ : ∃ w2, w2 = (w.alloc (.cells #[.int .i64 k1, f1, .int .i64 c1] 50)).alloc (.cells #[.int .i64 k2, f2, .int .i64 c2] 50) := ⟨_, rfl⟩
  have HB := hid (show Gr w w2 by rw [hw2]; exact (Gr.alloc _ _).trans (Gr.alloc _ _))
  have X0 := hid (show w2.heap[w.heap.size]? = some (.cells #[.int .i64 k1, f1, .int .i64 c1] 50 (0, 0)) by rw [hw2, Below.heap_alloc _ _ _ (by simp)]; exact new_row _ _)
  have X1 := hid (show w2.heap[w.heap.size + 1]? = some (.cells #[.int .i64 k2, f2, .int .i64 c2] 50 (0, 0)) by rw [hw2]; exact heap_alloc2_new _ _ _)
  have hs2 : w2.heap.size = w.heap.size + 2 := by rw [hw2]; simp
  have HR := hid hr
  have HE := hid he
  have HC := hid hc
  obtain ⟨n, hn⟩ : ∃ n, n = fs.length := ⟨_, rfl⟩
  have HN := hid hn
  rw [← hn] at hl hr ⊢
  clear hr he hc hn
  go_enter Tryd.func49, Tryd.ntmps49
  go_wp2
  rw [← hw2]
  clear hw2
  go_loopw [12] (fun v wr => ∃ j : Nat, j ≤ n ∧ v = .int .i64 j ∧ Hid (firstNZ (fs.drop j) = firstNZ fs) ∧ Hid (Gr w2 wr)) (fun v _ => n - (intOf v).toNat)
  case atStart => exact ⟨0, by omega, rfl, hid (by simp), hid (Gr.refl _)⟩
  case round =>
    obtain ⟨j, hj, rfl, hF, HBr⟩ := hrel
    by_cases hlt : j < n
    case pos =>
      have hlt4 : (j : Int) < (n : Int) := by omega
      have hX0 := (HBr.out.below.block w.heap.size (by omega)).trans X0.out
      have hX1 := (HBr.out.below.block (w.heap.size + 1) (by omega)).trans X1.out
      have q0 := cell_of_row (o := 0) hX0
      have q1 := cell_of_row (o := 1) hX0
      have q2 := cell_of_row (o := 2) hX0
      have q3 := cell_of_row (o := 0) hX1
      have q4 := cell_of_row (o := 1) hX1
      have q5 := cell_of_row (o := 2) hX1
      simp only [List.getElem?_toArray, List.getElem?_cons_zero, List.getElem?_cons_succ] at q0 q1 q2 q3 q4 q5
      have cf := ((HB.out.trans HBr.out).below.cell hb).trans (HR.out j (by rw [← HN.out]; exact hlt))
      have HE2 := hid (HE.out _ (getD_mem (0, 0) fs j (by rw [← HN.out]; exact hlt)))
      have HC2 := hid (HC.out _ (getD_mem (0, 0) fs j (by rw [← HN.out]; exact hlt)))
      have HS := hid (show firstNZ fs = if (fs.getD j (0, 0)).2 = 0 then firstNZ (fs.drop (j + 1)) else (fs.getD j (0, 0)).2 by rw [← hF.out, drop_getD (0, 0) fs j (by rw [← HN.out]; exact hlt)]; rfl)
      generalize fs.getD j (0, 0) = p at *
      obtain ⟨g, c⟩ := p
      dsimp only at *
      have eg := HE2.out
      clear hX0 hX1
      by_cases hz : c = 0
      case pos =>
        have HZ := hid (HS.out.trans (if_pos hz))
        subst hz
        clear HS
        go_wp2_with fail
        refine (HC2.out _ (HB.out.trans HBr.out)).mono ?_
        rintro e w3 ⟨rfl, hg⟩
        have HG := hid hg
        clear hg
        go_wp2
        go_round
        case rel => exact ⟨j + 1, by omega, by simp, hid HZ.out.symm, hid (HBr.out.trans HG.out)⟩
        case measure => simp [intOf]; omega
      case neg =>
        have HZ := hid (HS.out.trans (if_neg hz))
        have hz2 : (c != 0) = true := by simpa using hz
        clear HS
        go_wp2_with fail
        refine (HC2.out _ (HB.out.trans HBr.out)).mono ?_
        rintro e w3 ⟨rfl, hg⟩
        have HG := hid hg
        clear hg
        go_wp2
        go_ret
        exact ⟨ret_int HZ.out.symm, (HB.out.trans HBr.out).trans HG.out⟩
    case neg =>
      obtain rfl : j = n := by omega
      have HZ : Hid (firstNZ fs = 0) := hid (by rw [← hF.out, List.drop_eq_nil_of_le (by rw [← HN.out]; omega)]; rfl)
      go_wp2
      go_ret
      exact ⟨ret_int HZ.out.symm, HB.out.trans HBr.out⟩
end Go.Proofs.YtjocpbcmehicmaaDoor
