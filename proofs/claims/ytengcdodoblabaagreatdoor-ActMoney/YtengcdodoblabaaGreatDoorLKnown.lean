/- Signs; rows of values that are made; what is known. -/
import Derived.Test.YtengcdodoblabaaGreatDoorLBase
namespace Go.Proofs.YtengcdodoblabaaGreatDoor
open Go.RowKit

theorem put_res {w w5 : World} {R B : Nat} {k : Int} {sl : Value} {x : Val} (hrow : w5.heap[R]? = some (.cells #[.int .i64 0, .slice none 0 0] 27 (0, 0))) (hb : Below B w w5) (hR : B ≤ R) (hV : NV (R + 1) w5 (.agg #[.int .i64 k, sl]) x) :
    ((w5.setCell ⟨R, 0, none⟩ (.int .i64 k)).setCell ⟨R, 1, none⟩ sl).heap[R]? = some (.cells #[.int .i64 k, sl] 27 (0, 0)) ∧ Below B w ((w5.setCell ⟨R, 0, none⟩ (.int .i64 k)).setCell ⟨R, 1, none⟩ sl) ∧ NV B ((w5.setCell ⟨R, 0, none⟩ (.int .i64 k)).setCell ⟨R, 1, none⟩ sl) (.agg #[.int .i64 k, sl]) x :=
  ⟨heap_setCell_same _ _ 1 _ _ _ (heap_setCell_same _ _ 0 _ _ _ hrow), (hb.setCell (p := ⟨R, 0, none⟩) hR _).setCell (p := ⟨R, 1, none⟩) hR _, ((hV.set (by omega)).set (by omega)).low (by omega)⟩

/-- What a sign is. -/
def signL (c v l : Int) : Val := if c = 0 then ⟨1, [v, l]⟩ else if c ≤ 49 then ⟨2, [v]⟩ else ⟨3, []⟩

set_option maxRecDepth 8000 in
set_option maxHeartbeats 2000000 in
theorem sign_any (fr to c v l : Int) (w : World) (h0 : 0 ≤ c) (h1 : c ≤ 60) :
    Calls Tryz.prog 19 #[.agg #[.int .i64 fr, .int .i64 to, .int .i64 c, .int .i64 v, .int .i64 l]] w fun e w' => ∃ u, e = .returned u ∧ NV w.heap.size w' u (signL c v l) ∧ Below w.heap.size w w' := by
  obtain ⟨w1, hw1⟩ : ∃ w1, w1 = (w.alloc (.cells #[.int .i64 fr, .int .i64 to, .int .i64 c, .int .i64 v, .int .i64 l] 47)).alloc (.cells #[.int .i64 0, .slice none 0 0] 27) := ⟨_, rfl⟩
  have HB := hid (show Below w.heap.size w w1 by rw [hw1]; exact up_trans (up_alloc _ _) (up_alloc _ _))
  have X1 := hid (show w1.heap[w.heap.size + 1]? = some (.cells #[.int .i64 0, .slice none 0 0] 27 (0, 0)) by rw [hw1]; exact heap_alloc2_new _ _ _)
  have hs1 : w1.heap.size = w.heap.size + 2 := by rw [hw1]; simp
  have HF := hid (within_any c 1 49)
  have HM := hid (within_any c 50 60)
  by_cases hc : c = 0
  case pos =>
    have HE : Hid (signL c v l = ⟨1, [v, l]⟩) := hid (if_pos hc)
    generalize signL c v l = res at *
    subst hc
    have HN : Hid (∀ w', Below (w1.alloc (.cells #[.int .i64 v, .int .i64 l] 3)).heap.size (w1.alloc (.cells #[.int .i64 v, .int .i64 l] 3)) w' → NV (w.heap.size + 1 + 1) w' (.agg #[.int .i64 1, .slice (some ⟨w1.heap.size, 0, none⟩) 2 2]) ⟨1, [v, l]⟩) := hid fun w' hb => ⟨_, rfl, NA.lit (t := 3) [v, l] (by omega) (by simp) hb⟩
    have HX2 := hid ((up_alloc w1 (.cells #[.int .i64 v, .int .i64 l] 3)))
    go_enter Tryz.func19, Tryz.ntmps19
    go_wp2_with fail
    rw [← hw1, show w.heap.size + 1 + 1 = w1.heap.size by omega]
    refine (value_any _ _ _ _ _).mono ?_
    rintro e wv ⟨rfl, hb⟩
    have hrow := (hb.block (w.heap.size + 1) (by simp; omega)).trans ((HX2.out.block (w.heap.size + 1) (by omega)).trans X1.out)
    have Y := hid (put_res hrow (HB.out.trans ((up_trans HX2.out hb).mono HB.out.size)) (by omega) (HN.out wv hb))
    have c0 : wv.cell? ⟨w.heap.size + 1, 0, none⟩ = some (.int .i64 0) := by rw [cell_of_row hrow]; rfl
    have c1 : wv.cell? ⟨w.heap.size + 1, 1, none⟩ = some (.slice none 0 0) := by rw [cell_of_row hrow]; rfl
    have f0 : ∀ o, wv.frozen? ⟨w.heap.size + 1, o, none⟩ = false := fun o => frozen_of_row hrow
    clear hb hrow hw1 HN HX2 hs1
    go_wp2
    exact bodyPost_ret (v := .agg #[.int .i64 1, .slice (some ⟨w1.heap.size, 0, none⟩) 2 2]) (results_cell_row rfl _ _ (w.heap.size + 1) 27 _ (0, 0) _ rfl Y.out.1 Tryz.underlying27 rfl (by kernel_rfl)) rfl ⟨_, rfl, by rw [HE.out]; exact Y.out.2.2, Y.out.2.1⟩
  case neg =>
    have hc2 : (c == 0) = false := by simpa using hc
    by_cases h49 : c ≤ 49
    case pos =>
      have HE : Hid (signL c v l = ⟨2, [v]⟩) := hid ((if_neg hc).trans (if_pos h49))
      rw [inB_true (by omega) (by omega)] at HF
      generalize signL c v l = res at *
      have HN : Hid (∀ w', Below (w1.alloc (.cells #[.int .i64 v] 3)).heap.size (w1.alloc (.cells #[.int .i64 v] 3)) w' → NV (w.heap.size + 1 + 1) w' (.agg #[.int .i64 2, .slice (some ⟨w1.heap.size, 0, none⟩) 1 1]) ⟨2, [v]⟩) := hid fun w' hb => ⟨_, rfl, NA.lit (t := 3) [v] (by omega) (by simp) hb⟩
      have HX2 := hid ((up_alloc w1 (.cells #[.int .i64 v] 3)))
      go_enter Tryz.func19, Tryz.ntmps19
      go_wp2_with fail
      refine (HF.out _).mono ?_
      rintro e wn ⟨rfl, hw⟩
      obtain rfl := hw.symm
      clear hw
      go_wp2_with fail
      rw [← hw1, show w.heap.size + 1 + 1 = w1.heap.size by omega]
      refine (value_any _ _ _ _ _).mono ?_
      rintro e wv ⟨rfl, hb⟩
      have hrow := (hb.block (w.heap.size + 1) (by simp; omega)).trans ((HX2.out.block (w.heap.size + 1) (by omega)).trans X1.out)
      have Y := hid (put_res hrow (HB.out.trans ((up_trans HX2.out hb).mono HB.out.size)) (by omega) (HN.out wv hb))
      have c0 : wv.cell? ⟨w.heap.size + 1, 0, none⟩ = some (.int .i64 0) := by rw [cell_of_row hrow]; rfl
      have c1 : wv.cell? ⟨w.heap.size + 1, 1, none⟩ = some (.slice none 0 0) := by rw [cell_of_row hrow]; rfl
      have f0 : ∀ o, wv.frozen? ⟨w.heap.size + 1, o, none⟩ = false := fun o => frozen_of_row hrow
      clear hb hrow hw1 HN HX2 hs1
      go_wp2
      exact bodyPost_ret (v := .agg #[.int .i64 2, .slice (some ⟨w1.heap.size, 0, none⟩) 1 1]) (results_cell_row rfl _ _ (w.heap.size + 1) 27 _ (0, 0) _ rfl Y.out.1 Tryz.underlying27 rfl (by kernel_rfl)) rfl ⟨_, rfl, by rw [HE.out]; exact Y.out.2.2, Y.out.2.1⟩
    case neg =>
      have HE : Hid (signL c v l = ⟨3, []⟩) := hid ((if_neg hc).trans (if_neg h49))
      rw [inB_false (by omega)] at HF
      rw [inB_true (by omega) (by omega)] at HM
      generalize signL c v l = res at *
      go_enter Tryz.func19, Tryz.ntmps19
      go_wp2_with fail
      refine (HF.out _).mono ?_
      rintro e wn ⟨rfl, hw⟩
      obtain rfl := hw.symm
      clear hw
      go_wp2_with fail
      refine (HM.out _).mono ?_
      rintro e wn ⟨rfl, hw⟩
      obtain rfl := hw.symm
      clear hw
      go_wp2_with fail
      rw [← hw1]
      refine (value_any _ _ _ _ _).mono ?_
      rintro e wv ⟨rfl, hb⟩
      have hrow := (hb.block (w.heap.size + 1) (by omega)).trans X1.out
      have Y := hid (put_res (x := ⟨3, []⟩) hrow (HB.out.trans (hb.mono HB.out.size)) (by omega) (show NV (w.heap.size + 1 + 1) wv (.agg #[.int .i64 3, .slice none 0 0]) ⟨3, []⟩ from ⟨_, rfl, .inl ⟨rfl, rfl⟩⟩))
      have c0 : wv.cell? ⟨w.heap.size + 1, 0, none⟩ = some (.int .i64 0) := by rw [cell_of_row hrow]; rfl
      have c1 : wv.cell? ⟨w.heap.size + 1, 1, none⟩ = some (.slice none 0 0) := by rw [cell_of_row hrow]; rfl
      have f0 : ∀ o, wv.frozen? ⟨w.heap.size + 1, o, none⟩ = false := fun o => frozen_of_row hrow
      clear hb hrow hw1
      go_wp2
      exact bodyPost_ret (v := .agg #[.int .i64 3, .slice none 0 0]) (results_cell_row rfl _ _ (w.heap.size + 1) 27 _ (0, 0) _ rfl Y.out.1 Tryz.underlying27 rfl (by kernel_rfl)) rfl ⟨_, rfl, by rw [HE.out]; exact Y.out.2.2, Y.out.2.1⟩

theorem IA.at {w : World} {g : Nat} {t : TypeId} {fz : Nat × Nat} (xs : List Int) (h : w.heap[g]? = some (.cells (xs.map (fun x => Value.int .i64 x)).toArray t fz)) (hm : xs.length ≤ 1000) : IA w (.slice (some ⟨g, 0, none⟩) xs.length xs.length) xs := by
  refine ⟨_, _, rfl, ⟨by omega, Nat.le_refl _, by unfold maxLen; omega⟩, .inr ⟨g, 0, rfl, (Array.getElem?_eq_some_iff.1 h).1, fun j hj => ?_⟩⟩
  rw [Nat.zero_add, cell_of_row h]
  simp [List.getElem?_eq_getElem hj]
/-- The cells of a row of values. -/
def rowC : List (Int × Value) → List Value
  | [] => []
  | x :: l => .int .i64 x.1 :: x.2 :: rowC l
theorem rowC_at : ∀ (l : List (Int × Value)) (j : Nat) (x : Int × Value), l[j]? = some x → (rowC l)[j * 2]? = some (.int .i64 x.1) ∧ (rowC l)[j * 2 + 1]? = some x.2
  | [], _, _, h => by cases h
  | y :: l, 0, x, h => by
    injection h with h
    subst h
    exact ⟨rfl, rfl⟩
  | y :: l, j + 1, x, h => by
    have := rowC_at l j x h
    rw [show (j + 1) * 2 = j * 2 + 1 + 1 by omega]
    exact this
theorem LA.at {w : World} {g : Nat} {t : TypeId} {fz : Nat × Nat} (l : List Val) (fs : List Value) (hl : fs.length = l.length) (hm : l.length ≤ 1000) (h : w.heap[g]? = some (.cells (rowC ((l.map Val.kind).zip fs)).toArray t fz))
    (hf : ∀ (j : Nat) (x : Val) (v : Value), l[j]? = some x → fs[j]? = some v → IA w v x.f) : LA w (.slice (some ⟨g, 0, none⟩) l.length l.length) l := by
  refine ⟨_, _, rfl, ⟨by omega, Nat.le_refl _, by unfold maxLen; omega⟩, .inr ⟨g, 0, rfl, (Array.getElem?_eq_some_iff.1 h).1, fun j hj => ?_⟩⟩
  have h1 : l[j]? = some (l.getD j nilVal) := by rw [List.getD_eq_getElem?_getD, List.getElem?_eq_getElem hj]; rfl
  have h2 : fs[j]? = some (fs[j]'(by omega)) := List.getElem?_eq_getElem (by omega)
  have h3 : ((l.map Val.kind).zip fs)[j]? = some ((l.getD j nilVal).kind, fs[j]'(by omega)) := by
    rw [List.getElem?_zip_eq_some]
    exact ⟨by rw [List.getElem?_map, h1]; rfl, h2⟩
  obtain ⟨h4, h5⟩ := rowC_at _ j _ h3
  refine ⟨_, ?_, ?_, hf j _ _ h1 h2⟩
  · rw [Nat.zero_add, cell_of_row h, List.getElem?_toArray]; exact h4
  · rw [Nat.zero_add, cell_of_row h, List.getElem?_toArray]; exact h5
theorem LA.one {w : World} {g : Nat} {t : TypeId} {fz : Nat × Nat} {k1 : Int} {f1 : Value} {x1 : List Int} (h : w.heap[g]? = some (.cells #[.int .i64 k1, f1] t fz)) (h1 : IA w f1 x1) : LA w (.slice (some ⟨g, 0, none⟩) 1 1) [⟨k1, x1⟩] :=
  LA.at [⟨k1, x1⟩] [f1] rfl (by simp) h (fun j x v hx hv => by
    match j, hx, hv with
    | 0, rfl, rfl => exact h1)
theorem LA.two {w : World} {g : Nat} {t : TypeId} {fz : Nat × Nat} {k1 k2 : Int} {f1 f2 : Value} {x1 x2 : List Int} (h : w.heap[g]? = some (.cells #[.int .i64 k1, f1, .int .i64 k2, f2] t fz)) (h1 : IA w f1 x1) (h2 : IA w f2 x2) : LA w (.slice (some ⟨g, 0, none⟩) 2 2) [⟨k1, x1⟩, ⟨k2, x2⟩] :=
  LA.at [⟨k1, x1⟩, ⟨k2, x2⟩] [f1, f2] rfl (by simp) h (fun j x v hx hv => by
    match j, hx, hv with
    | 0, rfl, rfl => exact h1
    | 1, rfl, rfl => exact h2)
theorem LA.three {w : World} {g : Nat} {t : TypeId} {fz : Nat × Nat} {k1 k2 k3 : Int} {f1 f2 f3 : Value} {x1 x2 x3 : List Int} (h : w.heap[g]? = some (.cells #[.int .i64 k1, f1, .int .i64 k2, f2, .int .i64 k3, f3] t fz)) (h1 : IA w f1 x1) (h2 : IA w f2 x2) (h3 : IA w f3 x3) : LA w (.slice (some ⟨g, 0, none⟩) 3 3) [⟨k1, x1⟩, ⟨k2, x2⟩, ⟨k3, x3⟩] :=
  LA.at [⟨k1, x1⟩, ⟨k2, x2⟩, ⟨k3, x3⟩] [f1, f2, f3] rfl (by simp) h (fun j x v hx hv => by
    match j, hx, hv with
    | 0, rfl, rfl => exact h1
    | 1, rfl, rfl => exact h2
    | 2, rfl, rfl => exact h3)
theorem LA.get {w : World} {g n cap : Nat} {l : List Val} (h : LA w (.slice (some ⟨g, 0, none⟩) n cap) l) (j : Nat) (hj : j < l.length) : ∃ fv, w.cell? ⟨g, j * 2, none⟩ = some (.int .i64 (l.getD j nilVal).kind) ∧ w.cell? ⟨g, j * 2 + 1, none⟩ = some fv ∧ IA w fv (l.getD j nilVal).f := by
  obtain ⟨ad, c, e, _, h1⟩ := h
  injection e with e1 e2 e3
  rcases h1 with ⟨rfl, _⟩ | ⟨b, o, rfl, _, h2⟩
  · cases e1
  · injection e1 with e1
    injection e1 with e1 e4
    subst e1 e4
    have := h2 j hj
    rw [Nat.zero_add] at this
    exact this
/-- Objects made one behind the other. -/
theorem chain_heap (w : World) (l : List Obj) : (∀ j x, l[j]? = some x → (l.foldl World.alloc w).heap[w.heap.size + j]? = some x) ∧ Below w.heap.size w (l.foldl World.alloc w) ∧ (l.foldl World.alloc w).heap.size = w.heap.size + l.length := by
  induction l generalizing w with
  | nil => exact ⟨fun j x h => by simp at h, Below.refl _ _, rfl⟩
  | cons o l ih =>
    obtain ⟨h1, h2, h3⟩ := ih (w.alloc o)
    have hs : (w.alloc o).heap.size = w.heap.size + 1 := by simp
    refine ⟨fun j x h => ?_, up_trans (up_alloc w o) h2, ?_⟩
    · cases j with
      | zero =>
        injection h with h
        subst h
        show ((l.foldl World.alloc (w.alloc o))).heap[w.heap.size + 0]? = some o
        rw [h2.block _ (by simp)]
        exact new_row w o
      | succ j =>
        have := h1 j x h
        rw [hs] at this
        rw [show w.heap.size + (j + 1) = w.heap.size + 1 + j by omega]
        exact this
    · show (l.foldl World.alloc (w.alloc o)).heap.size = w.heap.size + (l.length + 1)
      rw [h3, hs]; omega

def refK : Mom := ⟨2024, 2, 28, 0, 0, 0⟩
def kids3 : List Val := [⟨1, [24, 2]⟩, ⟨2, [2]⟩, ⟨1, [29, 2]⟩]
theorem known_made : doO 1 (madeO 1 refK kids3) = some ⟨4, [2024, 2, 29]⟩ := by kernel_rfl
theorem known_year : yearB ⟨1, [24, 2]⟩ 2024 = some 2024 := by kernel_rfl
theorem known_right : rightB nilVal = false := by decide
theorem refK_right : RR refK := by unfold RR; decide

set_option maxRecDepth 8000 in
set_option maxHeartbeats 2000000 in
theorem known_any (p : Value) (w : World) (hT : Tabs p w) : Calls Tryz.prog 6 #[] w fun e w' => e = .returned (.bool true) ∧ Below w.heap.size w w' := by
  obtain ⟨w1, hw1⟩ : ∃ w1, w1 = (((((w.alloc (.cells #[.int .i64 2024, .int .i64 2, .int .i64 28, .int .i64 0, .int .i64 0, .int .i64 0] 32)).alloc (.cells #[.int .i64 24, .int .i64 2] 3)).alloc (.cells #[.int .i64 2] 3)).alloc (.cells #[.int .i64 29, .int .i64 2] 3)).alloc (.cells #[.int .i64 1, .slice (some ⟨w.heap.size + 1, 0, none⟩) 2 2, .int .i64 2, .slice (some ⟨w.heap.size + 1 + 1, 0, none⟩) 1 1, .int .i64 1, .slice (some ⟨w.heap.size + 1 + 1 + 1, 0, none⟩) 2 2] 27)).alloc (.cells #[.int .i64 0, .int .i64 1, .int .i64 2] 3) := ⟨_, rfl⟩
  obtain ⟨hc, hb, hs⟩ := chain_heap w [.cells #[.int .i64 2024, .int .i64 2, .int .i64 28, .int .i64 0, .int .i64 0, .int .i64 0] 32, .cells #[.int .i64 24, .int .i64 2] 3, .cells #[.int .i64 2] 3, .cells #[.int .i64 29, .int .i64 2] 3, .cells #[.int .i64 1, .slice (some ⟨w.heap.size + 1, 0, none⟩) 2 2, .int .i64 2, .slice (some ⟨w.heap.size + 1 + 1, 0, none⟩) 1 1, .int .i64 1, .slice (some ⟨w.heap.size + 1 + 1 + 1, 0, none⟩) 2 2] 27, .cells #[.int .i64 0, .int .i64 1, .int .i64 2] 3]
  simp only [List.foldl_cons, List.foldl_nil] at hc hb hs
  rw [← hw1] at hc hb hs
  have k0 := hc 0 _ rfl
  have k1 := hc 1 _ rfl
  have k2 := hc 2 _ rfl
  have k3 := hc 3 _ rfl
  have k4 := hc 4 _ rfl
  have k5 := hc 5 _ rfl
  have I1 := IA.at [24, 2] k1 (by simp)
  have I2 := IA.at [2] k2 (by simp)
  have I3 := IA.at [29, 2] k3 (by simp)
  have I5 := IA.at [0, 1, 2] k5 (by simp)
  have HL := hid (LA.three k4 I1 I2 I3)
  have HD := hid (made_any (p := p) 1 refK kids3 [0, 1, 2] _ _ w1 (by decide) I5 HL.out (hT.on hb) (by decide) trivial refK_right)
  rw [show doO 1 (madeO 1 refK (List.map (fun (q : Int) => kids3.getD q.toNat nilVal) [0, 1, 2])) = some ⟨4, [2024, 2, 29]⟩ from known_made] at HD
  have K0 := hid k0
  have HB := hid hb
  have HT := hid hT
  clear hc k1 k2 k3 k5 I1 I2 I3 I5 hT k0 k4 hb
  go_enter Tryz.func6, Tryz.ntmps6
  go_wp2_with fail
  rw [← hw1]
  refine HD.out.mono ?_
  rintro e w2 ⟨hb2, hr⟩
  obtain ⟨v, rfl, hv⟩ := hr
  obtain ⟨fv, rfl, hf⟩ := hv
  have HI := hid hf.ia
  obtain ⟨b, o, cap, rfl, hc1, hc2, hlt⟩ := hf.ia.has3
  dsimp only at *
  obtain ⟨w3, hw3⟩ : ∃ w3, w3 = w2.alloc (.cells #[.int .i64 4, .slice (some ⟨b, o, none⟩) 3 cap] 27) := ⟨_, rfl⟩
  have HB3 := hid (show Below w1.heap.size w1 w3 by rw [hw3]; exact up_trans hb2 (up_alloc _ _))
  have X3 := hid (show w3.heap[w2.heap.size]? = some (.cells #[.int .i64 4, .slice (some ⟨b, o, none⟩) 3 cap] 27 (0, 0)) by rw [hw3]; exact new_row _ _)
  have HI3 := hid (HI.out.on (show Below w2.heap.size w2 w3 by rw [hw3]; exact up_alloc _ _))
  simp only [List.length_cons, List.length_nil, Nat.zero_add, Nat.reduceAdd] at hs
  have hs3 : w1.heap.size ≤ w3.heap.size := HB3.out.size
  have K3 := hid ((HB3.out.block w.heap.size (by omega)).trans K0.out)
  have r0 : w3.cell? ⟨w.heap.size, 0, none⟩ = some (.int .i64 2024) := by rw [cell_of_row K3.out]; rfl
  have r1 : w3.cell? ⟨w.heap.size, 1, none⟩ = some (.int .i64 2) := by rw [cell_of_row K3.out]; rfl
  have r2 : w3.cell? ⟨w.heap.size, 2, none⟩ = some (.int .i64 28) := by rw [cell_of_row K3.out]; rfl
  have r3 : w3.cell? ⟨w.heap.size, 3, none⟩ = some (.int .i64 0) := by rw [cell_of_row K3.out]; rfl
  have r4 : w3.cell? ⟨w.heap.size, 4, none⟩ = some (.int .i64 0) := by rw [cell_of_row K3.out]; rfl
  have r5 : w3.cell? ⟨w.heap.size, 5, none⟩ = some (.int .i64 0) := by rw [cell_of_row K3.out]; rfl
  obtain ⟨gv, g0, g1, g2⟩ := (HL.out.on HB3.out).get 0 (by simp)
  have hgl : w.heap.size < w3.heap.size := by omega
  have hgl4 : w.heap.size + 1 + 1 + 1 + 1 < w3.heap.size := by omega
  have g0 : w3.cell? ⟨w.heap.size + 1 + 1 + 1 + 1, 0, none⟩ = some (.int .i64 1) := g0
  have g1 : w3.cell? ⟨w.heap.size + 1 + 1 + 1 + 1, 1, none⟩ = some gv := g1
  have g2 : IA w3 gv [24, 2] := g2
  have HY := hid fun (s : Ci.Ext w3) => year_any p ⟨1, [24, 2]⟩ (.agg #[.int .i64 1, gv]) refK s.out ⟨gv, rfl, g2.on s.below⟩ ((HT.out.on (HB.out.trans (HB3.out.mono HB.out.size))).on s.below) (by decide) (by decide)
  obtain ⟨bg, og, capg, rfl, _⟩ := g2.has2
  rw [show refK.y = 2024 from rfl, known_year] at HY
  unfold yrV momV refK at HY
  dsimp only at HY
  clear hf hb2 HD K0 g2
  have hw3' := hid hw3
  go_wp2_with fail
  rw [← hw3]
  clear hw3 hw1
  refine Ci.wp_region_ext2 (by kernel_rfl) (by kernel_rfl) (fun hne hcell => ?_)
  repeat (go_big_quiet_step ((go_at_call 18; exact (HY.out _).mono (fun e w' h => ⟨h.1, Ci.Ext.to _ h.2⟩))))
  refine wpQuiet_nil ?_
  rintro _ ⟨s, rfl⟩
  have HB4 := hid s.below
  have HT4 := hid ((HT.out.on (HB.out.trans (HB3.out.mono HB.out.size))).on s.below)
  have hfd : ∀ (k : Int) (x : Value) (W : World), (Instr.field 27 (.agg #[.int .i64 k, x]) 0).run Tryz.prog W = .ok (.int .i64 k) W := fun _ _ _ => by kernel_rfl
  clear hne hcell HY r0 r1 r2 r3 r4 r5 g0 g1
  generalize s.out = w4 at *
  have HR := hid (right_any p nilVal (.agg #[.int .i64 0, .slice none 0 0]) w4 ⟨_, rfl, IA.nil _⟩ HT4.out)
  rw [known_right] at HR
  go_wp2_with fail
  refine HR.out.mono ?_
  rintro e w5 ⟨rfl, hb5⟩
  have X5 := (hb5.block _ (Array.getElem?_eq_some_iff.1 ((HB4.out.block _ (Array.getElem?_eq_some_iff.1 X3.out).1).trans X3.out)).1).trans ((HB4.out.block _ (Array.getElem?_eq_some_iff.1 X3.out).1).trans X3.out)
  have x0 : w5.cell? ⟨w2.heap.size, 0, none⟩ = some (.int .i64 4) := by rw [cell_of_row X5]; rfl
  have x1 : w5.cell? ⟨w2.heap.size, 1, none⟩ = some (.slice (some ⟨b, o, none⟩) 3 cap) := by rw [cell_of_row X5]; rfl
  have e0 := ((HI3.out.on HB4.out).on hb5).cell0
  have e2 := ((HI3.out.on HB4.out).on hb5).cell2
  have HB5 := hid (up_trans (HB3.out.trans (HB4.out.mono HB3.out.size)) hb5)
  have HS := hid (sign_any 0 0 50 0 0 w5 (by decide) (by decide))
  rw [show signL 50 0 0 = ⟨3, []⟩ from rfl] at HS
  clear hb5 X5 HR
  go_wp2_with fail
  refine HS.out.mono ?_
  rintro e w6 ⟨u, rfl, hu, hb6⟩
  obtain ⟨fu, rfl, _⟩ := hu
  have HB6 := hid (HB.out.trans ((up_trans HB5.out hb6).mono HB.out.size))
  clear hb6
  dsimp only
  go_wp2
  go_ret
  exact ⟨rfl, HB6.out⟩
end Go.Proofs.YtengcdodoblabaaGreatDoor
