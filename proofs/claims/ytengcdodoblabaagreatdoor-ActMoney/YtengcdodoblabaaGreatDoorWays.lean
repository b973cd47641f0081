/- An action at work: what each of its steps leaves; rows of numbers of one's own. -/
import Derived.Test.YtengcdodoblabaaGreatDoorYear
namespace Go.Proofs.YtengcdodoblabaaGreatDoor
open Go.RowKit

/-- A row of numbers of its own, of a block from B on. -/
def NA (B : Nat) (w : World) (v : Value) (xs : List Int) : Prop :=
  (xs = [] ∧ v = .slice none 0 0) ∨
  ∃ (b cap : Nat) (cs : Array Value) (t : TypeId), v = .slice (some ⟨b, 0, none⟩) xs.length cap ∧ (xs.length ≤ 1000000 ∧ xs.length ≤ cap ∧ cap ≤ maxLen) ∧ B ≤ b ∧ w.heap[b]? = some (.cells cs t (0, 0)) ∧ ∀ j, j < xs.length → cs[j]? = some (.int .i64 (xs.getD j 0))
theorem NA.ia {B : Nat} {w : World} {v : Value} {xs : List Int} (h : NA B w v xs) : IA w v xs := by
  rcases h with ⟨rfl, rfl⟩ | ⟨b, cap, cs, t, h1, h2, h3, h4, h5⟩
  · exact IA.nil w
  · exact ⟨_, _, h1, h2, .inr ⟨b, 0, rfl, (Array.getElem?_eq_some_iff.1 h4).1, fun j hj => by rw [Nat.zero_add, cell_of_row h4]; exact h5 j hj⟩⟩
theorem NA.on {B : Nat} {w w' : World} {v : Value} {xs : List Int} (h : NA B w v xs) (hb : Below w.heap.size w w') : NA B w' v xs := by
  rcases h with h | ⟨b, cap, cs, t, h1, h2, h3, h4, h5⟩
  · exact .inl h
  · exact .inr ⟨b, cap, cs, t, h1, h2, h3, (hb.block b (Array.getElem?_eq_some_iff.1 h4).1).trans h4, h5⟩
theorem NA.low {B B' : Nat} {w : World} {v : Value} {xs : List Int} (h : NA B w v xs) (hb : B' ≤ B) : NA B' w v xs := by
  rcases h with h | ⟨b, cap, cs, t, h1, h2, h3, h4, h5⟩
  · exact .inl h
  · exact .inr ⟨b, cap, cs, t, h1, h2, Nat.le_trans hb h3, h4, h5⟩
theorem NA.set {B R j : Nat} {w : World} {v u : Value} {xs : List Int} (h : NA B w v xs) (hR : R < B) : NA B (w.setCell ⟨R, j, none⟩ u) v xs := by
  rcases h with h | ⟨b, cap, cs, t, h1, h2, h3, h4, h5⟩
  · exact .inl h
  · exact .inr ⟨b, cap, cs, t, h1, h2, h3, (Below.heap_setCell _ _ _ _ (show b ≠ R by omega)).trans h4, h5⟩
theorem NA.lit {B : Nat} {w w' : World} {t : TypeId} (xs : List Int) (hB : B ≤ w.heap.size) (hm : xs.length ≤ 1000)
    (hb : Below (w.alloc (.cells (xs.map (fun x => Value.int .i64 x)).toArray t)).heap.size (w.alloc (.cells (xs.map (fun x => Value.int .i64 x)).toArray t)) w') : NA B w' (.slice (some ⟨w.heap.size, 0, none⟩) xs.length xs.length) xs := by
  refine .inr ⟨w.heap.size, xs.length, _, t, rfl, ⟨by omega, Nat.le_refl _, by unfold maxLen; omega⟩, hB, (hb.block _ (by simp)).trans (new_row w _), fun j hj => ?_⟩
  simp [List.getElem?_eq_getElem hj]
/-- A value of its own. -/
def NV (B : Nat) (w : World) (v : Value) (x : Val) : Prop := ∃ fv, v = .agg #[.int .i64 x.kind, fv] ∧ NA B w fv x.f
theorem NV.va {B : Nat} {w : World} {v : Value} {x : Val} (h : NV B w v x) : VA w v x := by
  obtain ⟨fv, h1, h2⟩ := h
  exact ⟨fv, h1, h2.ia⟩
theorem NV.on {B : Nat} {w w' : World} {v : Value} {x : Val} (h : NV B w v x) (hb : Below w.heap.size w w') : NV B w' v x := by
  obtain ⟨fv, h1, h2⟩ := h
  exact ⟨fv, h1, h2.on hb⟩
theorem NV.low {B B' : Nat} {w : World} {v : Value} {x : Val} (h : NV B w v x) (hb : B' ≤ B) : NV B' w v x := by
  obtain ⟨fv, h1, h2⟩ := h
  exact ⟨fv, h1, h2.low hb⟩
theorem NV.set {B R j : Nat} {w : World} {v u : Value} {x : Val} (h : NV B w v x) (hR : R < B) : NV B (w.setCell ⟨R, j, none⟩ u) v x := by
  obtain ⟨fv, h1, h2⟩ := h
  exact ⟨fv, h1, h2.set hR⟩

theorem need_no' (p : Value) (w : World) (hT : Tabs p w) {b : Bool} (hb : b = false) : Calls Tryz.prog 52 #[.bool b] w fun e w' => e = .panicked (boom p) ∧ w' = w := by subst hb; exact need_no p w hT
theorem need_yes' (w : World) {b : Bool} (hb : b = true) : Calls Tryz.prog 52 #[.bool b] w fun e w' => e = .returned (.tuple #[]) ∧ w' = w := by subst hb; exact need_yes w

section
variable (p : Value) (W0 : World) (g : Nat) (op : Int) (r : Mom)
/-- An action's method at work, called at world w: its answer's cell, and what it has done. -/
structure At (cs : List Val) (w w' : World) : Prop where
  dd : DD p W0 g op r cs w'
  lt : g < w.heap.size
  row : w'.heap[w.heap.size]? = some (.cells #[.int .i64 0, .slice none 0 0] 27 (0, 0))
  grown : w.grownBy w' (some g)
end
section
variable {p : Value} {W0 : World} {g : Nat} {op : Int} {r : Mom}
theorem DD.gle {cs : List Val} {w : World} (h : DD p W0 g op r cs w) : W0.heap.size ≤ g := by
  obtain ⟨_, _, _, _, _, h2, _⟩ := h
  exact h2
theorem At.start {cs : List Val} {w : World} (h : DD p W0 g op r cs w) : At p W0 g op r cs w (w.alloc (.cells #[.int .i64 0, .slice none 0 0] 27)) :=
  ⟨h.on (up_alloc _ _), h.lt, new_row _ _, grown_of (up_alloc _ _)⟩
theorem At.size {cs : List Val} {w w' : World} (h : At p W0 g op r cs w w') : w.heap.size < w'.heap.size := (Array.getElem?_eq_some_iff.1 h.row).1
theorem At.step {cs cs' : List Val} {w w1 w2 : World} (h : At p W0 g op r cs w w1) (hg : w1.grownBy w2 (some g)) (hd : DD p W0 g op r cs' w2) : At p W0 g op r cs' w w2 :=
  ⟨hd, h.lt, (hg.block _ h.size (fun e => by injection e with e; have := h.lt; omega)).trans h.row, grown_on h.grown hg⟩
theorem At.up {cs : List Val} {w w1 w2 : World} (h : At p W0 g op r cs w w1) (hb : Below w1.heap.size w1 w2) : At p W0 g op r cs w w2 :=
  ⟨h.dd.on hb, h.lt, (hb.block _ h.size).trans h.row, grown_up h.grown hb⟩
theorem At.c0 {cs : List Val} {w w' : World} (h : At p W0 g op r cs w w') : w'.cell? ⟨w.heap.size, 0, none⟩ = some (.int .i64 0) := by rw [cell_of_row h.row]; rfl
theorem At.c1 {cs : List Val} {w w' : World} (h : At p W0 g op r cs w w') : w'.cell? ⟨w.heap.size, 1, none⟩ = some (.slice none 0 0) := by rw [cell_of_row h.row]; rfl
theorem At.fz {cs : List Val} {w w' : World} (h : At p W0 g op r cs w w') (o : Nat) : w'.frozen? ⟨w.heap.size, o, none⟩ = false := frozen_of_row h.row
theorem At.no {α : Type} {V : World → Value → α → Prop} {o : Option (α × List Val)} {cs : List Val} {w w1 w2 : World} (h : At p W0 g op r cs w w1) (hg : w1.grownBy w2 (some g)) (ho : o = none) : Ret p W0 g op r w V o (.panicked (boom p)) w2 := Ret.no ho (grown_on h.grown hg)
theorem At.yes {k : Int} {sl : Value} {o : Option (Val × List Val)} {x : Val} {cs : List Val} {w w5 : World} (h : At p W0 g op r cs w w5) (hV : NV (w.heap.size + 1) w5 (.agg #[.int .i64 k, sl]) x) (ho : o = some (x, cs)) :
    ((w5.setCell ⟨w.heap.size, 0, none⟩ (.int .i64 k)).setCell ⟨w.heap.size, 1, none⟩ sl).heap[w.heap.size]? = some (.cells #[.int .i64 k, sl] 27 (0, 0)) ∧
    Ret p W0 g op r w (NV w.heap.size) o (.returned (.agg #[.int .i64 k, sl])) ((w5.setCell ⟨w.heap.size, 0, none⟩ (.int .i64 k)).setCell ⟨w.heap.size, 1, none⟩ sl) := by
  have hl := h.lt
  have hgl := h.dd.gle
  have hgr : ((w5.setCell ⟨w.heap.size, 0, none⟩ (.int .i64 k)).setCell ⟨w.heap.size, 1, none⟩ sl) = ((w5.setCell ⟨w.heap.size, 0, none⟩ (.int .i64 k)).setCell ⟨w.heap.size, 1, none⟩ sl) := rfl
  refine ⟨heap_setCell_same _ _ 1 _ _ _ (heap_setCell_same _ _ 0 _ _ _ h.row), ?_⟩
  refine Ret.yes ho (grown_new (grown_new h.grown (Nat.le_refl _) (set_by _ _ _ _)) (Nat.le_refl _) (set_by _ _ _ _)) (((hV.set (by omega)).set (by omega)).low (by omega)) ?_
  exact (h.dd.far (set_by _ _ _ _) hl).far (set_by _ _ _ _) hl

theorem DD.cells {cs : List Val} {w : World} (h : DD p W0 g op r cs w) : w.cell? ⟨g, 0, none⟩ = some (.int .i64 op) ∧ w.cell? ⟨g, 3, none⟩ = some (.int .i64 r.y) ∧ w.cell? ⟨g, 4, none⟩ = some (.int .i64 r.m) ∧ w.cell? ⟨g, 5, none⟩ = some (.int .i64 r.d) ∧ w.cell? ⟨g, 6, none⟩ = some (.int .i64 r.h) ∧ w.cell? ⟨g, 7, none⟩ = some (.int .i64 r.i) ∧ w.cell? ⟨g, 8, none⟩ = some (.int .i64 r.s) := by
  obtain ⟨lv, l, pv, ps, h1, _⟩ := h
  refine ⟨?_, ?_, ?_, ?_, ?_, ?_, ?_⟩ <;> rw [cell_of_row h1] <;> rfl
/-- How many children are left. -/
theorem DD.places {cs : List Val} {w : World} (h : DD p W0 g op r cs w) : ∃ ad cap, w.cell? ⟨g, 2, none⟩ = some (.slice ad cs.length cap) := by
  obtain ⟨lv, l, pv, ps, h1, _, _, h4, _, h6, _⟩ := h
  obtain ⟨ad, cap, e, _⟩ := h4.shape
  refine ⟨ad, cap, ?_⟩
  rw [cell_of_row h1, h6, e]; simp

theorem DD.few {c : Val} {cs : List Val} {w : World} (h : DD p W0 g op r (c :: cs) w) : cs.length ≤ 1000000 := by
  obtain ⟨lv, l, pv, ps, h1, _, _, h4, _, h6, _⟩ := h
  have hm := h4.shape.choose_spec.choose_spec.2.2.2
  have : (c :: cs).length = ps.length := by rw [h6]; simp
  simp at this
  omega
def numC (c : Val) : Option Int := if takeB 1 c then some (c.f.getD 0 0) else none
def wordC (c : Val) : Option Int := if takeB 2 c then some (c.f.getD 0 0) else none
def cntC (c : Val) : Option Int := if c.kind = 2 then wordC c else numC c
def takC (k : Int) (c : Val) : Option (List Int) := if takeB k c then some c.f else none
theorem numO_cons (c : Val) (cs : List Val) : numO (c :: cs) = (numC c).map (fun z => (z, cs)) := by
  show headO (if takeB 1 c then some (c.f, cs) else none) = _
  unfold numC; split <;> rfl
theorem wordO_cons (c : Val) (cs : List Val) : wordO (c :: cs) = (wordC c).map (fun z => (z, cs)) := by
  show headO (if takeB 2 c then some (c.f, cs) else none) = _
  unfold wordC; split <;> rfl
theorem countO_cons (c : Val) (cs : List Val) : countO (c :: cs) = (cntC c).map (fun z => (z, cs)) := by
  show (if c.kind = 2 then wordO (c :: cs) else numO (c :: cs)) = _
  unfold cntC; split <;> simp only [wordO_cons, numO_cons]
theorem takeO_cons (k : Int) (c : Val) (cs : List Val) : takeO k (c :: cs) = (takC k c).map (fun z => (z, cs)) := by
  show (if takeB k c then some (c.f, cs) else none) = _
  unfold takC; split <;> rfl
theorem num_any (c : Val) (cs : List Val) (w : World) (h : DD p W0 g op r (c :: cs) w) :
    Calls Tryz.prog 78 #[.pointer (some ⟨g, 0, none⟩)] w (Ret p W0 g op r w IntV ((numC c).map (fun z => (z, cs)))) := by
  rw [← numO_cons]; exact number_any c cs w h
theorem wrd_any (c : Val) (cs : List Val) (w : World) (h : DD p W0 g op r (c :: cs) w) :
    Calls Tryz.prog 79 #[.pointer (some ⟨g, 0, none⟩)] w (Ret p W0 g op r w IntV ((wordC c).map (fun z => (z, cs)))) := by
  rw [← wordO_cons]; exact word_any c cs w h
theorem cnt_any (c : Val) (cs : List Val) (w : World) (h : DD p W0 g op r (c :: cs) w) :
    Calls Tryz.prog 77 #[.pointer (some ⟨g, 0, none⟩)] w (Ret p W0 g op r w IntV ((cntC c).map (fun z => (z, cs)))) := by
  rw [← countO_cons]; exact count_any c cs w h
theorem tak_any (k : Int) (c : Val) (cs : List Val) (w : World) (h : DD p W0 g op r (c :: cs) w) :
    Calls Tryz.prog 80 #[.pointer (some ⟨g, 0, none⟩), .int .i64 k] w (Ret p W0 g op r w (fun _ v x => IA W0 v x) ((takC k c).map (fun z => (z, cs)))) := by
  rw [← takeO_cons]; exact take_any k c cs w h
theorem takC_some {k : Int} {c : Val} {f : List Int} (h : takC k c = some f) : c = ⟨k, f⟩ ∧ wholeB c = true ∧ (4 ≤ k → rightB c = true) := by
  unfold takC at h
  by_cases hb : takeB k c = true
  · rw [if_pos hb] at h
    unfold takeB at hb
    simp only [Bool.and_eq_true, beq_iff_eq, Bool.or_eq_true, decide_eq_true_eq] at hb
    obtain ⟨⟨h1, h2⟩, h3⟩ := hb
    obtain ⟨k', f'⟩ := c
    injection h with h
    dsimp only at h1 h
    subst h1 h
    exact ⟨rfl, h2, fun h4 => h3.resolve_left (by omega)⟩
  · rw [if_neg hb] at h; cases h

theorem IA.cell0 {w : World} {b o n cap : Nat} {x : Int} {xs : List Int} (h : IA w (.slice (some ⟨b, o, none⟩) n cap) (x :: xs)) : w.cell? ⟨b, o, none⟩ = some (.int .i64 x) := h.cell 0 (by simp)
theorem IA.cell1 {w : World} {b o n cap : Nat} {x y : Int} {xs : List Int} (h : IA w (.slice (some ⟨b, o, none⟩) n cap) (x :: y :: xs)) : w.cell? ⟨b, o + 1, none⟩ = some (.int .i64 y) := h.cell 1 (by simp)
theorem IA.cell2 {w : World} {b o n cap : Nat} {x y z : Int} {xs : List Int} (h : IA w (.slice (some ⟨b, o, none⟩) n cap) (x :: y :: z :: xs)) : w.cell? ⟨b, o + 2, none⟩ = some (.int .i64 z) := h.cell 2 (by simp)
theorem IA.has1 {w : World} {v : Value} {x : Int} (h : IA w v [x]) : ∃ b o cap, v = .slice (some ⟨b, o, none⟩) 1 cap ∧ 1 ≤ cap ∧ cap ≤ maxLen ∧ b < w.heap.size := by
  obtain ⟨b, o, cap, e, h1, h2, h3, _⟩ := h.has (by simp)
  exact ⟨b, o, cap, e, h1, h2, h3⟩
theorem IA.has2 {w : World} {v : Value} {x y : Int} (h : IA w v [x, y]) : ∃ b o cap, v = .slice (some ⟨b, o, none⟩) 2 cap ∧ 2 ≤ cap ∧ cap ≤ maxLen ∧ b < w.heap.size := by
  obtain ⟨b, o, cap, e, h1, h2, h3, _⟩ := h.has (by simp)
  exact ⟨b, o, cap, e, h1, h2, h3⟩
theorem IA.has3 {w : World} {v : Value} {x y z : Int} (h : IA w v [x, y, z]) : ∃ b o cap, v = .slice (some ⟨b, o, none⟩) 3 cap ∧ 3 ≤ cap ∧ cap ≤ maxLen ∧ b < w.heap.size := by
  obtain ⟨b, o, cap, e, h1, h2, h3, _⟩ := h.has (by simp)
  exact ⟨b, o, cap, e, h1, h2, h3⟩
theorem takC_len {k : Int} {c : Val} {f : List Int} (h : takC k c = some f) : (f.length : Int) = fieldsL.getD k.toNat 0 := by
  obtain ⟨rfl, h2, _⟩ := takC_some h
  exact (len_of_whole h2).2
theorem takC_dec {c : Val} {m s : Int} (h : takC 7 c = some [m, s]) : -999999999999999999 ≤ m ∧ m ≤ 999999999999999999 ∧ 0 ≤ s ∧ s ≤ 18 := by
  obtain ⟨rfl, h2, h3⟩ := takC_some h
  have h4 : boundB 7 [m, s] = true := by
    have := h3 (by decide)
    unfold rightB at this
    exact (Bool.and_eq_true _ _ ▸ this).2
  have h5 : normB m s = true := h4
  unfold normB at h5
  simp only [Bool.and_eq_true] at h5
  obtain ⟨a1, a2⟩ := inB_iff.1 h5.1.1
  obtain ⟨a3, a4⟩ := inB_iff.1 h5.1.2
  exact ⟨a1, a2, a3, a4⟩
theorem takC_dur {c : Val} {m : Int} (h : takC 9 c = some [m]) : 0 ≤ m ∧ m ≤ 9007199254740991 := by
  obtain ⟨rfl, h2, h3⟩ := takC_some h
  have h4 : boundB 9 [m] = true := by
    have := h3 (by decide)
    unfold rightB at this
    exact (Bool.and_eq_true _ _ ▸ this).2
  have h5 : inB m 0 9007199254740991 = true := h4
  exact inB_iff.1 h5

set_option maxRecDepth 8000 in
set_option maxHeartbeats 2000000 in
theorem yr_any (c : Val) (cs : List Val) (w : World) (h : DD p W0 g op r (c :: cs) w) (h0 : -1000000 ≤ r.y) (h1 : r.y ≤ 1000000) :
    Calls Tryz.prog 76 #[.pointer (some ⟨g, 0, none⟩)] w (Ret p W0 g op r w IntV ((yearB c r.y).map (fun z => (z, cs)))) := by
  have hdr := h.on (Below.refl w.heap.size w).drew
  have HN := hid (next_any c cs w.drew hdr)
  clear hdr
  have HY := hid fun (v : Value) (w1 : World) (hv : VA W0 v c) (hd : DD p W0 g op r cs w1) => year_any p c v r w1 (hv.on hd.base) hd.tabs h0 h1
  obtain ⟨d0, d3, d4, d5, d6, d7, d8⟩ := h.cells
  generalize yearB c r.y = o at *
  obtain ⟨y, m, d, hh, i, s⟩ := r
  unfold momV at HY
  dsimp only at *
  clear h d0
  cases o with
  | none =>
    go_enter Tryz.func76, Tryz.ntmps76
    go_wp2
    go_region_with (first
      | (go_at_call 75
         refine HN.out.mono ?_
         intro e w1 hr
         have HG := hid (grown_on (grown_of (Below.refl w.heap.size w).drew) hr.grown)
         obtain ⟨v, rfl, hv, hd⟩ := hr.of_some rfl
         have HD1 := hid hd
         have HC := hid (HY.out v w1 hv hd)
         obtain ⟨q0, q3, q4, q5, q6, q7, q8⟩ := hd.cells
         obtain ⟨fv, rfl, hf⟩ := hv
         obtain ⟨adf, capf, rfl, _⟩ := hf.shape
         clear hr hd hf q0)
      | (go_at_call 18
         refine HC.out.mono ?_
         rintro e w2 ⟨rfl, hb⟩
         have HG2 := hid (grown_up HG.out hb)
         have HD2 := hid (HD1.out.on hb)
         clear hb
         unfold yrV))
    all_goals
      go_wp2_with fail
      refine (need_no p _ HD2.out.tabs).mono ?_
      rintro e w3 ⟨rfl, hw⟩
      obtain rfl := hw.symm
      clear hw
      go_wp2
      exact ⟨rfl, Ret.no rfl HG2.out⟩
  | some z =>
    go_enter Tryz.func76, Tryz.ntmps76
    go_wp2
    go_region_with (first
      | (go_at_call 75
         refine HN.out.mono ?_
         intro e w1 hr
         have HG := hid (grown_on (grown_of (Below.refl w.heap.size w).drew) hr.grown)
         obtain ⟨v, rfl, hv, hd⟩ := hr.of_some rfl
         have HD1 := hid hd
         have HC := hid (HY.out v w1 hv hd)
         obtain ⟨q0, q3, q4, q5, q6, q7, q8⟩ := hd.cells
         obtain ⟨fv, rfl, hf⟩ := hv
         obtain ⟨adf, capf, rfl, _⟩ := hf.shape
         clear hr hd hf q0)
      | (go_at_call 18
         refine HC.out.mono ?_
         rintro e w2 ⟨rfl, hb⟩
         have HG2 := hid (grown_up HG.out hb)
         have HD2 := hid (HD1.out.on hb)
         clear hb
         unfold yrV))
    all_goals
      go_wp2_with fail
      refine (need_yes _).mono ?_
      rintro e w3 ⟨rfl, hw⟩
      obtain rfl := hw.symm
      clear hw
      go_wp2
      go_ret
      exact Ret.yes (V := IntV) rfl HG2.out rfl HD2.out
end
end Go.Proofs.YtengcdodoblabaaGreatDoor
