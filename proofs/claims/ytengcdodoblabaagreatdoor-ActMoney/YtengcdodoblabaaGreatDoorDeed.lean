/- An action at work: how its children are taken, one behind the other. -/
import Derived.Test.YtengcdodoblabaaGreatDoorRight
import Derived.Laws.Rows
import Derived.Laws.AppendOwn
import Derived.Deep.AppendLies
import Derived.RegionTactic
namespace Go.Proofs.YtengcdodoblabaaGreatDoor
open Go.RowKit

theorem set_by (w : World) (g j : Nat) (u : Value) : w.grownBy (w.setCell ⟨g, j, none⟩ u) (some g) := ⟨rfl, rfl, rfl, by simp [World.setCell], fun k _ hk => Below.heap_setCell _ _ _ _ (fun e => hk (by rw [e]))⟩
theorem grown_on {g : Nat} {w w1 w2 : World} (h : w.grownBy w1 (some g)) (k : w1.grownBy w2 (some g)) : w.grownBy w2 (some g) := ⟨k.os.trans h.os, k.tape.trans h.tape, k.output.trans h.output, Nat.le_trans h.size k.size, fun i h1 h2 => (k.block i (Nat.lt_of_lt_of_le h1 h.size) h2).trans (h.block i h1 h2)⟩
theorem grown_up {g : Nat} {w w1 w2 : World} (h : w.grownBy w1 (some g)) (k : Below w1.heap.size w1 w2) : w.grownBy w2 (some g) := ⟨k.os.trans h.os, k.tape.trans h.tape, k.output.trans h.output, Nat.le_trans h.size k.size, fun i h1 h2 => (k.block i (Nat.lt_of_lt_of_le h1 h.size)).trans (h.block i h1 h2)⟩
theorem grown_new {g : Nat} {w w1 w2 : World} {k : Nat} (h : w.grownBy w1 (some g)) (hk : w.heap.size ≤ k) (q : w1.grownBy w2 (some k)) : w.grownBy w2 (some g) := ⟨q.os.trans h.os, q.tape.trans h.tape, q.output.trans h.output, Nat.le_trans h.size q.size, fun i h1 h2 => (q.block i (Nat.lt_of_lt_of_le h1 h.size) (fun e => by injection e with e; omega)).trans (h.block i h1 h2)⟩
theorem grown_of {g : Nat} {w w1 : World} (k : Below w.heap.size w w1) : w.grownBy w1 (some g) := grown_up (World.grownBy.refl _ _) k

section
variable (p : Value) (W0 : World) (g : Nat) (op : Int) (r : Mom)
/-- An action at work at block g: the children that are not taken yet. -/
def DD (cs : List Val) (w : World) : Prop :=
  ∃ (lv : Value) (l : List Val) (pv : Value) (ps : List Int), w.heap[g]? = some (.cells #[.int .i64 op, lv, pv, .int .i64 r.y, .int .i64 r.m, .int .i64 r.d, .int .i64 r.h, .int .i64 r.i, .int .i64 r.s] 51 (0, 0)) ∧
    W0.heap.size ≤ g ∧ Below W0.heap.size W0 w ∧ IA W0 pv ps ∧ LA W0 lv l ∧ cs = ps.map (fun q => l.getD q.toNat nilVal) ∧ (∀ q ∈ ps, 0 ≤ q ∧ q < (l.length : Int)) ∧ Tabs p W0
/-- What a call that takes children leaves. -/
def Ret {α : Type} (w : World) (V : World → Value → α → Prop) (o : Option (α × List Val)) (e : Ending) (w' : World) : Prop :=
  w.grownBy w' (some g) ∧ match o with
    | none => e = .panicked (boom p)
    | some x => ∃ v, e = .returned v ∧ V w' v x.1 ∧ DD p W0 g op r x.2 w'
end
section
variable {p : Value} {W0 : World} {g : Nat} {op : Int} {r : Mom}
theorem DD.lt {cs : List Val} {w : World} (h : DD p W0 g op r cs w) : g < w.heap.size := by
  obtain ⟨_, _, _, _, h1, _⟩ := h
  exact (Array.getElem?_eq_some_iff.1 h1).1
theorem DD.on {cs : List Val} {w w' : World} (h : DD p W0 g op r cs w) (hb : Below w.heap.size w w') : DD p W0 g op r cs w' := by
  have hlt := h.lt
  obtain ⟨lv, l, pv, ps, h1, h2, h3, h4⟩ := h
  exact ⟨lv, l, pv, ps, (hb.block g hlt).trans h1, h2, h3.trans (hb.mono h3.size), h4⟩
theorem DD.far {cs : List Val} {w w' : World} {k : Nat} (h : DD p W0 g op r cs w) (hb : w.grownBy w' (some k)) (hk : g < k) : DD p W0 g op r cs w' := by
  have hlt := h.lt
  obtain ⟨lv, l, pv, ps, h1, h2, h3, h4⟩ := h
  exact ⟨lv, l, pv, ps, (hb.block g hlt (fun e => by injection e with e; omega)).trans h1, h2, h3.grown hb h3.size (fun q e => by injection e with e; omega), h4⟩
theorem DD.tabs {cs : List Val} {w : World} (h : DD p W0 g op r cs w) : Tabs p w := by
  obtain ⟨lv, l, pv, ps, h1, h2, h3, h4, h5, h6, h7, h8⟩ := h
  exact h8.on h3
theorem DD.base {cs : List Val} {w : World} (h : DD p W0 g op r cs w) : Below W0.heap.size W0 w := by
  obtain ⟨lv, l, pv, ps, h1, h2, h3, h4⟩ := h
  exact h3
theorem Ret.grown {α : Type} {w w' : World} {V : World → Value → α → Prop} {o : Option (α × List Val)} {e : Ending} (h : Ret p W0 g op r w V o e w') : w.grownBy w' (some g) := h.1
theorem Ret.no {α : Type} {w w' : World} {V : World → Value → α → Prop} {o : Option (α × List Val)} (h : o = none) (hg : w.grownBy w' (some g)) : Ret p W0 g op r w V o (.panicked (boom p)) w' := by
  subst h
  exact ⟨hg, rfl⟩
theorem Ret.yes {α : Type} {w w' : World} {V : World → Value → α → Prop} {o : Option (α × List Val)} {x : α} {cs : List Val} {v : Value} (h : o = some (x, cs)) (hg : w.grownBy w' (some g)) (hV : V w' v x) (hR : DD p W0 g op r cs w') : Ret p W0 g op r w V o (.returned v) w' := by
  subst h
  exact ⟨hg, v, rfl, hV, hR⟩
theorem Ret.of_none {α : Type} {w w' : World} {V : World → Value → α → Prop} {o : Option (α × List Val)} {e : Ending} (h : Ret p W0 g op r w V o e w') (hr : o = none) : e = .panicked (boom p) := by
  subst hr
  exact h.2
theorem Ret.of_some {α : Type} {w w' : World} {V : World → Value → α → Prop} {o : Option (α × List Val)} {e : Ending} {x : α} {cs : List Val} (h : Ret p W0 g op r w V o e w') (hr : o = some (x, cs)) : ∃ v, e = .returned v ∧ V w' v x ∧ DD p W0 g op r cs w' := by
  subst hr
  exact h.2

set_option maxRecDepth 8000 in
set_option maxHeartbeats 1000000 in
theorem first_any (c : Val) (cs : List Val) (w : World) (h : DD p W0 g op r (c :: cs) w) :
    Calls Tryz.prog 102 #[.pointer (some ⟨g, 0, none⟩)] w fun e w' => (∃ v, e = .returned v ∧ VA W0 v c) ∧ Below w.heap.size w w' := by
  have hlt := h.lt
  obtain ⟨lv, l, pv, ps, h1, h2, h3, h4, h5, h6, h7, h8⟩ := h
  cases ps with
  | nil => cases h6
  | cons q qs =>
  simp only [List.map_cons, List.cons.injEq] at h6
  obtain ⟨h6, _⟩ := h6
  obtain ⟨q0, q1⟩ := h7 q (by simp)
  obtain ⟨m, rfl⟩ := Int.eq_ofNat_of_zero_le q0
  rw [Int.toNat_natCast] at h6
  obtain ⟨b, o, cap, rfl, pl, pc, plt, pcs⟩ := h4.has (by simp)
  have hpc := pcs 0 (by simp)
  obtain ⟨ad, cap2, rfl, ⟨hl1, hl2, hl3⟩, hl4⟩ := h5
  have hml : m < l.length := by omega
  rcases hl4 with ⟨_, _, rfl⟩ | ⟨b2, o2, rfl, blt, hcs⟩
  · simp at hml
  obtain ⟨fv, d0, d1, d2⟩ := hcs m hml
  rw [← h6] at d0 d2
  have HF := hid d2
  obtain ⟨adf, capf, rfl, _⟩ := d2.shape
  have hu := up_alloc w (.cells #[.int .i64 0, .slice none 0 0] 27)
  have HU := hid hu
  have e0 := (hu.cell (p := ⟨g, 1, none⟩) hlt).trans (cell_of_row (o := 1) h1)
  have e1 := (hu.cell (p := ⟨g, 2, none⟩) hlt).trans (cell_of_row (o := 2) h1)
  have e2 := ((hu.cell (p := ⟨b, o + 0, none⟩) (Nat.lt_of_lt_of_le plt h3.size)).trans (h3.cell plt)).trans hpc
  have e3 := ((hu.cell (p := ⟨b2, o2 + m * 2, none⟩) (Nat.lt_of_lt_of_le blt h3.size)).trans (h3.cell blt)).trans d0
  have e4 := ((hu.cell (p := ⟨b2, o2 + m * 2 + 1, none⟩) (Nat.lt_of_lt_of_le blt h3.size)).trans (h3.cell blt)).trans d1
  simp only [List.getElem?_toArray, List.getElem?_cons_zero, List.getElem?_cons_succ, List.length_cons, List.getD_cons_zero, Nat.add_zero] at e0 e1 e2
  have HW : Hid (∀ w, Calls Tryz.prog 30 #[.int .i64 m, .int .i64 0, .int .i64 ((l.length : Int) - 1)] w fun e w' => e = .returned (.bool true) ∧ w' = w) := hid fun w => by rw [← inB_true (n := m) (a := 0) (b := (l.length : Int) - 1) (by omega) (by omega)]; exact within_any _ _ _ w
  have HN := hid need_yes
  have hM : l.length ≤ 1000000 := hl1
  have hq : (m : Int) < (l.length : Int) := by omega
  have hws : IntKind.i64.wrap ((l.length : Int) - 1) = (l.length : Int) - 1 := by rw [IntKind.wrap_i64]; omega
  have hqn : qs.length ≤ 1000000 := by have := h4.shape.choose_spec.choose_spec.2.2.2; simp at this; omega
  have hpos : decide (0 < qs.length + 1) = true := by simp
  have hpos2 : 0 < qs.length + 1 := by omega
  clear h1 h2 h3 h4 h6 h7 h8 hcs d0 d1 d2 hpc pcs hu
  obtain ⟨kind, f⟩ := c
  dsimp only at *
  generalize f.length = nf at *
  generalize hqq : qs.length + 1 = nq at *
  generalize l.length = nl at *
  clear hqq
  go_enter Tryz.func102, Tryz.ntmps102
  go_wp2
  go_quiet ((first | (go_at_call 30; exact (HW.out _).mono (fun e w' h => ⟨h.1, _, h.2⟩)) | (go_at_call 52; exact (HN.out _).mono (fun e w' h => ⟨h.1, _, h.2⟩))))
  go_wp2
  apply key_cut
  case rest =>
    intro key
    go_region
    all_goals exact key
  go_wp2
  refine bodyPost_ret (v := .agg #[.int .i64 kind, .slice adf nf capf]) (results_cell_row rfl _ _ w.heap.size 27 _ (0, 0) _ rfl (heap_setCell_same _ _ 1 _ _ _ (heap_setCell_same _ _ 0 _ _ _ (new_row w _))) Tryz.underlying27 rfl (by kernel_rfl)) rfl ⟨⟨_, rfl, _, rfl, HF.out⟩, ?_⟩
  exact (below_drewN HU.out _).drew.setCell (p := ⟨w.heap.size, 0, none⟩) (Nat.le_refl _) _ |>.setCell (p := ⟨w.heap.size, 1, none⟩) (Nat.le_refl _) _

theorem IA.tail {w : World} {b o cap n : Nat} {q : Int} {qs : List Int} (h : IA w (.slice (some ⟨b, o, none⟩) n cap) (q :: qs)) : IA w (.slice (some ⟨b, o + 1, none⟩) (n - 1) (cap - 1)) qs := by
  obtain ⟨b', o', cap', e, hl, hc, hlt, hcs⟩ := h.has (by simp)
  have hm := h.shape.choose_spec.choose_spec.2.2.2
  injection e with e1 e2 e3
  injection e1 with e1
  injection e1 with e1 e4
  subst e1 e2 e3 e4
  simp only [List.length_cons, Nat.add_sub_cancel] at *
  refine ⟨_, _, rfl, ⟨by omega, by omega, by omega⟩, .inr ⟨b, o + 1, rfl, hlt, fun j hj => ?_⟩⟩
  rw [Nat.add_assoc, Nat.add_comm 1 j]
  exact hcs (j + 1) (by omega)
theorem IA.empty {w : World} {b o : Nat} (h : b < w.heap.size) : IA w (.slice (some ⟨b, o, none⟩) 0 0) [] := ⟨_, _, rfl, ⟨by simp, by simp, by simp⟩, .inr ⟨b, o, rfl, h, fun j hj => by simp at hj⟩⟩

set_option maxRecDepth 8000 in
set_option maxHeartbeats 1000000 in
theorem next_any (c : Val) (cs : List Val) (w : World) (h : DD p W0 g op r (c :: cs) w) :
    Calls Tryz.prog 75 #[.pointer (some ⟨g, 0, none⟩)] w (Ret p W0 g op r w (fun _ v x => VA W0 v x) (some (c, cs))) := by
  have hlt := h.lt
  have hu := up_alloc w (.cells #[.int .i64 0, .slice none 0 0] 27)
  have HU := hid hu
  have HX := hid (new_row w (.cells #[.int .i64 0, .slice none 0 0] 27))
  have HF := hid (first_any c cs _ (h.on hu))
  have HD := hid h
  clear h hu
  go_enter Tryz.func75, Tryz.ntmps75
  go_wp2_with fail
  refine HF.out.mono ?_
  rintro e w1 ⟨⟨v, rfl, hv⟩, hb⟩
  have HB := hid (up_trans HU.out hb)
  have HD1 := hid (HD.out.on HB.out)
  have HX1 := hid ((hb.block w.heap.size (by simp)).trans HX.out)
  have HV := hid hv
  have hs1 : w.heap.size < w1.heap.size := (Array.getElem?_eq_some_iff.1 HX1.out).1
  obtain ⟨fv, rfl, hf⟩ := hv
  obtain ⟨adf, capf, rfl, _⟩ := hf.shape
  obtain ⟨kind, f⟩ := c
  dsimp only at *
  generalize f.length = nf at *
  clear hb HD HF hf HX
  obtain ⟨lv, l, pv, ps, h1, h2, h3, h4, h5, h6, h7, h8⟩ := HD1.out
  cases ps with
  | nil => cases h6
  | cons q qs =>
  obtain ⟨b, o, cap, rfl, pl, pc, plt, pcs⟩ := h4.has (by simp)
  have hg1 : g < w1.heap.size := by omega
  have c0 := cell_of_row (o := 2) h1
  have f0 := frozen_of_row (o := 2) h1
  simp only [List.getElem?_toArray, List.getElem?_cons_zero, List.getElem?_cons_succ, List.length_cons] at c0
  have hqn : qs.length ≤ 1000000 := by have := h4.shape.choose_spec.choose_spec.2.2.2; simp at this; omega
  simp only [List.map_cons, List.cons.injEq] at h6
  obtain ⟨h6, h9⟩ := h6
  have hne : w.heap.size ≠ g := by omega
  have K1 := hid h1
  have KR := hid HX1.out
  have H4 := hid h4
  have H3 := hid h3
  have HL : Hid (∀ w2 : World, Below w2.heap.size w2 (w2.alloc (.cells #[.int .i64 kind, .slice adf nf capf] 27))) := hid fun w2 => up_alloc w2 _
  have HK : Hid (∀ pv', IA W0 pv' qs → DD p W0 g op r cs (((w1.setCell ⟨g, 2, none⟩ pv').setCell ⟨w.heap.size, 0, none⟩ (.int .i64 kind)).setCell ⟨w.heap.size, 1, none⟩ (.slice adf nf capf))) := hid fun pv' hp => by
    refine ⟨lv, l, pv', qs, ?_, h2, ?_, hp, h5, h9, fun q hq => h7 q (by simp [hq]), h8⟩
    · rw [Below.heap_setCell _ _ _ _ (by exact hne.symm), Below.heap_setCell _ _ _ _ (by exact hne.symm)]
      exact heap_setCell_same _ _ 2 _ _ _ K1.out
    · have hw0 : W0.heap.size ≤ w.heap.size := by omega
      exact ((H3.out.setCell (p := ⟨g, 2, none⟩) h2 _).setCell (p := ⟨w.heap.size, 0, none⟩) hw0 _).setCell (p := ⟨w.heap.size, 1, none⟩) hw0 _
  have HG : Hid (∀ pv', w.grownBy (((w1.setCell ⟨g, 2, none⟩ pv').setCell ⟨w.heap.size, 0, none⟩ (.int .i64 kind)).setCell ⟨w.heap.size, 1, none⟩ (.slice adf nf capf)) (some g)) := hid fun pv' =>
    grown_new (grown_new (grown_on (grown_of HB.out) (set_by _ _ _ _)) (Nat.le_refl _) (set_by _ _ _ _)) (Nat.le_refl _) (set_by _ _ _ _)
  have HH : Hid (∀ pv', (((w1.setCell ⟨g, 2, none⟩ pv').setCell ⟨w.heap.size, 0, none⟩ (.int .i64 kind)).setCell ⟨w.heap.size, 1, none⟩ (.slice adf nf capf)).heap[w.heap.size]? = some (.cells #[.int .i64 kind, .slice adf nf capf] 27 (0, 0))) := hid fun pv' =>
    heap_setCell_same _ _ 1 _ _ _ (heap_setCell_same _ _ 0 _ _ _ ((Below.heap_setCell _ _ _ _ hne).trans KR.out))
  have a0 : ∀ pv', (w1.setCell ⟨g, 2, none⟩ pv').cell? ⟨w.heap.size, 0, none⟩ = some (.int .i64 0) := fun pv' => by rw [cell_of_row (Eq.trans (Below.heap_setCell _ _ _ _ hne) KR.out)]; rfl
  have a1 : ∀ pv', (w1.setCell ⟨g, 2, none⟩ pv').cell? ⟨w.heap.size, 1, none⟩ = some (.slice none 0 0) := fun pv' => by rw [cell_of_row (Eq.trans (Below.heap_setCell _ _ _ _ hne) KR.out)]; rfl
  have b0 : ∀ pv' o, (w1.setCell ⟨g, 2, none⟩ pv').frozen? ⟨w.heap.size, o, none⟩ = false := fun pv' o => frozen_of_row (Eq.trans (Below.heap_setCell _ _ _ _ hne) KR.out)
  have HS : Hid (∀ pv', w.heap.size < (((w1.setCell ⟨g, 2, none⟩ pv').setCell ⟨w.heap.size, 0, none⟩ (.int .i64 kind)).setCell ⟨w.heap.size, 1, none⟩ (.slice adf nf capf)).heap.size) := hid fun pv' => (Array.getElem?_eq_some_iff.1 (HH.out pv')).1
  clear h1 h2 h3 h5 h6 h7 h8 h9 pcs HX1 HD1 KR K1
  unfold maxLen at pc
  by_cases hcap : cap = 1
  · subst hcap
    have hq0 : qs = [] := by simp at pl; exact pl
    subst hq0
    have HE : Hid (IA W0 (.slice (some ⟨b, o, none⟩) 0 0) []) := hid (IA.empty plt)
    simp only [List.length_nil, Nat.zero_add] at *
    clear h4 H4
    go_wp2
    refine bodyPost_ret (v := .agg #[.int .i64 kind, .slice adf nf capf]) (results_cell_row rfl _ _ w.heap.size 27 _ (0, 0) _ rfl (((HL.out _).block _ (HS.out _)).trans (HH.out _)) Tryz.underlying27 rfl (by kernel_rfl)) rfl ?_
    exact Ret.yes (V := fun _ v x => VA W0 v x) rfl (grown_up (HG.out _) (HL.out _)) HV.out ((HK.out _ HE.out).on (HL.out _))
  · have hcap1 : 1 < cap := by simp at pl; omega
    simp only [List.length_cons] at *
    have HE := hid H4.out.tail
    have hle : qs.length + 1 ≤ cap := pl
    clear h4 H4
    simp only [Nat.add_sub_cancel] at HE
    generalize qs.length = nq at *
    go_wp2
    refine bodyPost_ret (v := .agg #[.int .i64 kind, .slice adf nf capf]) (results_cell_row rfl _ _ w.heap.size 27 _ (0, 0) _ rfl (((HL.out _).block _ (HS.out _)).trans (HH.out _)) Tryz.underlying27 rfl (by kernel_rfl)) rfl ?_
    exact Ret.yes (V := fun _ v x => VA W0 v x) rfl (grown_up (HG.out _) (HL.out _)) HV.out ((HK.out _ HE.out).on (HL.out _))

/-- Whether a child is of a kind, and whole, and right unless it is a sign. -/
def takeB (kind : Int) (c : Val) : Bool := (c.kind == kind) && wholeB c && (decide (kind < 4) || rightB c)
def takeO (kind : Int) : List Val → Option (List Int × List Val)
  | [] => none
  | c :: cs => if takeB kind c then some (c.f, cs) else none

set_option maxRecDepth 8000 in
set_option maxHeartbeats 1000000 in
theorem take_any (kind : Int) (c : Val) (cs : List Val) (w : World) (h : DD p W0 g op r (c :: cs) w) :
    Calls Tryz.prog 80 #[.pointer (some ⟨g, 0, none⟩), .int .i64 kind] w (Ret p W0 g op r w (fun _ v x => IA W0 v x) (takeO kind (c :: cs))) := by
  have HN := hid (next_any c cs w h)
  have HE : Hid (takeO kind (c :: cs) = if takeB kind c then some (c.f, cs) else none) := hid rfl
  have hB : takeB kind c = ((c.kind == kind) && wholeB c && (decide (kind < 4) || rightB c)) := rfl
  generalize takeO kind (c :: cs) = o at *
  clear h
  go_enter Tryz.func80, Tryz.ntmps80
  go_wp2_with fail
  refine HN.out.mono ?_
  intro e w1 hr
  have HG := hid hr.grown
  obtain ⟨v, rfl, hv, hd⟩ := hr.of_some rfl
  have hu := up_alloc w1 (.cells (match v with | .agg cs => cs | _ => #[]) 27)
  have HV := hid hv
  have HD := hid hd
  obtain ⟨fv, rfl, hf⟩ := hv
  obtain ⟨adf, capf, rfl, _⟩ := hf.shape
  have HF := hid hf
  dsimp only at hu
  have HU := hid hu
  have HT := hid (hd.on hu).tabs
  have HVu := hid (HV.out.on (up_trans hd.base hu))
  have HD1 := hid (hd.on hu)
  have HX := hid (new_row w1 (.cells #[.int .i64 c.kind, .slice adf c.f.length capf] 27))
  have HWh := hid (whole_any p c _ _ HVu.out HT.out)
  have HG1 := hid (grown_up HG.out hu)
  obtain ⟨k, f⟩ := c
  dsimp only at *
  generalize f.length = nf at *
  clear hr hd hf HN hu
  cases hk : (k == kind) with
  | false =>
    have HO : Hid (o = none) := hid (by rw [HE.out, hB, hk]; rfl)
    clear hB
    go_wp2_with fail
    refine (need_no p _ HT.out).mono ?_
    rintro e w2 ⟨rfl, rfl⟩
    go_wp2
    exact ⟨rfl, Ret.no HO.out HG1.out⟩
  | true =>
    obtain rfl : k = kind := by simpa using hk
    cases hw : wholeB ⟨k, f⟩ with
    | false =>
      have HO : Hid (o = none) := hid (by rw [HE.out, hB, hk, hw]; rfl)
      rw [hw] at HWh
      clear hB hw
      go_wp2_with fail
      refine HWh.out.mono ?_
      rintro e w2 ⟨rfl, hb2⟩
      go_wp2_with fail
      refine (need_no p _ (HT.out.on hb2)).mono ?_
      rintro e w3 ⟨rfl, rfl⟩
      go_wp2
      exact ⟨rfl, Ret.no HO.out (grown_up HG1.out hb2)⟩
    | true =>
      rw [hw] at HWh
      by_cases h4 : k < 4
      · have HO : Hid (o = some (f, cs)) := hid (by rw [HE.out, hB, hk, hw, decide_eq_true h4]; rfl)
        clear hB hw hk
        go_wp2_with fail
        refine HWh.out.mono ?_
        rintro e w2 ⟨rfl, hb2⟩
        have HB2 := hid hb2
        have hX := (hb2.block w1.heap.size (by simp)).trans HX.out
        have c1 := cell_of_row (o := 1) hX
        simp only [List.getElem?_toArray, List.getElem?_cons_zero, List.getElem?_cons_succ] at c1
        clear hb2 hX
        go_wp2_with fail
        refine (need_yes _).mono ?_
        rintro e w3 ⟨rfl, rfl⟩
        go_wp2
        go_ret
        exact Ret.yes (V := fun _ v x => IA W0 v x) HO.out (grown_up HG1.out HB2.out) HF.out (HD1.out.on HB2.out)
      · have h4' : decide (k < 4) = false := decide_eq_false h4
        cases hr : rightB ⟨k, f⟩ with
        | false =>
          have HO : Hid (o = none) := hid (by rw [HE.out, hB, hk, hw, h4', hr]; rfl)
          clear hB hw hk
          go_wp2_with fail
          refine HWh.out.mono ?_
          rintro e w2 ⟨rfl, hb2⟩
          have HB2 := hid hb2
          have hX := (hb2.block w1.heap.size (by simp)).trans HX.out
          have c0 := cell_of_row (o := 0) hX
          have c1 := cell_of_row (o := 1) hX
          simp only [List.getElem?_toArray, List.getElem?_cons_zero, List.getElem?_cons_succ] at c0 c1
          have HR := hid (right_any p ⟨k, f⟩ _ _ (HVu.out.on hb2) (HT.out.on hb2))
          rw [hr] at HR
          clear hb2 hX hr
          go_wp2_with fail
          refine HR.out.mono ?_
          rintro e w3 ⟨rfl, hb3⟩
          go_wp2_with fail
          refine (need_no p _ ((HT.out.on HB2.out).on hb3)).mono ?_
          rintro e w4 ⟨rfl, rfl⟩
          go_wp2
          exact ⟨rfl, Ret.no HO.out (grown_up (grown_up HG1.out HB2.out) hb3)⟩
        | true =>
          have HO : Hid (o = some (f, cs)) := hid (by rw [HE.out, hB, hk, hw, h4', hr]; rfl)
          clear hB hw hk
          go_wp2_with fail
          refine HWh.out.mono ?_
          rintro e w2 ⟨rfl, hb2⟩
          have HB2 := hid hb2
          have hX := (hb2.block w1.heap.size (by simp)).trans HX.out
          have HX2 := hid hX
          have c0 := cell_of_row (o := 0) hX
          have c1 := cell_of_row (o := 1) hX
          simp only [List.getElem?_toArray, List.getElem?_cons_zero, List.getElem?_cons_succ] at c0 c1
          have HR := hid (right_any p ⟨k, f⟩ _ _ (HVu.out.on hb2) (HT.out.on hb2))
          rw [hr] at HR
          clear hb2 hX hr
          go_wp2_with fail
          refine HR.out.mono ?_
          rintro e w3 ⟨rfl, hb3⟩
          have HB3 := hid hb3
          have hX := (hb3.block w1.heap.size (Array.getElem?_eq_some_iff.1 HX2.out).1).trans HX2.out
          have d1 := cell_of_row (o := 1) hX
          simp only [List.getElem?_toArray, List.getElem?_cons_zero, List.getElem?_cons_succ] at d1
          clear hb3 hX
          go_wp2_with fail
          refine (need_yes _).mono ?_
          rintro e w4 ⟨rfl, rfl⟩
          go_wp2
          go_ret
          exact Ret.yes (V := fun _ v x => IA W0 v x) HO.out (grown_up (grown_up HG1.out HB2.out) HB3.out) HF.out ((HD1.out.on HB2.out).on HB3.out)
end
end Go.Proofs.YtengcdodoblabaaGreatDoor
