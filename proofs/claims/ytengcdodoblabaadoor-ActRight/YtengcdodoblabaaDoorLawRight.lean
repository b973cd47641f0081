/- ActRight answers true of any value and any six numbers: whether it may be is the document's, and so of one that may be of which one thing was turned. The table of how many numbers a kind has, and what an action stops with, are as listed. -/
import Derived.Test.YtengcdodoblabaaDoorCards
import Derived.Test.YtengcdodoblabaaDoorTie
import Derived.Test.YtengcdodoblabaaDoorTab
import Derived.ProofKit
import Derived.OpenShut
import Derived.Lay
import Derived.SevenTiedAt
import Derived.Stop.Joined
import Derived.Lib.LaidTab
import Derived.Deep.Cut
import Derived.Deep.CutBlock
import Derived.Deep.RegionHeld
import Derived.Deep.AppendLies
import Derived.Test.YtengcdodoblabaaDoorVal
import Derived.Test.YtengcdodoblabaaDoorRightE
import Derived.Test.YtengcdodoblabaaDoorWaysE
namespace Go.Proofs.YtengcdodoblabaaDoor
open Go.ChangeShapes Go.WideShapes Go.ChangeAt Go.RowKit

theorem row_at {w : World} {o : Obj} {g : Nat} (h : g = w.heap.size) : (w.alloc o).heap[g]? = some o := by subst h; exact new_row w o
theorem row_up {w : World} {o o' : Obj} {g : Nat} (h : w.heap[g]? = some o) : (w.alloc o').heap[g]? = some o := ((up_alloc w o').block g (Array.getElem?_eq_some_iff.1 h).1).trans h
theorem row_drew {w : World} {o : Obj} {g : Nat} (h : w.heap[g]? = some o) : w.drew.heap[g]? = some o := h
theorem row_on {w w' : World} {o : Obj} {g : Nat} (hb : Below w.heap.size w w') (h : w.heap[g]? = some o) : w'.heap[g]? = some o := (hb.block g (Array.getElem?_eq_some_iff.1 h).1).trans h
theorem RN.empty {w : World} {B g : Nat} (h : w.heap[g]? = some (.cells #[] 3 (0, 0))) (hB : B ≤ g) : RN w B (.slice (some ⟨g, 0, none⟩) 0 0) [] :=
  ⟨rfl, .inr ⟨g, 0, #[], rfl, hB, h, Nat.le_refl _, by unfold maxLen; omega, rfl, rfl⟩⟩
theorem right_len {x : Val} (h : rightB x = true) : 1 ≤ x.f.length ∧ x.f.length ≤ 6 := by
  obtain ⟨k, f⟩ := x
  have hw : wholeB ⟨k, f⟩ = true := by
    unfold rightB at h
    simp only [Bool.and_eq_true] at h
    exact h.1
  have hb : boundB k f = true := by
    unfold rightB at h
    simp only [Bool.and_eq_true] at h
    exact h.2
  obtain ⟨h1, h2⟩ := len_of_whole hw
  obtain ⟨a1, a2⟩ := inB_iff.1 h1
  have h4 : 4 ≤ k := by
    by_cases h4 : 4 ≤ k
    · exact h4
    · have : boundB k f = false := by
        unfold boundB
        rw [if_neg (by omega), if_neg (by omega), if_neg (by omega), if_neg (by omega), if_neg (by omega), if_neg (by omega), if_neg (by omega)]
      rw [this] at hb; cases hb
  have hk : k = 4 ∨ k = 5 ∨ k = 6 ∨ k = 7 ∨ k = 8 ∨ k = 9 ∨ k = 10 := by omega
  show 1 ≤ f.length ∧ f.length ≤ 6
  clear h hw hb h1
  rcases hk with rfl | rfl | rfl | rfl | rfl | rfl | rfl
  · rw [show fieldsL.getD (Int.toNat 4) 0 = 3 by decide] at h2; omega
  · rw [show fieldsL.getD (Int.toNat 5) 0 = 3 by decide] at h2; omega
  · rw [show fieldsL.getD (Int.toNat 6) 0 = 6 by decide] at h2; omega
  · rw [show fieldsL.getD (Int.toNat 7) 0 = 2 by decide] at h2; omega
  · rw [show fieldsL.getD (Int.toNat 8) 0 = 2 by decide] at h2; omega
  · rw [show fieldsL.getD (Int.toNat 9) 0 = 1 by decide] at h2; omega
  · rw [show fieldsL.getD (Int.toNat 10) 0 = 6 by decide] at h2; omega
theorem tab22 (w : World) (v : Int) (j : Nat) (hj : j < 22) : ∃ z, (w.alloc (.cells #[.int .i64 (-1), .int .i64 0, .int .i64 1, .int .i64 12, .int .i64 13, .int .i64 23, .int .i64 24, .int .i64 29, .int .i64 30, .int .i64 31, .int .i64 32, .int .i64 59, .int .i64 60, .int .i64 9999, .int .i64 10000, .int .i64 9007199254740992, .int .i64 9007199254740991, .int .i64 1000000000, .int .i64 1000000001, .int .i64 999999999999999999, .int .i64 1000000000000000000, .int .i64 v] 3)).cell? ⟨w.heap.size, j, none⟩ = some (.int .i64 z) := by
  have hr := new_row w (.cells #[.int .i64 (-1), .int .i64 0, .int .i64 1, .int .i64 12, .int .i64 13, .int .i64 23, .int .i64 24, .int .i64 29, .int .i64 30, .int .i64 31, .int .i64 32, .int .i64 59, .int .i64 60, .int .i64 9999, .int .i64 10000, .int .i64 9007199254740992, .int .i64 9007199254740991, .int .i64 1000000000, .int .i64 1000000001, .int .i64 999999999999999999, .int .i64 1000000000000000000, .int .i64 v] 3)
  rcases (by omega : j = 0 ∨ j = 1 ∨ j = 2 ∨ j = 3 ∨ j = 4 ∨ j = 5 ∨ j = 6 ∨ j = 7 ∨ j = 8 ∨ j = 9 ∨ j = 10 ∨ j = 11 ∨ j = 12 ∨ j = 13 ∨ j = 14 ∨ j = 15 ∨ j = 16 ∨ j = 17 ∨ j = 18 ∨ j = 19 ∨ j = 20 ∨ j = 21) with rfl | rfl | rfl | rfl | rfl | rfl | rfl | rfl | rfl | rfl | rfl | rfl | rfl | rfl | rfl | rfl | rfl | rfl | rfl | rfl | rfl | rfl
  all_goals exact ⟨_, (cell_of_row hr).trans rfl⟩
theorem tab11 (w : World) (v : Int) (j : Nat) (hj : j < 11) : ∃ z, (w.alloc (.cells #[.int .i64 0, .int .i64 3, .int .i64 4, .int .i64 5, .int .i64 6, .int .i64 7, .int .i64 8, .int .i64 9, .int .i64 10, .int .i64 11, .int .i64 v] 3)).cell? ⟨w.heap.size, j, none⟩ = some (.int .i64 z) := by
  have hr := new_row w (.cells #[.int .i64 0, .int .i64 3, .int .i64 4, .int .i64 5, .int .i64 6, .int .i64 7, .int .i64 8, .int .i64 9, .int .i64 10, .int .i64 11, .int .i64 v] 3)
  rcases (by omega : j = 0 ∨ j = 1 ∨ j = 2 ∨ j = 3 ∨ j = 4 ∨ j = 5 ∨ j = 6 ∨ j = 7 ∨ j = 8 ∨ j = 9 ∨ j = 10) with rfl | rfl | rfl | rfl | rfl | rfl | rfl | rfl | rfl | rfl | rfl
  all_goals exact ⟨_, (cell_of_row hr).trans rfl⟩
/-- The value in block b, whatever it has become. -/
def PX (w5 : World) (b : Nat) (w : World) : Prop := ∃ (k : Int) (sv : Value) (f : List Int), Hid (w.heap[b]? = some (.cells #[.int .i64 k, sv] 24 (0, 0))) ∧ Hid (IA w sv f) ∧ Hid (Below b w5 w)

theorem own_row {w : World} {B g n cap : Nat} {f : List Int} (h : RN w B (.slice (some ⟨g, 0, none⟩) n cap) f) (hl : f.length ≤ 1000000) : ∃ cs t, w.heap[g]? = some (.cells cs t (0, 0)) ∧ ∀ j, j < f.length → cs[j]? = some (.int .i64 (f.getD j 0)) := by
  rcases h.na hl with ⟨_, e⟩ | ⟨g', cap', cs, t, e, _, _, h1, h2⟩
  · cases e
  · injection e with e1 e2 e3
    injection e1 with e1
    injection e1 with e1
    subst e1
    exact ⟨cs, t, h1, h2⟩
theorem px_store {w7 wc : World} {b B g n cap : Nat} {k : Int} {f : List Int} (hY : w7.heap[b]? = some (.cells #[.int .i64 k, .slice (some ⟨g, 0, none⟩) n cap] 24 (0, 0))) (hR : RN w7 B (.slice (some ⟨g, 0, none⟩) n cap) f) (hbg : b < g) (hb : Below w7.heap.size w7 wc) (hl : f.length ≤ 1000000) (i : Nat) (z : Int) (hn : n = f.length) : PX w7 b (wc.setCell ⟨g, i, none⟩ (.int .i64 z)) := by
  subst hn
  have hRc : wc.ownsRow B 3 1 (.slice (some ⟨g, 0, none⟩) f.length cap) f.length (f.map (Value.int .i64)) := hR.on hb
  have h1 := (World.ownsRow.stored hRc i (.int .i64 z)).1
  have h2 : RN (wc.setCell ⟨g, i, none⟩ (.int .i64 z)) B (.slice (some ⟨g, 0, none⟩) f.length cap) (f.set i z) := by
    unfold RN
    rw [List.length_set, List.map_set]
    exact h1
  refine ⟨k, _, f.set i z, ?_, (h2.na (by rw [List.length_set]; exact hl)).ia, (hb.mono (Nat.le_of_lt (Array.getElem?_eq_some_iff.1 hY).1)).setCell (p := ⟨g, i, none⟩) (Nat.le_of_lt hbg) _⟩
  exact (heap_setCell_other wc ⟨g, i, none⟩ b _ (by show b ≠ g; omega)).trans (row_on hb hY)
theorem px_on {w7 w w' : World} {b : Nat} (h : PX w7 b w) (hb : Below w.heap.size w w') : PX w7 b w' := by
  obtain ⟨k, sv, f, h1, h2, h3⟩ := h
  exact ⟨k, sv, f, row_on hb h1.out, h2.out.on hb, h3.out.trans (hb.mono (Nat.le_of_lt (Array.getElem?_eq_some_iff.1 h1.out).1))⟩
theorem own_cap {w : World} {B g n cap : Nat} {f : List Int} (h : RN w B (.slice (some ⟨g, 0, none⟩) n cap) f) (hl : f.length ≤ 1000000) : f.length ≤ cap := by
  rcases h.na hl with ⟨_, e⟩ | ⟨g', cap', cs, t, e, ⟨_, h1, _⟩, _⟩
  · cases e
  · injection e with e1 e2 e3
    omega
theorem px_tail {w7 : World} {b B g n cap : Nat} {k : Int} {f : List Int} (hY : w7.heap[b]? = some (.cells #[.int .i64 k, .slice (some ⟨g, 0, none⟩) n cap] 24 (0, 0))) (hR : RN w7 B (.slice (some ⟨g, 0, none⟩) n cap) f) (hl : f.length ≤ 1000000) (hbB : b < B) (hn : n = f.length) (h1 : 1 ≤ n) :
    PX w7 b (w7.setCell ⟨b, 1, none⟩ (if cap = 1 then .slice (some ⟨g, 0, none⟩) (n - 1) 0 else .slice (some ⟨g, 1, none⟩) (n - 1) (cap - 1))) := by
  have hc := own_cap hR hl
  have hs := NA.set (R := b) (j := 1) (u := (if cap = 1 then .slice (some ⟨g, 0, none⟩) (n - 1) 0 else .slice (some ⟨g, 1, none⟩) (n - 1) (cap - 1))) (hR.na hl) hbB
  refine ⟨k, _, f.tail, heap_setCell_same _ _ 1 _ _ _ hY, ?_, (Below.refl _ _).setCell (p := ⟨b, 1, none⟩) (Nat.le_refl _) _⟩
  cases f with
  | nil => simp at hn; omega
  | cons q qs =>
    subst hn
    generalize (w7.setCell ⟨b, 1, none⟩ _) = w8 at *
    by_cases h : cap = 1
    · rw [if_pos h]
      have hq : qs = [] := by simp at hc; exact List.length_eq_zero_iff.1 (by omega)
      subst hq
      obtain ⟨ad, c, e, _, h3⟩ := hs.ia
      refine IA.empty ?_
      rcases h3 with ⟨_, _, h3⟩ | ⟨b', o, e2, h4, _⟩
      · cases h3
      · rw [e2] at e
        injection e with e1
        injection e1 with e1
        injection e1 with e1
        rw [e1]; exact h4
    · rw [if_neg h]
      exact IA.tail hs.ia
theorem px_kind {w7 wc : World} {b B : Nat} {k : Int} {sv : Value} {f : List Int} (hY : w7.heap[b]? = some (.cells #[.int .i64 k, sv] 24 (0, 0))) (hR : RN w7 B sv f) (hl : f.length ≤ 1000000) (hb : Below w7.heap.size w7 wc) (z : Int) (hbB : b < B) : PX w7 b (wc.setCell ⟨b, 0, none⟩ (.int .i64 z)) :=
  ⟨z, sv, f, heap_setCell_same _ _ 0 _ _ _ (row_on hb hY), ((NA.set ((hR.on hb).na hl) hbB)).ia, (hb.mono (Nat.le_of_lt (Array.getElem?_eq_some_iff.1 hY).1)).setCell (p := ⟨b, 0, none⟩) (Nat.le_refl _) _⟩
theorem px_put {w7 w8 : World} {b B : Nat} {k : Int} {sv sv' : Value} {f : List Int} (hY : w8.heap[b]? = some (.cells #[.int .i64 k, sv] 24 (0, 0))) (hR : RN w8 B sv' f) (hl : f.length ≤ 1000000) (hbB : b < B) (hb : Below b w7 w8) : PX w7 b (w8.setCell ⟨b, 1, none⟩ sv') :=
  ⟨k, sv', f, heap_setCell_same _ _ 1 _ _ _ hY, ((NA.set (hR.na hl) hbB)).ia, hb.setCell (p := ⟨b, 1, none⟩) (Nat.le_refl _) _⟩

set_option maxRecDepth 8000 in
set_option maxHeartbeats 8000000 in
theorem walk (v0 : Value) (x0 : Val) (kind a b at_ which v : Int) (W : World) (u0 : VW W v0 x0) (w0 : (Lit.int .i64 kind).wf = true) (w1 : (Lit.int .i64 a).wf = true) (w2 : (Lit.int .i64 b).wf = true) (w3 : (Lit.int .i64 at_).wf = true) (w4 : (Lit.int .i64 which).wf = true) (w5 : (Lit.int .i64 v).wf = true) (hX : TabsE W) : Calls Tryd.prog 3 #[v0, .int .i64 kind, .int .i64 a, .int .i64 b, .int .i64 at_, .int .i64 which, .int .i64 v] W fun e W' => e = .returned (.bool true) ∧ Below W.heap.size W W' := by
  obtain ⟨p, hT⟩ := hX
  have HKn := hid fun w (hb : Below W.heap.size W w) => known_any p w (hT.on hb)
  have HT := hid hT
  obtain ⟨x, hxk, hxr, hVal⟩ := lvalue_any kind a b (wf_bd w0) (wf_bd w1) (wf_bd w2)
  clear hxk
  obtain ⟨hl1, hl6⟩ := right_len hxr
  have HV := hid hVal
  have HXR := hid hxr
  obtain ⟨ba, ba'⟩ := wf_bd w3
  obtain ⟨bb, bb'⟩ := wf_bd w4
  obtain ⟨bv, bv'⟩ := wf_bd w5
  obtain ⟨kx, fx⟩ := x
  obtain ⟨n, hn⟩ : ∃ n, n = fx.length := ⟨_, rfl⟩
  dsimp only at hl1 hl6
  rw [← hn] at hl1 hl6
  have H1 := hid fun w => lwithin_any at_ (n : Int) w (by omega) (by omega) ba ba'
  have H2 := hid fun w => lwithin_any which 4 w (by decide) (by decide) bb bb'
  have H3 := hid fun w => lwithin_any v 22 w (by decide) (by decide) bv bv'
  have H4 := hid fun w => lwithin_any v 11 w (by decide) (by decide) bv bv'
  obtain ⟨i, hi⟩ : ∃ i : Nat, at_ % (n : Int) = i := ⟨(at_ % (n : Int)).toNat, by have := Int.emod_nonneg at_ (show (n : Int) ≠ 0 by omega); omega⟩
  have hin : i < n := by have := Int.emod_lt_of_pos at_ (show (0 : Int) < n by omega); omega
  rw [hi] at H1
  obtain ⟨q, hq⟩ : ∃ q : Nat, which % 4 = q := ⟨(which % 4).toNat, by omega⟩
  have hq4 : q < 4 := by omega
  rw [hq] at H2
  obtain ⟨j, hj⟩ : ∃ j : Nat, v % 22 = j := ⟨(v % 22).toNat, by omega⟩
  have hj22 : j < 22 := by omega
  rw [hj] at H3
  obtain ⟨jj, hjj⟩ : ∃ jj : Nat, v % 11 = jj := ⟨(v % 11).toNat, by omega⟩
  have hj11 : jj < 11 := by omega
  rw [hjj] at H4
  have HN := hid hn
  have HU := hid u0
  obtain ⟨fv0, rfl, ⟨⟨ad0, cap0, rfl, h01, h02⟩, _, _⟩, _⟩ := u0
  obtain ⟨k0, f0⟩ := x0
  dsimp only at *
  have HB20 : Hid (f0.length ≤ 20 → ∃ r : Bool, (∀ w, Below W.heap.size W w → Tabs p w → Calls Tryd.prog 9 #[.agg #[.int .i64 k0, .slice ad0 f0.length cap0]] w fun e w' => e = .returned (.bool r) ∧ Below w.heap.size w w') ∧ (∀ w, Below W.heap.size W w → Calls Tryd.prog 11 #[.agg #[.int .i64 k0, .slice ad0 f0.length cap0]] w fun e w' => e = .returned (.bool r) ∧ Below w.heap.size w w')) := hid fun h => both_raw p W _ ⟨k0, f0⟩ HU.out h
  clear hT hVal hxr w0 w1 w2 w3 w4 w5 hi hq hj hjj hn HU ba ba' bb bb' bv bv'
  generalize hm0 : f0.length = m0 at *
  clear hm0
  obtain ⟨wa, hwa⟩ : ∃ wa, wa = W.alloc (.cells #[.int .i64 k0, .slice ad0 m0 cap0] 24) := ⟨_, rfl⟩
  have HBa := hid (show Below W.heap.size W wa by rw [hwa]; exact up_alloc _ _)
  have XA := hid (show wa.heap[W.heap.size]? = some (.cells #[.int .i64 k0, .slice ad0 m0 cap0] 24 (0, 0)) by rw [hwa]; exact new_row _ _)
  go_enter Tryd.func3, Tryd.ntmps3
  go_wp2_with fail
  rw [← hwa]
  clear hwa
  refine (HKn.out _ HBa.out).mono ?_
  rintro e w1 ⟨rfl, hb1⟩
  have HB1 := hid (up_trans HBa.out hb1)
  have X1 := hid (row_on hb1 XA.out)
  have c1 : w1.cell? ⟨W.heap.size, 1, none⟩ = some (.slice ad0 m0 cap0) := by rw [cell_of_row X1.out]; rfl
  clear hb1 HKn HBa XA
  by_cases h20 : 20 < m0
  case pos =>
    have h20' : (20 : Int) < (m0 : Int) := by omega
    go_wp2
    go_ret
    exact ⟨rfl, HB1.out⟩
  case neg =>
    have h20' : ¬ (20 : Int) < (m0 : Int) := by omega
    obtain ⟨r0, HR0, HR1⟩ := HB20.out (by omega)
    have HRA := hid HR0
    have HRB := hid HR1
    clear HR0 HR1 HB20
    go_wp2_with fail
    refine (HV.out _).mono ?_
    rintro e w2 ⟨u, rfl, hu, hb2⟩
    obtain ⟨fv, rfl, hf⟩ := hu
    have HF := hid hf.ia
    obtain ⟨adx, capx, efv, hx1, hx2, _⟩ := hf.ia.shape
    dsimp only at efv hx1 hx2 HF
    rw [← HN.out] at efv hx1
    subst efv
    have HB2 := hid (up_trans HB1.out hb2)
    have X2 := hid (row_on hb2 X1.out)
    clear hb2 hf X1 c1
    obtain ⟨w3, hw3⟩ : ∃ w3, w3 = w2.alloc (.cells #[.int .i64 kx, .slice adx n capx] 24) := ⟨_, rfl⟩
    have HB3 := hid (show Below W.heap.size W w3 by rw [hw3]; exact up_trans HB2.out (up_alloc _ _))
    have X3 := hid (show w3.heap[W.heap.size]? = some (.cells #[.int .i64 k0, .slice ad0 m0 cap0] 24 (0, 0)) by rw [hw3]; exact row_up X2.out)
    have Y3 := hid (show w3.heap[w2.heap.size]? = some (.cells #[.int .i64 kx, .slice adx n capx] 24 (0, 0)) by rw [hw3]; exact new_row _ _)
    have HF3 := hid (show IA w3 _ _ by rw [hw3]; exact HF.out.on (up_alloc _ _))
    have hWbx : W.heap.size < w2.heap.size := (Array.getElem?_eq_some_iff.1 X2.out).1
    generalize hbx : w2.heap.size = bx at *
    go_wp2_with fail
    rw [← hw3]
    clear hw3 HF hbx
    have HRX := hid (right_any p ⟨kx, fx⟩ _ w3 ⟨_, rfl, HF3.out⟩ (HT.out.on HB3.out))
    rw [HXR.out] at HRX
    refine HRX.out.mono ?_
    rintro e w4 ⟨rfl, hb4⟩
    have HB4 := hid (up_trans HB3.out hb4)
    have X4 := hid (row_on hb4 X3.out)
    have Y4 := hid (row_on hb4 Y3.out)
    have HF4 := hid (HF3.out.on hb4)
    have hbx4 : bx < w4.heap.size := (Array.getElem?_eq_some_iff.1 Y4.out).1
    clear hb4 X3 Y3 HF3 HRX HB3 HB2 HB1 X2
    have HE5 := hid (RN.empty (B := w4.heap.size) (new_row w4 (.cells #[] 3)) (Nat.le_refl _))
    have HF5 := hid (HF4.out.on (up_alloc w4 (.cells #[] 3)))
    have Y5 := hid (row_up (o' := .cells #[] 3) Y4.out)
    have X5 := hid (row_up (o' := .cells #[] 3) X4.out)
    have d1 : (w4.alloc (.cells #[] 3)).cell? ⟨bx, 1, none⟩ = some (.slice adx n capx) := by rw [cell_of_row Y5.out]; rfl
    have hlen : fx.length ≤ 6 := by rw [← HN.out]; exact hl6
    have Hlen := hid hlen
    have HWx := hid (show W.heap.size < bx from hWbx)
    clear hlen hWbx
    go_wp2_with (at_builtin; (refine wpList_append_ia _ rfl (.tmp 30) (.tmp 32) rfl w4.heap.size (.slice (some ⟨w4.heap.size, 0, none⟩) 0 0) [] (by simp [Act.eval]) HE5.out (.slice adx n capx) fx (by simp [Act.eval]) HF5.out (by have := Hlen.out; simp; omega) (by simp) ?_; intro v6 w6 hr6 hb6; simp only [List.nil_append] at hr6; obtain ⟨g6, cap6, e6, hg6, hlt6⟩ := World.ownsRow.form hr6 (by rw [← HN.out]; omega); rw [← HN.out] at e6; subst e6; have HR6 := hid hr6; have HB6 := hid hb6; have Y6 := hid ((hb6.block bx hbx4).trans Y5.out); have f1 : w6.cell? ⟨bx, 1, none⟩ = some (.slice adx n capx) := (HB6.out.cell (p := ⟨bx, 1, none⟩) hbx4).trans d1; have f2 : w6.frozen? ⟨bx, 1, none⟩ = false := frozen_of_row ((hb6.block bx hbx4).trans Y5.out); clear hr6 hb6))
    have hne6 : g6 ≠ bx := by omega
    obtain ⟨w7, hw7⟩ : ∃ w7, w7 = w6.setCell ⟨bx, 1, none⟩ (.slice (some ⟨g6, 0, none⟩) n cap6) := ⟨_, rfl⟩
    have HR7 := hid (show RN w7 w4.heap.size (.slice (some ⟨g6, 0, none⟩) n cap6) fx by rw [hw7]; exact World.ownsRow.kept HR6.out (set_by w6 bx 1 (.slice (some ⟨g6, 0, none⟩) n cap6)) (.inr (by simp [Value.ownBlock]; exact hne6)))
    have Y7 := hid (show w7.heap[bx]? = some (.cells #[.int .i64 kx, .slice (some ⟨g6, 0, none⟩) n cap6] 24 (0, 0)) by rw [hw7]; exact heap_setCell_same _ _ 1 _ _ _ Y6.out)
    have HB7 := hid (show Below W.heap.size W w7 by rw [hw7]; exact ((up_trans HB4.out (up_alloc _ _)).trans (HB6.out.mono HB4.out.size)).setCell (p := ⟨bx, 1, none⟩) (Nat.le_of_lt HWx.out) _)
    have X7 := hid (show w7.heap[W.heap.size]? = some (.cells #[.int .i64 k0, .slice ad0 m0 cap0] 24 (0, 0)) by rw [hw7]; exact (heap_setCell_other w6 ⟨bx, 1, none⟩ W.heap.size _ (by have := HWx.out; show W.heap.size ≠ bx; omega)).trans ((HB6.out.block _ (by have := HWx.out; omega)).trans X5.out))
    have hg67 : g6 < w7.heap.size := by rw [hw7]; simpa [World.setCell] using hlt6
    have hbg : bx < g6 := by omega
    rw [← hw7]
    have Hb4 := hid (And.intro hbx4 (And.intro (show w4.heap.size ≤ w7.heap.size by omega) hg6))
    clear hw7 HR6 Y6 HB6 f1 f2 X5 Y5 HE5 HF5 d1 hlt6 hne6 hbx4 hg6 X4 Y4 HF4 HB4
    refine (H1.out _).mono ?_
    rintro e wn ⟨rfl, hw⟩
    obtain rfl := hw.symm
    clear hw
    go_wp2_with fail
    refine (H2.out _).mono ?_
    rintro e wn ⟨rfl, hw⟩
    obtain rfl := hw.symm
    clear hw
    have e1 : w7.cell? ⟨bx, 1, none⟩ = some (.slice (some ⟨g6, 0, none⟩) n cap6) := by rw [cell_of_row Y7.out]; rfl
    have e0 : w7.cell? ⟨bx, 0, none⟩ = some (.int .i64 kx) := by rw [cell_of_row Y7.out]; rfl
    have e2 : ∀ o, w7.frozen? ⟨bx, o, none⟩ = false := fun o => frozen_of_row Y7.out
    go_upto_block 0 with fail
    go_cut [] from 17 (fun wc => PX w7 bx wc)
    case first =>
      rcases (by omega : q = 0 ∨ q = 1 ∨ q = 2 ∨ q = 3) with rfl | rfl | rfl | rfl
      · obtain ⟨z, hz⟩ := tab22 w7 v j hj22
        obtain ⟨cs, t6, hrow, hcs⟩ := own_row HR7.out (by rw [← HN.out]; omega)
        have hi2 : (i : Int) < (n : Int) := by omega
        have hj2 : (j : Int) < 22 := by omega
        have q1 : w7.cell? ⟨g6, i, none⟩ = some (.int .i64 (fx.getD i 0)) := by rw [cell_of_row hrow]; exact hcs i (by rw [← HN.out]; exact hin)
        have q2 : ∀ o, (w7.alloc o).cell? ⟨g6, i, none⟩ = some (.int .i64 (fx.getD i 0)) := fun o => by rw [(up_alloc w7 o).cell (p := ⟨g6, i, none⟩) hg67]; exact q1
        have q3 : w7.frozen? ⟨g6, i, none⟩ = false := frozen_of_row hrow
        have q4 : ∀ o, (w7.alloc o).frozen? ⟨g6, i, none⟩ = false := fun o => frozen_of_row (row_up hrow)
        have q5 : ∀ o, (w7.alloc o).cell? ⟨bx, 1, none⟩ = some (.slice (some ⟨g6, 0, none⟩) n cap6) := fun o => by rw [(up_alloc w7 o).cell (p := ⟨bx, 1, none⟩) (lt_of_cell e1)]; exact e1
        clear hrow hcs
        go_wp2
        go_region_with (go_at_call 10; refine (H3.out _).mono ?_; rintro e wn ⟨rfl, rfl⟩)
        all_goals
          go_wp2_with fail
          go_meet
          case rel => exact px_on (px_store Y7.out HR7.out hbg (Below.refl _ _) (by have := Hlen.out; omega) i z HN.out) (by first | exact (up_alloc _ _).drew | exact up_alloc _ _)
      · obtain ⟨z, hz⟩ := tab11 w7 v jj hj11
        have hj2 : (jj : Int) < 11 := by omega
        have q5 : (w7.alloc (.cells #[.int .i64 0, .int .i64 3, .int .i64 4, .int .i64 5, .int .i64 6, .int .i64 7, .int .i64 8, .int .i64 9, .int .i64 10, .int .i64 11, .int .i64 v] 3)).cell? ⟨bx, 0, none⟩ = some (.int .i64 kx) := by rw [(up_alloc w7 _).cell (p := ⟨bx, 0, none⟩) (lt_of_cell e0)]; exact e0
        have q6 : (w7.alloc (.cells #[.int .i64 0, .int .i64 3, .int .i64 4, .int .i64 5, .int .i64 6, .int .i64 7, .int .i64 8, .int .i64 9, .int .i64 10, .int .i64 11, .int .i64 v] 3)).frozen? ⟨bx, 0, none⟩ = false := frozen_of_row (row_up Y7.out)
        go_wp2_with fail
        refine (H4.out _).mono ?_
        rintro e wn ⟨rfl, hw⟩
        obtain rfl := hw.symm
        clear hw
        go_wp2_with fail
        go_meet
        case rel => exact px_kind Y7.out HR7.out (by have := Hlen.out; omega) (up_alloc _ _) z Hb4.out.1
      · go_wp2_with (at_builtin; (refine wpList_append_ia _ rfl (.tmp 66) (.tmp 67) rfl w4.heap.size (.slice (some ⟨g6, 0, none⟩) n cap6) fx (by simp [Act.eval]) (HR7.out.on (up_alloc w7 (.cells #[.int .i64 0] 3))) (.slice (some ⟨w7.heap.size, 0, none⟩) 1 1) [0] (by simp [Act.eval]) (IA.at [0] (new_row w7 (.cells #[.int .i64 0] 3)) (by simp)) (by have := Hlen.out; simp; omega) (by have := Hb4.out; simp; omega) ?_; intro v8 w8 hr8 hb8; obtain ⟨g8, cap8, e8, hg8, hlt8⟩ := World.ownsRow.form hr8 (by simp); have HR8 := hid hr8; have HB8 := hid hb8; have Y8 := hid ((hb8.block bx Hb4.out.1).trans (row_up Y7.out)); have f1 : w8.cell? ⟨bx, 1, none⟩ = some (.slice (some ⟨g6, 0, none⟩) n cap6) := (by rw [cell_of_row Y8.out]; rfl); have f2 : w8.frozen? ⟨bx, 1, none⟩ = false := frozen_of_row Y8.out; subst e8; have HR8' := hid (show RN w8 w4.heap.size (.slice (some ⟨g8, 0, none⟩) (fx.length + 1) cap8) (fx ++ [0]) by simpa only [List.length_append, List.length_cons, List.length_nil, Nat.zero_add] using HR8.out); clear hr8 hb8))
        go_meet
        case rel => exact px_put Y8.out HR8'.out (by simp; have := Hlen.out; omega) Hb4.out.1 ((up_alloc _ _).mono (Nat.le_of_lt (lt_of_cell e0)) |>.trans (HB8.out.mono (Nat.le_of_lt Hb4.out.1)))
      · by_cases hc1 : cap6 = 1
        · subst hc1
          go_wp2
          go_meet
          case rel => exact (by have h := px_tail Y7.out HR7.out (by have := Hlen.out; omega) Hb4.out.1 HN.out hl1; rw [if_pos rfl] at h; exact h)
        · have hc2 : 1 < cap6 := by have := own_cap HR7.out (by have := Hlen.out; omega); rw [← HN.out] at this; omega
          go_wp2
          go_meet
          case rel => exact (by have h := px_tail Y7.out HR7.out (by have := Hlen.out; omega) Hb4.out.1 HN.out hl1; rw [if_neg hc1] at h; exact h)
    case rest =>
      obtain ⟨k', sv, f', HY, HF', HBc⟩ := hcut
      obtain ⟨adf, capf, rfl, _, _, _⟩ := HF'.out.shape
      have HBW := hid (HB7.out.trans (HBc.out.mono (show W.heap.size ≤ bx from Nat.le_of_lt HWx.out)))
      have XC := hid ((HBc.out.block _ HWx.out).trans X7.out)
      have g0 : wc.cell? ⟨bx, 0, none⟩ = some (.int .i64 k') := by rw [cell_of_row HY.out]; rfl
      have g1 : wc.cell? ⟨bx, 1, none⟩ = some (.slice adf f'.length capf) := by rw [cell_of_row HY.out]; rfl
      have g2 : wc.cell? ⟨W.heap.size, 0, none⟩ = some (.int .i64 k0) := by rw [cell_of_row XC.out]; rfl
      have g3 : wc.cell? ⟨W.heap.size, 1, none⟩ = some (.slice ad0 m0 cap0) := by rw [cell_of_row XC.out]; rfl
      have l0 := lt_of_cell g0
      have l2 := lt_of_cell g2
      dsimp only at l0 l2
      have HA1 := hid fun (s : Ci.Ext wc) (v : Value) (r : Bool) (h : (v = .agg #[.int .i64 k', .slice adf f'.length capf] ∧ r = rightB ⟨k', f'⟩) ∨ (v = .agg #[.int .i64 k0, .slice ad0 m0 cap0] ∧ r = r0)) =>
        show Calls Tryd.prog 9 #[v] s.out (fun e w' => e = .returned (.bool r) ∧ Below s.out.heap.size s.out w') from by
          rcases h with ⟨rfl, rfl⟩ | ⟨rfl, rfl⟩
          · exact right_any p ⟨k', f'⟩ _ _ ⟨_, rfl, HF'.out.on s.below⟩ (HT.out.on (up_trans HBW.out s.below))
          · exact HRA.out _ (up_trans HBW.out s.below) (HT.out.on (up_trans HBW.out s.below))
      have HA2 := hid fun (s : Ci.Ext wc) (v : Value) (r : Bool) (h : (v = .agg #[.int .i64 k', .slice adf f'.length capf] ∧ r = rightB ⟨k', f'⟩) ∨ (v = .agg #[.int .i64 k0, .slice ad0 m0 cap0] ∧ r = r0)) =>
        show Calls Tryd.prog 11 #[v] s.out (fun e w' => e = .returned (.bool r) ∧ Below s.out.heap.size s.out w') from by
          rcases h with ⟨rfl, rfl⟩ | ⟨rfl, rfl⟩
          · exact rright_any ⟨k', f'⟩ _ _ ⟨_, rfl, HF'.out.on s.below⟩
          · exact HRB.out _ (up_trans HBW.out s.below)
      generalize rightB ⟨k', f'⟩ = rx at *
      clear HF' HRA HRB HY XC HB7 HBc Y7 X7 HR7 e0 e1 e2 HXR HV
      generalize f'.length = nf at *
      cases rx <;> cases r0
      all_goals
        go_wp2
        refine Ci.wp_region_ext2 (by kernel_rfl) (by kernel_rfl) (fun hne hcell => ?_)
        repeat (go_big_quiet_step ((first | (go_at_call 9; exact (HA1.out _ _ _ (by first | exact Or.inl ⟨rfl, rfl⟩ | exact Or.inr ⟨rfl, rfl⟩)).mono (fun e w' h => ⟨h.1, Ci.Ext.to _ h.2⟩)) | (go_at_call 11; exact (HA2.out _ _ _ (by first | exact Or.inl ⟨rfl, rfl⟩ | exact Or.inr ⟨rfl, rfl⟩)).mono (fun e w' h => ⟨h.1, Ci.Ext.to _ h.2⟩)))))
        refine wpQuiet_nil ?_
        rintro _ ⟨s, rfl⟩
        have HBs := hid (up_trans HBW.out s.below)
        clear hne hcell
        go_wp2
        go_ret
        exact ⟨rfl, HBs.out⟩

theorem own : ownKnob Tryd.prog.godebug = none := by kernel_rfl

theorem table {W : World} (h : laidMetH Tryd.prog Rows.actRightRow.laid W) : TabsE W := by
  rw [MakeChecks.laidMetH_plain _ _ _ (by kernel_rfl)] at h
  exact tabs_of_laid h

set_option maxRecDepth 100000 in
theorem lifted (os : Os) (started : os.Started) (H : Type) (enc : TypeId × Value → H) :
    ReturnsInHanded {} Tryd.checked os 3 .any (fun w args => (Rows.actRightSpec.pre enc Tryd.prog Tryd.f3 Rows.actRightRow.domain false w args ∧ laidMetH Tryd.prog Rows.actRightRow.laid w) ∧ sizedMet enc Tryd.prog Tryd.f3 (OpenSpec.ofChange Rows.actRightSpec) false w args)
      (Rows.actRightSpec.post enc Tryd.prog Tryd.f3 false true false false) := by
  refine returnsInHanded_of_change_and (C := Tryd.checked) (X := fun w _ => laidMetH Tryd.prog Rows.actRightRow.laid w) (fun _ _ _ hh h => h.of_heap hh) own started (by kernel_rfl) Tryd.func3
    (ChangeSpec.witness_shaped (enc := enc) (C := Tryd.checked) (os := os) (X := fun w _ => laidMetH Tryd.prog Rows.actRightRow.laid w) false (World.laidAll Tryd.prog os Rows.actRightRow.laid) #[.agg #[.int .i64 0, .slice none 0 0], .int .i64 0, .int .i64 0, .int .i64 0, .int .i64 0, .int .i64 0, .int .i64 0] 8 (World.laidAll_os _ _ _)
      (World.shaped_of_ZipB (by kernel_rfl) (by kernel_rfl)) (by kernel_rfl) (by kernel_rfl) (by kernel_rfl)
      (by rw [MakeChecks.laidMetH_plain _ _ _ (by kernel_rfl)]; exact laidMet_laidAll _ (by kernel_rfl) (by kernel_rfl))) ?_
  intro W base args ds gs before hval0 hW _ _ hL _
  have hval : ∀ (j : Nat) t v, Tryd.f3.params[j]? = some t → args[j]? = some v → Value.okWide Tryd.prog W .any base t v := hval0
  have hW' := hW
  obtain ⟨p, q, hA0, hV, rfl, hfz, hnd⟩ := hW
  have hA : DataW.TrodAll enc Tryd.prog W 0 (fun _ => true) true Tryd.f3.params.toList args.toList ds p := hA0
  rw [Tryd.params3] at hA hval
  obtain ⟨v0, vs0, d0, ds0, p0, q0, hargs, rfl, rfl, h0, r0⟩ := trodAll_cons hA
  obtain ⟨v1, vs1, d1, ds1, p1, q1, rfl, rfl, rfl, h1, r1⟩ := trodAll_cons r0
  obtain ⟨v2, vs2, d2, ds2, p2, q2, rfl, rfl, rfl, h2, r2⟩ := trodAll_cons r1
  obtain ⟨v3, vs3, d3, ds3, p3, q3, rfl, rfl, rfl, h3, r3⟩ := trodAll_cons r2
  obtain ⟨v4, vs4, d4, ds4, p4, q4, rfl, rfl, rfl, h4, r4⟩ := trodAll_cons r3
  obtain ⟨v5, vs5, d5, ds5, p5, q5, rfl, rfl, rfl, h5, r5⟩ := trodAll_cons r4
  obtain ⟨v6, vs6, d6, ds6, p6, q6, rfl, rfl, rfl, h6, r6⟩ := trodAll_cons r5
  obtain ⟨rfl, rfl, rfl⟩ := trodAll_nil r6
  obtain rfl : args = #[v0, v1, v2, v3, v4, v5, v6] := by cases args; simp_all
  obtain ⟨rfl, rfl⟩ := trodVars_none hV
  obtain ⟨x0, w0⟩ := value_of (hval 0 24 v0 rfl rfl) h0
  have l0 : ∀ x ∈ p0, x.block < W.heap.size := fun x hx => hW'.lt x (by simp [hx])
  obtain ⟨a1, rfl, rfl, rfl, w1⟩ := open_int Tryd.underlying3 (hval 1 3 v1 rfl rfl) h1
  obtain ⟨a2, rfl, rfl, rfl, w2⟩ := open_int Tryd.underlying3 (hval 2 3 v2 rfl rfl) h2
  obtain ⟨a3, rfl, rfl, rfl, w3⟩ := open_int Tryd.underlying3 (hval 3 3 v3 rfl rfl) h3
  obtain ⟨a4, rfl, rfl, rfl, w4⟩ := open_int Tryd.underlying3 (hval 4 3 v4 rfl rfl) h4
  obtain ⟨a5, rfl, rfl, rfl, w5⟩ := open_int Tryd.underlying3 (hval 5 3 v5 rfl rfl) h5
  obtain ⟨a6, rfl, rfl, rfl, w6⟩ := open_int Tryd.underlying3 (hval 6 3 v6 rfl rfl) h6
  clear hA0 hval0
  refine (walk v0 x0 a1 a2 a3 a4 a5 a6 W w0 w1 w2 w3 w4 w5 w6 (table hL)).mono fun e W' ⟨he, bel⟩ => ?_
  subst he
  exact ⟨_, rfl, _, _, _, _, _, [], hW', trodAll_mk1 (shut_bool Tryd.underlying4 _), (trodAll_cons_mk (Below.trod (by kernel_rfl) (by kernel_rfl) (of_decide_eq_true (by kernel_rfl)) h0 bel l0) (trodAll_cons_mk (shut_int Tryd.underlying3 w1) (trodAll_cons_mk (shut_int Tryd.underlying3 w2) (trodAll_cons_mk (shut_int Tryd.underlying3 w3) (trodAll_cons_mk (shut_int Tryd.underlying3 w4) (trodAll_cons_mk (shut_int Tryd.underlying3 w5) (trodAll_cons_mk (shut_int Tryd.underlying3 w6) trodAll_mk0))))))), rfl, bel.frame _, fun h => by cases h⟩

theorem row_holds : Rows.ActRightSaid :=
  OpenClaim.holds_of_wide 3 Tryd.f3 rfl rfl rfl rfl rfl rfl rfl ⟨rfl, rfl, rfl, rfl, rfl⟩ rfl rfl rfl rfl rfl (by kernel_rfl) Tryd.func3 (by kernel_rfl)
    (of_decide_eq_true (by kernel_rfl)) (by unfold Func.isWrapper; first | (rw [if_pos (by decide +kernel)]; kernel_rfl) | (rw [if_neg (by decide +kernel)]; exact ⟨rfl, rfl⟩))
    (fun os started H enc _ => lifted os started H enc)

theorem actRight_holds : Rows.ActRightCardSaid :=
  Claim7.holds_tied_plain_at .later [] _ _ _ _ row_holds (fun _ h => by cases h) (by kernel_rfl) (fun _ h => by cases h) actRight_row_tie rfl ⟨rfl, rfl⟩ (by kernel_rfl) rfl
    (fun f fn hf hfn => by
      obtain rfl : f = 3 := Option.some.inj ((show Tryd.prog.funcNamed "interlocutor/interlocutorlaw8.ActRight" = some 3 by kernel_rfl).symm.trans hf) |>.symm
      obtain rfl : fn = Tryd.f3 := (Option.some.inj (Tryd.func3.symm.trans hfn)).symm
      exact ⟨by kernel_rfl, fun j t ht => by
        rw [Tryd.params3] at ht
        have hm : t ∈ [24, 3, 3, 3, 3, 3, 3] := by simpa using Array.mem_of_getElem? ht
        have hall : ([24, 3, 3, 3, 3, 3, 3].all fun u => !Tryd.prog.wantsStandIn u) = true := by kernel_rfl
        exact (show Tryd.prog.wantsStandIn t = false by simpa using List.all_eq_true.1 hall t hm)⟩)
    (by kernel_rfl)

end Go.Proofs.YtengcdodoblabaaDoor
