/- Fld2, Writer, Wnum: these texts, one behind the other. -/
import Derived.Test.YtannndpamhgknaaGreatDoorXRe1
import Derived.Test.YtannndpamhgknaaGreatDoorXFo0
import Derived.Lib.AppendStr
import Derived.Deep.RegionLaw
/- The fields of a decimal, of money, of a duration; of any value that is right. -/
namespace Go.Proofs.YtannndpamhgknaaGreatDoor
open Go.RowKit Gr Bl

/-- What a call that makes fields leaves. -/
def FRet (w : World) (fs : List Fld) (e : Ending) (w' : World) : Prop := ∃ g cap, e = .returned (.slice (some ⟨g, 0, none⟩) fs.length cap) ∧ FldsOwn w.heap.size w' (.slice (some ⟨g, 0, none⟩) fs.length cap) fs ∧ Below w.heap.size w w'
theorem own_litR (w : World) (e : TypeId) (size n g : Nat) (arr : Array Value) (cs : List Value) (hc : arr = cs.toArray) (hg : g = w.heap.size) (hs : cs.length = n * size) (hn : n ≤ 1000) : (w.alloc (.cells arr e)).ownsRow g e size (.slice (some ⟨g, 0, none⟩) n n) n cs := by
  subst hc hg
  refine ⟨hs, .inr ⟨w.heap.size, n, cs.toArray, rfl, Nat.le_refl _, row_new w _, Nat.le_refl _, by unfold maxLen; omega, by simpa using hs, ?_⟩⟩
  rw [← hs]
  simp
theorem own_low {w : World} {B B' n size : Nat} {e : TypeId} {v : Value} {cs : List Value} (h : w.ownsRow B e size v n cs) (hb : B' ≤ B) : w.ownsRow B' e size v n cs := by
  obtain ⟨h1, h2⟩ := h
  refine ⟨h1, ?_⟩
  rcases h2 with h2 | ⟨g, cap, cur, e', h3, h4⟩
  · exact .inl h2
  · exact .inr ⟨g, cap, cur, e', Nat.le_trans hb h3, h4⟩

set_option maxRecDepth 8000 in
theorem duration_any (x : Int) (v : Value) (w : World) (hf : Ac.IA w v [x]) (h0 : 0 ≤ x) (h1 : x ≤ 9007199254740991) (htab : De.Tab w) :
    Calls Tryz.prog 60 #[v] w (FRet w (durF x)) := by
  obtain ⟨b, o, cap, rfl, hl, hc, hlt, hcs⟩ := hf.has (by simp)
  have c0 := hcs 0 (by simp)
  simp only [List.length_cons, List.length_nil, Nat.zero_add, List.getD_cons_zero, Nat.add_zero] at *
  have q1 : x.tdiv 3600 = x / 3600 := Int.tdiv_eq_ediv_of_nonneg h0
  have q2 : x.tmod 3600 = x % 3600 := Int.tmod_eq_emod_of_nonneg h0
  have q3 : (x % 3600).tdiv 60 = x % 3600 / 60 := Int.tdiv_eq_ediv_of_nonneg (by omega)
  have q4 : x.tmod 60 = x % 60 := Int.tmod_eq_emod_of_nonneg h0
  obtain ⟨w1, hw1⟩ : ∃ w1, w1 = w.alloc (.cells #[.int .i64 x, .int .i64 (x / 3600), .int .i64 (x % 3600 / 60), .int .i64 (x % 60)] 3) := ⟨_, rfl⟩
  have hb1 : Below w.heap.size w w1 := by rw [hw1]; exact up_alloc _ _
  have hia : Ac.IA w1 (.slice (some ⟨w.heap.size, 0, none⟩) 4 4) [x, x / 3600, x % 3600 / 60, x % 60] := by rw [hw1]; exact Ac.IA.lit w [x, x / 3600, x % 3600 / 60, x % 60] 3 (Nat.succ_pos _) (by show 4 ≤ 1000; omega)
  have HN := hid (numbers_any [x, x / 3600, x % 3600 / 60, x % 60] _ w1 hia (by
    intro n hn
    unfold i18
    simp only [List.mem_cons, List.not_mem_nil, or_false] at hn
    rcases hn with rfl | rfl | rfl | rfl <;> omega) (by show 4 ≤ 10; omega) (htab.on hb1))
  have HB1 := hid hb1
  clear hf hcs htab hia hb1
  unfold durF
  go_enter Tryz.func60, Tryz.ntmps60
  go_wp2_with fail
  rw [← hw1]
  refine HN.out.mono ?_
  rintro e w2 ⟨g, rfl, ho, hb2⟩
  have HB2 := hid (up_trans HB1.out hb2)
  have HO := hid ho
  clear ho hb2
  go_wp2
  go_ret
  refine ⟨g, 4, rfl, ⟨?_, HO.out.2⟩, HB2.out⟩
  exact own_low HO.out.1 HB1.out.size

/-- The values of the region that takes a decimal apart, operation by operation. -/
def Pd (B b o cap : Nat) (m s : Int) (x y : Value) (j : Nat) (v : Value) (w : World) : Prop :=
  match j with
  | 0 | 3 => v = .slice (some ⟨b, o, none⟩) 2 cap
  | 1 => v = .pointer (some ⟨b, o, none⟩)
  | 2 => v = .int .i64 m
  | 4 => v = .pointer (some ⟨b, o + 1, none⟩)
  | 5 => v = .int .i64 s
  | 6 | 7 => v = .tuple #[x, y]
  | 8 => v = x
  | 9 => v = y
  | 10 | 11 => ∃ g, v = .pointer (some ⟨g, 0, none⟩) ∧ B ≤ g ∧ w.heap[g]? = some (.cells #[.string ⟨#[]⟩, .string ⟨#[]⟩] 102 (0, 0))
  | _ => False
theorem Pd.on {B b o cap : Nat} {m s : Int} {x y : Value} : ∀ (j : Nat) (v : Value) (w w' : World), Below w.heap.size w w' → Pd B b o cap m s x y j v w → Pd B b o cap m s x y j v w' := by
  intro j v w w' hb h
  match j with
  | 0 | 1 | 2 | 3 | 4 | 5 | 6 | 7 | 8 | 9 => exact h
  | 10 | 11 => obtain ⟨g, e, h1, h2⟩ := h; exact ⟨g, e, h1, (hb.block g (Array.getElem?_eq_some_iff.1 h2).1).trans h2⟩
  | _ + 12 => exact h.elim
def Wd (x y : Value) (j : Nat) (v : Value) : Prop := match j with
  | 7 => v = .tuple #[x, y]
  | 9 => v = y
  | _ => True
theorem Pd.weak {B b o cap : Nat} {m s : Int} {x y : Value} : ∀ (j : Nat) (v : Value) (w : World), Pd B b o cap m s x y j v w → Wd x y j v := by
  intro j v w h
  match j with
  | 7 | 9 => exact h
  | 0 | 1 | 2 | 3 | 4 | 5 | 6 | 8 | 10 | 11 => exact trivial
  | _ + 12 => exact trivial
/-- Both blocks, apart. -/
def Cd (w0 : World) (us : Nat → Value) (w : World) : Prop := Below w0.heap.size w0 w ∧ (∀ g, us 10 = .pointer (some ⟨g, 0, none⟩) → g < w.heap.size) ∧ (∀ g, us 11 = .pointer (some ⟨g, 0, none⟩) → g < w.heap.size) ∧ ∀ g, us 10 = .pointer (some ⟨g, 0, none⟩) → us 11 ≠ .pointer (some ⟨g, 0, none⟩)
theorem Cd.step {w0 : World} {us : Nat → Value} {w w' : World} (h : Cd w0 us w) (hb : Below w.heap.size w w') (i : Nat) (v : Value) (h10 : i ≠ 10) (h11 : i ≠ 11) : Cd w0 (upd us i v) w' := by
  obtain ⟨h1, h2, h3, h4⟩ := h
  have e10 : upd us i v 10 = us 10 := by unfold upd; rw [if_neg (Ne.symm h10)]
  have e11 : upd us i v 11 = us 11 := by unfold upd; rw [if_neg (Ne.symm h11)]
  have hs := hb.size
  refine ⟨up_trans h1 hb, fun g e => ?_, fun g e => ?_, fun g e e' => ?_⟩
  · rw [e10] at e; have := h2 g e; omega
  · rw [e11] at e; have := h3 g e; omega
  · rw [e10] at e; rw [e11] at e'; exact h4 g e e'
theorem ptr_inj {g g' : Nat} (h : Value.pointer (some ⟨g, 0, none⟩) = Value.pointer (some ⟨g', 0, none⟩)) : g = g' := by injection h with h; injection h with h; injection h
theorem Cd.new10 {w0 : World} {us : Nat → Value} {w : World} (h : Cd w0 us w) (o : Obj) : Cd w0 (upd us 10 (.pointer (some ⟨w.heap.size, 0, none⟩))) (w.alloc o) := by
  obtain ⟨h1, h2, h3, h4⟩ := h
  have e10 : upd us 10 (.pointer (some ⟨w.heap.size, 0, none⟩)) 10 = .pointer (some ⟨w.heap.size, 0, none⟩) := rfl
  have e11 : upd us 10 (.pointer (some ⟨w.heap.size, 0, none⟩)) 11 = us 11 := rfl
  refine ⟨up_trans h1 (up_alloc _ _), fun g e => ?_, fun g e => ?_, fun g e e' => ?_⟩
  · rw [e10] at e; have := ptr_inj e; simp; omega
  · rw [e11] at e; have := h3 g e; simp; omega
  · rw [e10] at e; rw [e11] at e'; have := ptr_inj e; have := h3 g e'; omega
theorem Cd.new11 {w0 : World} {us : Nat → Value} {w : World} (h : Cd w0 us w) (o : Obj) : Cd w0 (upd us 11 (.pointer (some ⟨w.heap.size, 0, none⟩))) (w.alloc o) := by
  obtain ⟨h1, h2, h3, h4⟩ := h
  have e11 : upd us 11 (.pointer (some ⟨w.heap.size, 0, none⟩)) 11 = .pointer (some ⟨w.heap.size, 0, none⟩) := rfl
  have e10 : upd us 11 (.pointer (some ⟨w.heap.size, 0, none⟩)) 10 = us 10 := rfl
  refine ⟨up_trans h1 (up_alloc _ _), fun g e => ?_, fun g e => ?_, fun g e e' => ?_⟩
  · rw [e10] at e; have := h2 g e; simp; omega
  · rw [e11] at e; have := ptr_inj e; simp; omega
  · rw [e11] at e'; rw [e10] at e; have := ptr_inj e'; have := h2 g e; omega
def Fd (w0 : World) (sg dg : List UInt8) (us : Nat → Value) (w : World) : Prop :=
  ∃ g g', us 10 = .pointer (some ⟨g, 0, none⟩) ∧ us 11 = .pointer (some ⟨g', 0, none⟩) ∧ g ≠ g' ∧ Below w0.heap.size w0 w ∧ w0.heap.size ≤ g ∧ w0.heap.size ≤ g' ∧ w.heap[g]? = some (.cells #[.string ⟨sg.toArray⟩, .string ⟨dg.toArray⟩] 102 (0, 0)) ∧ w.heap[g']? = some (.cells #[.string ⟨#[]⟩, .string ⟨#[]⟩] 102 (0, 0))

set_option maxRecDepth 8000 in
set_option maxHeartbeats 4000000 in
theorem decimal_any (m : Int) (s : Nat) (v : Value) (w : World) (hf : Ac.IA w v [m, (s : Int)]) (hs : s ≤ 18) (h0 : -1000000000000000000 < m) (h1 : m < 1000000000000000000) (hT : TabN w) :
    Calls Tryz.prog 58 #[v] w (FRet w (decF m s)) := by
  obtain ⟨b, o, cap, rfl, hl, hc, hlt, hcs⟩ := hf.has (by simp)
  have c0 := hcs 0 (by simp)
  have c1 := hcs 1 (by simp)
  simp only [List.length_cons, List.length_nil, Nat.zero_add, List.getD_cons_zero, List.getD_cons_succ, Nat.add_zero, Nat.reduceAdd] at *
  have HS := hid (fun w' (hb : Below w.heap.size w w') => split_any m s w' hs h0 h1 (hT.on hb))
  unfold decF
  generalize wholeN m s = x at *
  generalize partN m s = y at *
  obtain ⟨sg1, dg1⟩ := x
  obtain ⟨sg2, dg2⟩ := y
  unfold numV at HS
  dsimp only at HS
  clear hf hcs hT
  have hmf : ∀ (fn : Fn) (first cap : Array Value) (w : World), (Instr.makeFunc fn first cap).run Tryz.prog w = .ok (.func fn first cap) w := fun _ _ _ _ => rfl
  go_enter Tryz.func58, Tryz.ntmps58
  go_wp2
  refine wp_region_relc (n := 12) (E := fun i => i == 9) (by kernel_rfl) (by kernel_rfl) (fun us => ⟨#[.slice (some ⟨b, o, none⟩) 2 cap, undef, .slice none 0 0, us 10, us 11, us 7, us 0, us 1, us 2, us 3, us 4, us 5, us 6, us 8, us 9, undef, undef, undef, undef, undef, undef, undef, undef, undef], []⟩)
    (Pd w.heap.size b o cap m s (.agg #[.string ⟨sg1.toArray⟩, .string ⟨dg1.toArray⟩]) (.agg #[.string ⟨sg2.toArray⟩, .string ⟨dg2.toArray⟩])) (Wd (.agg #[.string ⟨sg1.toArray⟩, .string ⟨dg1.toArray⟩]) (.agg #[.string ⟨sg2.toArray⟩, .string ⟨dg2.toArray⟩])) (Cd w) (fun w w' => Below w.heap.size w w') (Fd w sg1 dg1) (fun _ => undef) (by rfl)
    ⟨(Below.refl _ _).drew, (fun g e => by cases e), (fun g e => by cases e), (fun g e => by cases e)⟩ (fun j v w w' h hp => Pd.on j v w w' h hp) Pd.weak (fun us w i v hE h => ?_) ?_ ?_ ?_ ?_
  case refine_1 =>
    obtain rfl : i = 9 := by simpa using hE
    exact h
  case refine_2 =>
    intro i hi us w hC hd
    have hu := hC.1
    rcases (by omega : i = 0 ∨ i = 1 ∨ i = 2 ∨ i = 3 ∨ i = 4 ∨ i = 5 ∨ i = 6 ∨ i = 7 ∨ i = 8 ∨ i = 9 ∨ i = 10 ∨ i = 11) with rfl | rfl | rfl | rfl | rfl | rfl | rfl | rfl | rfl | rfl | rfl | rfl
    · refine wpOp_step rfl (fun K hK => ?_)
      rw [if_pos (by rfl)]
      go_simp
      exact hK _ _ ⟨_, rfl, rfl, Below.refl _ _, hC.step (Below.refl _ _) _ _ (by decide) (by decide)⟩
    · have e : us 0 = .slice (some ⟨b, o, none⟩) 2 cap := hd _ rfl ⟨0, .data⟩ (by simp) rfl
      refine wpOp_step rfl (fun K hK => ?_)
      rw [if_pos (by rfl)]
      rw [e]
      go_simp
      exact hK _ _ ⟨_, by simp [upd, e], rfl, Below.refl _ _, hC.step (Below.refl _ _) _ _ (by decide) (by decide)⟩
    · have e : us 1 = .pointer (some ⟨b, o, none⟩) := hd _ rfl ⟨1, .data⟩ (by simp) rfl
      have d0 := (hu.cell (p := ⟨b, o, none⟩) hlt).trans c0
      refine wpOp_step rfl (fun K hK => ?_)
      rw [if_pos (by rfl)]
      rw [e]
      go_simp
      exact hK _ _ ⟨_, by simp [upd, e], rfl, Below.refl _ _, hC.step (Below.refl _ _) _ _ (by decide) (by decide)⟩
    · refine wpOp_step rfl (fun K hK => ?_)
      rw [if_pos (by rfl)]
      go_simp
      exact hK _ _ ⟨_, rfl, rfl, Below.refl _ _, hC.step (Below.refl _ _) _ _ (by decide) (by decide)⟩
    · have e : us 3 = .slice (some ⟨b, o, none⟩) 2 cap := hd _ rfl ⟨3, .data⟩ (by simp) rfl
      refine wpOp_step rfl (fun K hK => ?_)
      rw [if_pos (by rfl)]
      rw [e]
      go_simp
      exact hK _ _ ⟨_, by simp [upd, e], rfl, Below.refl _ _, hC.step (Below.refl _ _) _ _ (by decide) (by decide)⟩
    · have e : us 4 = .pointer (some ⟨b, o + 1, none⟩) := hd _ rfl ⟨4, .data⟩ (by simp) rfl
      have d1 := (hu.cell (p := ⟨b, o + 1, none⟩) hlt).trans c1
      refine wpOp_step rfl (fun K hK => ?_)
      rw [if_pos (by rfl)]
      rw [e]
      go_simp
      exact hK _ _ ⟨_, by simp [upd, e], rfl, Below.refl _ _, hC.step (Below.refl _ _) _ _ (by decide) (by decide)⟩
    · have e : us 2 = .int .i64 m := hd _ rfl ⟨2, .data⟩ (by simp) rfl
      have e' : us 5 = .int .i64 s := hd _ rfl ⟨5, .data⟩ (by simp) rfl
      refine wpOp_step rfl (fun K hK => ?_)
      rw [if_pos (by rfl)]
      rw [e, e']
      go_simp
      go_at_call 86
      refine (HS.out _ hu).mono ?_
      rintro e2 w2 ⟨rfl, hb⟩
      exact hK _ _ ⟨_, by simp [upd, e, e'], rfl, hb, hC.step hb _ _ (by decide) (by decide)⟩
    · have e : us 6 = .tuple #[.agg #[.string ⟨sg1.toArray⟩, .string ⟨dg1.toArray⟩], .agg #[.string ⟨sg2.toArray⟩, .string ⟨dg2.toArray⟩]] := hd _ rfl ⟨6, .data⟩ (by simp) rfl
      refine wpOp_step rfl (fun K hK => ?_)
      rw [if_pos (by rfl)]
      rw [e]
      go_simp
      exact hK _ _ ⟨_, by simp [upd, e], rfl, Below.refl _ _, hC.step (Below.refl _ _) _ _ (by decide) (by decide)⟩
    · have e : us 7 = .tuple #[.agg #[.string ⟨sg1.toArray⟩, .string ⟨dg1.toArray⟩], .agg #[.string ⟨sg2.toArray⟩, .string ⟨dg2.toArray⟩]] := hd _ rfl ⟨7, .data⟩ (by simp) rfl
      refine wpOp_step rfl (fun K hK => ?_)
      rw [if_pos (by rfl)]
      rw [e]
      go_simp
      exact hK _ _ ⟨_, by simp [upd, e], rfl, Below.refl _ _, hC.step (Below.refl _ _) _ _ (by decide) (by decide)⟩
    · have e : us 7 = .tuple #[.agg #[.string ⟨sg1.toArray⟩, .string ⟨dg1.toArray⟩], .agg #[.string ⟨sg2.toArray⟩, .string ⟨dg2.toArray⟩]] := hd _ rfl ⟨7, .data⟩ (by simp) rfl
      refine wpOp_step rfl (fun K hK => ?_)
      rw [if_pos (by rfl)]
      rw [e]
      go_simp
      exact hK _ _ ⟨_, by simp [upd, e], rfl, Below.refl _ _, hC.step (Below.refl _ _) _ _ (by decide) (by decide)⟩
    · refine wpOp_step rfl (fun K hK => ?_)
      rw [if_pos (by rfl)]
      go_simp
      exact hK _ _ ⟨_, rfl, ⟨_, rfl, hu.size, row_new _ _⟩, up_alloc _ _, hC.new10 _⟩
    · refine wpOp_step rfl (fun K hK => ?_)
      rw [if_pos (by rfl)]
      go_simp
      exact hK _ _ ⟨_, rfl, ⟨_, rfl, hu.size, row_new _ _⟩, up_alloc _ _, hC.new11 _⟩
  case refine_3 =>
    intro us w hC hd
    have e8 : us 8 = .agg #[.string ⟨sg1.toArray⟩, .string ⟨dg1.toArray⟩] := hd 8 (by decide) rfl
    obtain ⟨g, e10, hg, hz⟩ := hd 10 (by decide) rfl
    obtain ⟨g', e11, hg', hz'⟩ := hd 11 (by decide) rfl
    have hne : g ≠ g' := fun e => hC.2.2.2 g e10 (by rw [e11, e])
    have z0 : w.cell? ⟨g, 0, none⟩ = some (.string ⟨#[]⟩) := by rw [cell_of_row _ _ _ _ _ _ hz]; rfl
    have z1 : w.cell? ⟨g, 1, none⟩ = some (.string ⟨#[]⟩) := by rw [cell_of_row _ _ _ _ _ _ hz]; rfl
    have zf : ∀ o, w.frozen? ⟨g, o, none⟩ = false := fun o => frozen_of_row _ _ _ _ _ hz
    refine wpOp_step rfl (fun K hK => ?_)
    rw [if_pos (by rfl)]
    rw [e10, e8]
    go_simp
    refine hK _ _ ⟨undef, by simp [upd, e10, e8, e11], g, g', e10, e11, hne, ?_, hg, hg', heap_setCell_same _ _ 1 _ _ _ (heap_setCell_same _ _ 0 _ _ _ hz), ?_⟩
    · exact ((hC.1).setCell (p := ⟨g, 0, none⟩) hg _).setCell (p := ⟨g, 1, none⟩) hg _
    · exact (Below.heap_setCell _ ⟨g, 1, none⟩ _ g' (Ne.symm hne)).trans ((Below.heap_setCell _ ⟨g, 0, none⟩ _ g' (Ne.symm hne)).trans hz')
  case refine_4 =>
    intro i hi hE us w hd
    obtain rfl : i = 9 := by simpa using hE
    have e : us 7 = .tuple #[.agg #[.string ⟨sg1.toArray⟩, .string ⟨dg1.toArray⟩], .agg #[.string ⟨sg2.toArray⟩, .string ⟨dg2.toArray⟩]] := hd _ rfl ⟨7, .data⟩ (by simp) rfl
    refine wpOp_step rfl (fun K hK => ?_)
    rw [if_pos (by rfl)]
    rw [e]
    go_simp
    exact hK _ _ ⟨_, by simp [upd, e], rfl, rfl⟩
  case refine_5 =>
    intro us w2 hF hd
    obtain ⟨g, g', e10, e11, hne, hb, hg, hg', hz, hz'⟩ := hF
    have e9 : us 9 = .agg #[.string ⟨sg2.toArray⟩, .string ⟨dg2.toArray⟩] := hd 9 (by decide)
    have z0 : w2.cell? ⟨g', 0, none⟩ = some (.string ⟨#[]⟩) := by rw [cell_of_row _ _ _ _ _ _ hz']; rfl
    have z1 : w2.cell? ⟨g', 1, none⟩ = some (.string ⟨#[]⟩) := by rw [cell_of_row _ _ _ _ _ _ hz']; rfl
    have zf : ∀ o, w2.frozen? ⟨g', o, none⟩ = false := fun o => frozen_of_row _ _ _ _ _ hz'
    have y0 : w2.cell? ⟨g, 0, none⟩ = some (.string ⟨sg1.toArray⟩) := by rw [cell_of_row _ _ _ _ _ _ hz]; rfl
    have y1 : w2.cell? ⟨g, 1, none⟩ = some (.string ⟨dg1.toArray⟩) := by rw [cell_of_row _ _ _ _ _ _ hz]; rfl
    have HB := hid hb
    clear hz hz' hb
    rw [e10, e11, e9]
    go_wp2
    go_ret
    have hsz := HB.out.size
    refine ⟨w2.heap.size, 2, rfl, ⟨?_, by show 2 ≤ 20; omega⟩, ?_⟩
    · exact own_low (own_litR _ 104 3 2 w2.heap.size _ [.string ⟨sg1.toArray⟩, .string ⟨dg1.toArray⟩, .func (.func 85) #[.agg #[.string ⟨sg1.toArray⟩, .string ⟨dg1.toArray⟩]] #[], .string ⟨sg2.toArray⟩, .string ⟨dg2.toArray⟩, .func (.func 87) #[.agg #[.string ⟨sg2.toArray⟩, .string ⟨dg2.toArray⟩]] #[]] rfl (by simp) rfl (by omega)) hsz
    · exact ((HB.out.setCell (p := ⟨g', 0, none⟩) hg' _).setCell (p := ⟨g', 1, none⟩) hg' _).alloc (by simpa using hsz) _
end Go.Proofs.YtannndpamhgknaaGreatDoor

/- What is written: package render's writer, text by text, number by number. -/
namespace Go.Proofs.YtannndpamhgknaaGreatDoor
open Go.RowKit Gr Bl

def bytesV (bs : List UInt8) : List Value := bs.map fun b => .int .u8 (b.toNat : Int)
/-- A writer at block g: the words, the digits, the fields that it has; what it has written. -/
def WrR (w : World) (g : Nat) (lv : Value) (ds : Int) (fv : Value) (bs : List UInt8) : Prop := ∃ tv, w.heap[g]? = some (.cells #[lv, .int .i64 ds, fv, tv] 81 (0, 0)) ∧ w.ownsRow (g + 1) 5 1 tv bs.length (bytesV bs)
theorem WrR.lt {w : World} {g : Nat} {lv fv : Value} {ds : Int} {bs : List UInt8} (h : WrR w g lv ds fv bs) : g < w.heap.size := by
  obtain ⟨v, h1, _⟩ := h
  exact (Array.getElem?_eq_some_iff.1 h1).1
theorem WrR.on {w w' : World} {g : Nat} {lv fv : Value} {ds : Int} {bs : List UInt8} (h : WrR w g lv ds fv bs) (hb : Below w.heap.size w w') : WrR w' g lv ds fv bs := by
  obtain ⟨v, h1, h2⟩ := h
  exact ⟨v, (hb.block g (Array.getElem?_eq_some_iff.1 h1).1).trans h1, owns_below h2 hb⟩
theorem set_grownR (w : World) (g j : Nat) (u : Value) : w.grownBy (w.setCell ⟨g, j, none⟩ u) (some g) := ⟨rfl, rfl, rfl, by simp [World.setCell], fun k _ hk => Below.heap_setCell _ _ _ _ (fun e => hk (by rw [e]))⟩
/-- A string's bytes behind a row, in a region that draws. -/
theorem step_append_str (w : World) {ops : Array Oper} {o : Oper} {a : Act} {K : Act → World → Prop} {Q : Exit → Act → World → Prop} {E : Prop} (hgd : o.guard = none) (sl x : Operand) (t u : TypeId)
    (ho : o.op = .call { callee := .builtin .append, args := #[sl, x], argTypes := #[t, u] })
    (base : Nat) (e : TypeId) (i : TypeInfo) (ht : Tryz.prog.underlying t = some (.slice e)) (hu : Tryz.prog.underlying u = some .string) (hi : Tryz.prog.info? e = some i) (hz : i.zero = some (.int .u8 0))
    (hsize : i.size = 1) (hby : i.bytes = 1)
    (v : Value) (n : Nat) (xs : List Value) (hs : a.eval sl = v) (hown : w.ownsRow base e 1 v n xs) (s : ByteArray) (hx : a.eval x = .string s)
    (h63 : n + s.size ≤ maxLen) (hbytes : n + s.size ≤ 140737488355328) (hbase : base ≤ w.heap.size)
    (hK : ∀ v' w', w'.ownsRow base e 1 v' (n + s.size) (xs ++ Lib.strCells s) → w.grownBy w' v.ownBlock → K (a.put o.dst v') w') :
    if Region.wanted o (yielded ops a.tmps) = true then Oper.wp Tryz.prog o a w K Q else E := by
  have hw : Region.wanted o (yielded ops a.tmps) = true := by simp [Region.wanted, hgd]
  rw [if_pos hw]
  obtain ⟨v', w', hr, h2, h3, h4⟩ := Lib.run_append_own_string (P := Tryz.prog) w base t u o.type e i ht hu hi hz hsize hby v n xs hown s h63 hbytes hbase
  unfold Oper.wp execOp
  simp only [ho, resolve, invoke, builtin, Sem.run_bind, Sem.run_pure, Result.andThen_ok, List.map_toArray, List.map_cons, List.map_nil, hs, hx, hr]
  exact hK v' w' h2 h3
/-- All blocks but g, and but rows of bytes, are as they were. -/
def KeptR (g : Nat) (w w' : World) : Prop := ∀ k o, k ≠ g → (∀ cs fz, o ≠ .cells cs 5 fz) → w.heap[k]? = some o → w'.heap[k]? = some o
theorem KeptR.refl (g : Nat) (w : World) : KeptR g w w := fun _ _ _ _ h => h
theorem KeptR.trans {g : Nat} {w w1 w2 : World} (h : KeptR g w w1) (k : KeptR g w1 w2) : KeptR g w w2 := fun b o h1 h2 h3 => k b o h1 h2 (h b o h1 h2 h3)
theorem KeptR.up {g : Nat} {w w' : World} (hb : Below w.heap.size w w') : KeptR g w w' := fun b _ _ _ h => (hb.block b (Array.getElem?_eq_some_iff.1 h).1).trans h
theorem KeptR.set {w : World} {g c : Nat} {u : Value} : KeptR g w (w.setCell ⟨g, c, none⟩ u) := fun _ _ h1 _ h => (Below.heap_setCell _ _ _ _ h1).trans h
theorem KeptR.grown {g B n : Nat} {w w' : World} {v : Value} {xs : List Value} (h : w.ownsRow B 5 1 v n xs) (hg : w.grownBy w' v.ownBlock) : KeptR g w w' := fun b o _ h2 h3 => by
  refine (hg.block b (Array.getElem?_eq_some_iff.1 h3).1 (fun e => ?_)).trans h3
  obtain ⟨_, ⟨rfl, _⟩ | ⟨g', cap, cur, rfl, _, h5, _⟩⟩ := h
  · cases e
  · have e' : some b = some g' := e
    injection e' with e'
    subst e'
    rw [h5] at h3
    injection h3 with h3
    exact h2 _ _ h3.symm
/-- Behind an append onto its row, and the store. -/
theorem WrR.put {w w1 w2 : World} {g n : Nat} {lv fv : Value} {ds : Int} {v v' : Value} {bs cs : List UInt8} (h1 : w.heap[g]? = some (.cells #[lv, .int .i64 ds, fv, v] 81 (0, 0))) (h2 : w.ownsRow (g + 1) 5 1 v bs.length (bytesV bs)) (hb : Below w.heap.size w w1) (ho : w2.ownsRow (g + 1) 5 1 v' n (bytesV (bs ++ cs))) (hn : n = (bs ++ cs).length) (hg : w1.grownBy w2 v.ownBlock) :
    WrR (w2.setCell ⟨g, 3, none⟩ v') g lv ds fv (bs ++ cs) ∧ Below g w (w2.setCell ⟨g, 3, none⟩ v') ∧ KeptR g w (w2.setCell ⟨g, 3, none⟩ v') := by
  subst hn
  have hlt := (Array.getElem?_eq_some_iff.1 h1).1
  have hne : ∀ k, v.ownBlock = some k → g + 1 ≤ k := fun k e => (World.ownsRow.lt h2 k e).1
  have k1 : w1.heap[g]? = some (.cells #[lv, .int .i64 ds, fv, v] 81 (0, 0)) := (hb.block g hlt).trans h1
  have k2 : w2.heap[g]? = some (.cells #[lv, .int .i64 ds, fv, v] 81 (0, 0)) := (hg.block g (Array.getElem?_eq_some_iff.1 k1).1 (fun e => by have := hne g e.symm; omega)).trans k1
  refine ⟨⟨v', heap_setCell_same w2 g 3 _ _ _ k2, ?_⟩, ?_, ((KeptR.up hb).trans (KeptR.grown (owns_below h2 hb) hg)).trans KeptR.set⟩
  · refine ho.kept (set_grownR w2 g 3 v') ?_
    cases e : v'.ownBlock with
    | none => exact .inl rfl
    | some k => exact .inr (fun e2 => by injection e2 with e2; have := (World.ownsRow.lt ho k e).1; omega)
  · exact (((hb.mono (Nat.le_of_lt hlt)).grown hg (by have := hb.size; omega) (fun k e => by have := hne k e; omega)).setCell (p := ⟨g, 3, none⟩) (Nat.le_refl _) _)
theorem info_byteR : (Tryz.prog.info? 5).map (fun i => (i.zero, i.size, i.bytes)) = some (some (.int .u8 0), 1, 1) := by kernel_rfl

theorem ext_take (t : List UInt8) (k : Nat) : (ByteArray.mk t.toArray).extract 0 k = ⟨(t.take k).toArray⟩ := by
  apply ByteArray.ext
  rw [ByteArray.data_extract]
  show t.toArray.extract 0 k = (t.take k).toArray
  simp
theorem ext_cells (t : List UInt8) (k : Nat) : Lib.strCells ((ByteArray.mk t.toArray).extract 0 k) = bytesV (t.take k) := by rw [ext_take]; rfl
theorem ext_size (t : List UInt8) (k : Nat) (h : k ≤ t.length) : ((ByteArray.mk t.toArray).extract 0 k).size = k := by rw [ext_take, size_mk, List.length_take, Nat.min_eq_left h]
set_option maxRecDepth 8000 in
set_option maxHeartbeats 1000000 in
theorem put_any (t : List UInt8) (g : Nat) (lv fv : Value) (ds : Int) (bs : List UInt8) (w : World) (h : WrR w g lv ds fv bs) (hl : bs.length ≤ 257) (ht : t.length ≤ 1000000) :
    Calls Tryz.prog 61 #[.pointer (some ⟨g, 0, none⟩), .string ⟨t.toArray⟩] w fun e w' => e = .returned (.tuple #[]) ∧ WrR w' g lv ds fv ((bs ++ t).take 257) ∧ Below g w w' ∧ KeptR g w w' := by
  obtain ⟨v, h1, h2⟩ := h
  obtain ⟨i0, hi, hz0, hz1, hz2⟩ := info_parts info_byteR
  have c0 : w.cell? ⟨g, 3, none⟩ = some v := by rw [cell_of_row _ _ _ _ _ _ h1]; rfl
  have f0 : w.frozen? ⟨g, 3, none⟩ = false := frozen_of_row _ _ _ _ _ h1
  have hgl : g < w.heap.size := (Array.getElem?_eq_some_iff.1 h1).1
  obtain ⟨ad, cap, ev, _⟩ := own_shape h2
  have HGS := hid (fun q e => (World.ownsRow.lt h2 q e).1)
  have st := size_mk t
  have H1 := hid h1
  have H2 := hid h2
  have HE := hid (show (bs ++ t).take 257 = bs ++ t.take (257 - bs.length) by rw [List.take_append, List.take_of_length_le hl])
  obtain ⟨n, hn⟩ : ∃ n, n = bs.length := ⟨_, rfl⟩
  have HN := hid hn
  rw [← hn] at ev hl
  subst ev
  clear h1 h2 hn
  go_enter Tryz.func61, Tryz.ntmps61
  obtain ⟨k, hk⟩ : ∃ k, k = min t.length (257 - n) := ⟨_, rfl⟩
  have hk1 : min (t.length : Int) (257 - (n : Int)) = (k : Int) := by omega
  have hk2 : k ≤ t.length := by omega
  have hk3 : (k : Int) ≤ (t.length : Int) := by omega
  have hk4 : IntKind.i64.wrap (257 - (n : Int)) = 257 - (n : Int) := by rw [IntKind.wrap_i64]; omega
  have HK := hid hk
  have HSC := hid (ext_cells t k)
  have HSZ := hid (ext_size t k hk2)
  have HOA := hid (owns_below H2.out (Below.refl _ _).drew)
  clear hk
  go_wp2_with fail
  go_region_law (first | (refine step_append_str _ rfl (.tmp 15) (.tmp 21) 79 9 rfl (g + 1) 5 i0 Tryz.underlying79 Tryz.underlying9 hi hz0 hz1 hz2 (.slice ad n cap) n (bytesV bs) (by simp [Act.eval, Act.put]) (by have := HOA.out; rwa [← HN.out] at this) ((ByteArray.mk t.toArray).extract 0 k) (by simp [Act.eval, Act.put]) (by rw [HSZ.out]; unfold maxLen; omega) (by rw [HSZ.out]; omega) (by simp; omega) ?_; intro v' w' k1 k2; have hk2' := (k2.block g hgl (fun e => by have := HGS.out g e.symm; omega)).trans (((Below.refl w.heap.size w).drew.block g hgl).trans H1.out); have c0' : w'.cell? ⟨g, 3, none⟩ = some (.slice ad n cap) := (by rw [cell_of_row _ _ _ _ _ _ hk2']; rfl); have f0' : w'.frozen? ⟨g, 3, none⟩ = false := frozen_of_row _ _ _ _ _ hk2'; have HP := hid (WrR.put (cs := t.take k) H1.out H2.out (Below.refl _ _).drew (by unfold bytesV; rw [List.map_append]; rw [HSC.out] at k1; exact k1) (by rw [HSZ.out, List.length_append, List.length_take, ← HN.out, Nat.min_eq_left hk2]) k2); obtain ⟨adv, capv, ev', _⟩ := own_shape k1; subst ev'; have hgl' : g < w'.heap.size := (Array.getElem?_eq_some_iff.1 hk2').1; clear k1 k2 hk2') | fail)
  all_goals
    go_end0
    have e : bs ++ t.take k = (bs ++ t).take 257 := by
      rw [HE.out, HK.out, ← HN.out]
      congr 1
      rw [List.take_eq_take_iff]
      omega
    rw [← e]
    have HP2 := HP.out
    rw [HSZ.out] at HP2
    exact ⟨rfl, HP2⟩
end Go.Proofs.YtannndpamhgknaaGreatDoor

/- A number, written in a language's digits. -/
namespace Go.Proofs.YtannndpamhgknaaGreatDoor
open Go.RowKit Gr Bl

theorem WrR.iter {w : World} {g : Nat} {lv fv : Value} {ds : Int} {bs : List UInt8} (h : WrR w g lv ds fv bs) {k : Nat} {s : ByteArray} {pos : Nat} (hk : w.heap[k]? = some (.stringIter s pos)) (pos' : Nat) : WrR (w.iterAt k s pos') g lv ds fv bs := by
  obtain ⟨v, h1, h2⟩ := h
  have hg : g ≠ k := fun e => by subst e; rw [hk] at h1; cases h1
  refine ⟨v, (Lib.iterAt_other w k g s pos' hg).trans h1, h2.1, ?_⟩
  rcases h2.2 with hn | ⟨q, cap, cur, hv, hb, hq, rest⟩
  · exact .inl hn
  · have hkq : q ≠ k := fun e => by subst e; rw [hk] at hq; cases hq
    exact .inr ⟨q, cap, cur, hv, hb, (Lib.iterAt_other w k q s pos' hkq).trans hq, rest⟩
/-- A sign of a number that is written: a minus, a digit. -/
def NumC (c : UInt8) : Prop := c = 45 ∨ (48 ≤ c.toNat ∧ c.toNat ≤ 57)
theorem take_more {α : Type} (x y z : List α) (n : Nat) : ((x ++ y).take n ++ z).take n = (x ++ (y ++ z)).take n := by
  rw [← List.append_assoc]
  generalize x ++ y = a
  rw [List.take_append, List.take_append, List.take_take, Nat.min_self, List.length_take]
  congr 1
  by_cases h : a.length ≤ n
  · rw [Nat.min_eq_right h]
  · rw [Nat.min_eq_left (by omega), Nat.sub_self, show n - a.length = 0 by omega]
theorem getB (t : List UInt8) (pos : Nat) (h : pos < (ByteArray.mk t.toArray).size) (h' : pos < t.length) : (ByteArray.mk t.toArray)[pos]'h = t[pos]'h' := rfl

theorem minus_is : ((Utf8.encode 45).toList == [45]) = true := by decide +kernel
theorem minus_all : ∀ x : Fin 10, ((Utf8.encode ((48 + x.val : Nat) : Int)).toList == [45]) = false := by decide +kernel
theorem minus_not (x : Nat) (h0 : 48 ≤ x) (h1 : x ≤ 57) : ((Utf8.encode (x : Int)).toList == [45]) = false := by
  have := minus_all ⟨x - 48, by omega⟩
  rwa [show 48 + (⟨x - 48, by omega⟩ : Fin 10).val = x by show 48 + (x - 48) = x; omega] at this
theorem enc_ne (r : Int) : (Lib.encodeRune r).isEmpty = false := by
  have := Fo.encodeRune_length r
  cases h : Lib.encodeRune r with
  | nil => rw [h] at this; simp at this
  | cons _ _ => rfl
theorem KeptR.iter {g : Nat} {w w' : World} (h : KeptR g w w') {s : ByteArray} {pos : Nat} : KeptR g w (w'.iterAt w.heap.size s pos) := fun b o h1 h2 h3 => by
  have hlt := (Array.getElem?_eq_some_iff.1 h3).1
  exact (Lib.iterAt_other w' w.heap.size b s pos (by omega)).trans (h b o h1 h2 h3)
theorem tab_low {w w' : World} {g : Nat} (h : Fo.Tab w) (hb : Below g w w') (hg : 2 ≤ g) : Fo.Tab w' := by
  have key : ∀ (c : Nat) (v : Value), w.cell? ⟨1, c, none⟩ = some v → w'.cell? ⟨1, c, none⟩ = some v := fun c v hv => (hb.cell (p := ⟨1, c, none⟩) (by show 1 < g; omega)).trans hv
  obtain ⟨h0, h1, h2, h3⟩ := h
  exact ⟨key _ _ h0, key _ _ h1, key _ _ h2, key _ _ h3⟩
set_option maxRecDepth 8000 in
set_option maxHeartbeats 1000000 in
theorem wnumber_any (t : List UInt8) (g : Nat) (lv fv : Value) (ds : Int) (bs : List UInt8) (w : World) (h : WrR w g lv ds fv bs) (hl : bs.length ≤ 257) (ht : t.length ≤ 1000) (hc : ∀ c ∈ t, NumC c) (hd0 : 0 ≤ ds) (hd1 : ds < 4) (hT : Fo.Tab w) (hg : 2 ≤ g) :
    Calls Tryz.prog 62 #[.pointer (some ⟨g, 0, none⟩), .string ⟨t.toArray⟩] w fun e w' => e = .returned (.bool true) ∧ WrR w' g lv ds fv ((bs ++ shownL ds t).take 257) ∧ Below g w w' ∧ KeptR g w w' := by
  have st := size_mk t
  have HT := hid hT
  have HC := hid hc
  have hgl := h.lt
  have HW := hid h
  clear hT hc h
  go_enter Tryz.func62, Tryz.ntmps62
  go_wp2
  go_loopw [] (fun wr => ∃ pos : Nat, pos ≤ t.length ∧ wr.heap[w.heap.size]? = some (.stringIter ⟨t.toArray⟩ pos) ∧ WrR wr g lv ds fv ((bs ++ shownL ds (t.take pos)).take 257) ∧ Below g w wr ∧ KeptR g w wr) (fun wr => t.length - wr.iterPos w.heap.size)
  case atStart =>
    have hb := up_alloc w (.stringIter ⟨t.toArray⟩ 0)
    refine ⟨0, by omega, row_new w _, ?_, hb.mono (by omega), KeptR.up hb⟩
    have e0 : (bs ++ shownL ds (t.take 0)).take 257 = bs := by simp [shownL, List.take_of_length_le hl]
    rw [e0]
    exact HW.out.on hb
  case round =>
    obtain ⟨pos, hp, hit, hW, hb, hK⟩ := hrel
    by_cases hlt : pos < t.length
    · have hlt' : pos < (ByteArray.mk t.toArray).size := by rw [st]; exact hlt
      have hcc := HC.out (t[pos]'hlt) (List.getElem_mem _)
      have h128 : ((ByteArray.mk t.toArray)[pos]'hlt').toNat < 128 := by
        rw [getB t pos hlt' hlt]
        rcases hcc with e | e
        · rw [e]; decide
        · omega
      have hnx : ∀ ty, (Instr.next (.pointer (some ⟨w.heap.size, 0, none⟩)) true ty).run Tryz.prog wr = _ := fun ty => Lib.run_next_ascii_at wr w.heap.size ⟨t.toArray⟩ pos ty hit hlt' h128
      rw [getB t pos hlt' hlt] at hnx
      have HSH := hid (show shownL ds (t.take (pos + 1)) = shownL ds (t.take pos) ++ shown1 ds (t[pos]'hlt) by
        unfold shownL
        rw [List.take_add_one, List.getElem?_eq_getElem hlt, List.flatMap_append]
        simp)
      generalize t[pos]'hlt = c at *
      have hitP := hid hit
      have hb2 : Below g w (wr.iterAt w.heap.size ⟨t.toArray⟩ (pos + 1)) := Lib.below_iterAt hb (by omega) _ _
      have hit2 := Lib.iterAt_heap wr w.heap.size ⟨t.toArray⟩ pos (pos + 1) hit
      have hW2 := hW.iter hit (pos + 1)
      have hK2 : KeptR g w (wr.iterAt w.heap.size ⟨t.toArray⟩ (pos + 1)) := KeptR.iter hK
      generalize wr.iterAt w.heap.size ⟨t.toArray⟩ (pos + 1) = wi at *
      have HW2 := hid hW2
      have HB2 := hid hb2
      have HIT := hid hit2
      have HK2 := hid hK2
      clear hb hit hW hK hb2 hit2 hW2 hK2 h128
      rcases hcc with rfl | ⟨c0, c1⟩
      · have hE := minus_is
        have HP := hid (put_any [45] g lv fv ds _ wi HW2.out (by rw [List.length_take]; omega) (by decide))
        go_wp2_with fail
        refine HP.out.mono ?_
        rintro e w3 ⟨rfl, hW3, hb3, hK3⟩
        rw [take_more] at hW3
        have HW3 := hid hW3
        have HB3 := hid (HB2.out.trans hb3)
        have HK3 := hid (HK2.out.trans hK3)
        have HIT3 := hid (hK3 _ _ (by omega) (by intro _ _ e; cases e) HIT.out)
        clear hW3 hb3 hK3 HP
        go_wp2
        go_roundw
        case rel => exact ⟨pos + 1, by omega, HIT3.out, by rw [HSH.out]; exact HW3.out, HB3.out, HK3.out⟩
        case measure => simp only [World.iterPos, HIT3.out, hitP.out]; omega
      · have hE := minus_not c.toNat c0 c1
        have hcd : c ≠ 45 := fun e => by subst e; revert c0; decide
        obtain ⟨tv, hw1, _⟩ := HW2.out
        have k1 : wi.cell? ⟨g, 1, none⟩ = some (.int .i64 ds) := by rw [cell_of_row _ _ _ _ _ _ hw1]; rfl
        have HD := hid (Fo.digit_walk ds ((c.toNat : Int) - 48) wi (tab_low HT.out HB2.out hg) hd0 hd1 (by omega) (by omega))
        have HS1 : Hid (shown1 ds c = Lib.encodeRune (Fo.nought ds + ((c.toNat : Int) - 48))) := hid (by unfold shown1; rw [if_neg hcd])
        have hne := enc_ne (Fo.nought ds + ((c.toNat : Int) - 48))
        have hlen := (Fo.encodeRune_length (Fo.nought ds + ((c.toNat : Int) - 48))).2
        generalize Lib.encodeRune (Fo.nought ds + ((c.toNat : Int) - 48)) = L at *
        have HP := hid (put_any L g lv fv ds _ wi HW2.out (by rw [List.length_take]; omega) (by omega))
        clear hw1 hcd
        go_wp2_with fail
        refine HD.out.mono ?_
        rintro e w3 ⟨rfl, rfl⟩
        go_wp2_with fail
        refine HP.out.mono ?_
        rintro e w4 ⟨rfl, hW4, hb4, hK4⟩
        rw [take_more, ← HS1.out, ← HSH.out] at hW4
        have HW4 := hid hW4
        have HB4 := hid (HB2.out.trans hb4)
        have HK4 := hid (HK2.out.trans hK4)
        have HIT4 := hid (hK4 _ _ (by omega) (by intro _ _ e; cases e) HIT.out)
        clear hW4 hb4 hK4 HP
        go_wp2
        go_roundw
        case rel => exact ⟨pos + 1, by omega, HIT4.out, HW4.out, HB4.out, HK4.out⟩
        case measure => simp only [World.iterPos, HIT4.out, hitP.out]; omega
    · obtain rfl : pos = t.length := by omega
      have hnx : ∀ ty, (Instr.next (.pointer (some ⟨w.heap.size, 0, none⟩)) true ty).run Tryz.prog wr = _ := fun ty => Lib.run_next_end_at wr w.heap.size ⟨t.toArray⟩ t.length ty hit (by rw [st]; omega)
      rw [List.take_of_length_le (Nat.le_refl _)] at hW
      have HW2 := hid hW
      have HB := hid hb
      have HK := hid hK
      clear hW hb hK
      go_wp2
      go_ret
      exact ⟨rfl, HW2.out, HB.out, HK.out⟩
end Go.Proofs.YtannndpamhgknaaGreatDoor
