/- A part of a style, written. -/
import Derived.Test.YtannndpamhgknaaGreatDoorXRe3
namespace Go.Proofs.YtannndpamhgknaaGreatDoor
open Go.RowKit Gr Bl

def inB3 (n a b : Int) : Bool := decide (a ≤ n) && decide (n ≤ b)
set_option maxHeartbeats 400000 in
theorem rwithin_any (n a b : Int) (w : World) :
    Calls Tryz.prog 35 #[.int .i64 n, .int .i64 a, .int .i64 b] w fun e w' => e = .returned (.bool (inB3 n a b)) ∧ w' = w := by
  go_enter Tryz.func35, Tryz.ntmps35
  go_wp2
  all_goals
    go_ret
    refine ⟨ret_bool (Bool.eq_iff_iff.2 ?_), rfl⟩
    unfold inB3
    simp
    omega
theorem wf0 (args : Array Value) (w : World) : (callFunc 85 args).run Tryz.prog w = .ok (.enter 85 args) w := by kernel_rfl
theorem wf1 (args : Array Value) (w : World) : (callFunc 87 args).run Tryz.prog w = .ok (.enter 87 args) w := by kernel_rfl
theorem wf2 (args : Array Value) (w : World) : (callFunc 88 args).run Tryz.prog w = .ok (.enter 88 args) w := by kernel_rfl
theorem way_call (k : Nat) (h : k ≤ 2) (args : Array Value) (w : World) : (callFunc (wayF k) args).run Tryz.prog w = .ok (.enter (wayF k) args) w := by
  rcases (by omega : k = 0 ∨ k = 1 ∨ k = 2) with e | e | e
  · rw [e]; exact wf0 args w
  · rw [e]; exact wf1 args w
  · rw [e]; exact wf2 args w
def FldG (x : Fld) : Prop := NumOk x.num ∧ x.way ≤ 2
theorem written_any (x : Fld) (wd : Nat) (w : World) (hx : FldG x) (hw : wd ≤ 200) : Calls Tryz.prog (wayF x.way) #[numV x.num, .int .i64 wd] w fun e w' => e = .returned (.string ⟨(writtenF x wd).toArray⟩) ∧ Below w.heap.size w w' := by
  obtain ⟨num, way⟩ := x
  obtain ⟨h1, h2⟩ := hx
  dsimp only at *
  have hl := h1.len
  have hs : num.sg.length ≤ 1 := by rcases h1.sg with h | h <;> rw [h] <;> decide
  rcases (by omega : way = 0 ∨ way = 1 ∨ way = 2) with rfl | rfl | rfl
  · exact ahead_any num wd w hl hw hs
  · exact behind_any num wd w hl hw hs
  · exact alone_any num wd w hl hs
theorem written_ok (x : Fld) (wd : Nat) (hx : FldG x) (hw : wd ≤ 200) : (writtenF x wd).length ≤ 1000 ∧ ∀ c ∈ writtenF x wd, NumC c := by
  obtain ⟨h1, h2⟩ := hx
  have hl := h1.len
  have hs : x.num.sg.length ≤ 1 := by rcases h1.sg with h | h <;> rw [h] <;> decide
  have hn : (nghts x.num.dg wd).length ≤ 200 := by unfold nghts; rw [List.length_replicate]; omega
  have c1 : ∀ c ∈ x.num.sg, NumC c := fun c hc => by
    rcases h1.sg with h | h <;> rw [h] at hc <;> simp at hc
    exact .inl hc
  have c2 : ∀ c ∈ x.num.dg, NumC c := fun c hc => .inr (h1.dg c hc)
  have c3 : ∀ c ∈ nghts x.num.dg wd, NumC c := fun c hc => by
    unfold nghts at hc
    rw [(List.mem_replicate.1 hc).2]
    exact .inr (by decide)
  unfold writtenF
  split
  · refine ⟨by simp only [List.length_append]; omega, fun c hc => ?_⟩
    simp only [List.mem_append] at hc
    rcases hc with (hc | hc) | hc
    · exact c1 c hc
    · exact c3 c hc
    · exact c2 c hc
  · split
    · refine ⟨by simp only [List.length_append]; omega, fun c hc => ?_⟩
      simp only [List.mem_append] at hc
      rcases hc with (hc | hc) | hc
      · exact c1 c hc
      · exact c2 c hc
      · exact c3 c hc
    · refine ⟨by simp only [List.length_append]; omega, fun c hc => ?_⟩
      simp only [List.mem_append] at hc
      rcases hc with hc | hc
      · exact c1 c hc
      · exact c2 c hc

set_option maxRecDepth 8000 in
set_option maxHeartbeats 1000000 in
theorem part_text (p : Part) (g : Nat) (lv fv : Value) (ds : Int) (bs : List UInt8) (w : World) (h : WrR w g lv ds fv bs) (hl : bs.length ≤ 257) (hk : p.kind = 0) (hp : p.text.size ≤ 1000000) :
    Calls Tryz.prog 38 #[.pointer (some ⟨g, 0, none⟩), partV p] w (Wrote w g lv ds fv bs (some p.text.data.toList)) := by
  obtain ⟨kind, text, field, width, cls⟩ := p
  dsimp only at *
  subst hk
  unfold partV
  dsimp only
  have hb1 := up_alloc w (.cells #[.int .i64 0, .string text, .int .i64 field, .int .i64 width, .int .i64 cls] 51)
  have hgl := h.lt
  have HP := hid (put_any text.data.toList g lv fv ds bs _ (h.on hb1) hl hp)
  rw [show (⟨text.data.toList.toArray⟩ : ByteArray) = text from rfl] at HP
  have HB := hid (show Below g w _ from hb1.mono (by omega))
  have HK := hid (KeptR.up (g := g) hb1)
  clear h hb1
  go_enter Tryz.func38, Tryz.ntmps38
  go_wp2_with fail
  refine HP.out.mono ?_
  rintro e w3 ⟨rfl, hW3, hb3, hK3⟩
  have HW3 := hid hW3
  have HB3 := hid (HB.out.trans hb3)
  have HK3 := hid (HK.out.trans hK3)
  clear hW3 hb3 hK3
  go_wp2
  go_ret
  exact ⟨HB3.out, HK3.out, rfl, HW3.out⟩

set_option maxRecDepth 8000 in
set_option maxHeartbeats 1000000 in
theorem part_far (p : Part) (g : Nat) (lv : Value) (ad : Option Addr) (n cap : Nat) (ds : Int) (bs : List UInt8) (w : World) (h : WrR w g lv ds (.slice ad n cap) bs) (hk : p.kind ≠ 0) (hf : p.field < 0 ∨ (n : Int) ≤ p.field) (hn : n ≤ 20) :
    Calls Tryz.prog 38 #[.pointer (some ⟨g, 0, none⟩), partV p] w (Wrote w g lv ds (.slice ad n cap) bs none) := by
  obtain ⟨kind, text, field, width, cls⟩ := p
  dsimp only at *
  unfold partV
  dsimp only
  have hk2 : (kind == 0) = false := by simp [hk]
  have hb1 := up_alloc w (.cells #[.int .i64 kind, .string text, .int .i64 field, .int .i64 width, .int .i64 cls] 51)
  have hgl := h.lt
  obtain ⟨tv, hh, _⟩ := h.on hb1
  have l2 : (w.alloc (.cells #[.int .i64 kind, .string text, .int .i64 field, .int .i64 width, .int .i64 cls] 51)).cell? ⟨g, 2, none⟩ = some (.slice ad n cap) := by rw [cell_of_row _ _ _ _ _ _ hh]; rfl
  have HR := hid (rwithin_any field 0 ((n : Int) - 1))
  have hin : inB3 field 0 ((n : Int) - 1) = false := by unfold inB3; simp; omega
  rw [hin] at HR
  have HB := hid hb1
  clear h hb1 hh hin hf hk
  go_enter Tryz.func38, Tryz.ntmps38
  go_wp2
  go_quiet ((go_at_call 35; exact (HR.out _).mono (fun e w' h => ⟨h.1, _, h.2⟩)))
  go_wp2
  go_ret
  exact ⟨below_drewN (HB.out.mono (by omega)) _, KeptR.up (below_drewN HB.out _), rfl⟩

theorem wrote_bool {e : Ending} {o : Option (List UInt8)} {P : List UInt8 → Prop} (h : match o with | none => e = .returned (.bool false) | some t => e = .returned (.bool true) ∧ P t) : e = .returned (.bool o.isSome) := by
  cases o with
  | none => exact h
  | some t => exact h.1
theorem fld_cells {w : World} {q j : Nat} {fs : List Fld} (hj : j < fs.length) (h : ∀ k u, (fs.flatMap fldCells)[k]? = some u → w.cell? ⟨q, k, none⟩ = some u) :
    w.cell? ⟨q, j * 3, none⟩ = some (.string ⟨(fs.getD j nilFld).num.sg.toArray⟩) ∧ w.cell? ⟨q, j * 3 + 1, none⟩ = some (.string ⟨(fs.getD j nilFld).num.dg.toArray⟩) ∧ w.cell? ⟨q, j * 3 + 2, none⟩ = some (.func (.func (wayF (fs.getD j nilFld).way)) #[numV (fs.getD j nilFld).num] #[]) := by
  have key : ∀ (fs : List Fld) (j i : Nat), j < fs.length → i < 3 → (fs.flatMap fldCells)[j * 3 + i]? = (fldCells (fs.getD j nilFld))[i]? := by
    intro fs
    induction fs with
    | nil => intro j i hj _; simp at hj
    | cons x fs ih =>
      intro j i hj hi
      have hx : (fldCells x).length = 3 := rfl
      rw [List.flatMap_cons]
      cases j with
      | zero => rw [List.getElem?_append_left (by rw [hx]; omega)]; simp
      | succ j =>
        rw [List.getElem?_append_right (by rw [hx]; omega), hx, show (j + 1) * 3 + i - 3 = j * 3 + i by omega, ih j i (by simpa using hj) hi]
        rfl
  exact ⟨h _ _ (key fs j 0 hj (by omega)), h _ _ (key fs j 1 hj (by omega)), h _ _ (key fs j 2 hj (by omega))⟩

set_option maxRecDepth 8000 in
set_option maxHeartbeats 1000000 in
theorem part_number (p : Part) (j wd : Nat) (fs : List Fld) (g : Nat) (lv fv : Value) (ds : Int) (bs : List UInt8) (w : World) (h : WrR w g lv ds fv bs) (hl : bs.length ≤ 257) (hk : p.kind = 1) (hf : p.field = (j : Int)) (hj : j < fs.length) (hwd : p.width = (wd : Int)) (hw : wd ≤ 200) {B : Nat} (hF : FldsOwn B w fv fs) (hok : ∀ x ∈ fs, FldG x) (hd0 : 0 ≤ ds) (hd1 : ds < 4) (hT : Fo.Tab w) (hg : 2 ≤ g) :
    Calls Tryz.prog 38 #[.pointer (some ⟨g, 0, none⟩), partV p] w (Wrote w g lv ds fv bs (some (shownL ds (writtenF (fs.getD j nilFld) wd)))) := by
  obtain ⟨kind, text, field, width, cls⟩ := p
  dsimp only at *
  subst hk hf hwd
  unfold partV
  dsimp only
  obtain ⟨n, hn⟩ : ∃ n, n = fs.length := ⟨_, rfl⟩
  have hn20 : n ≤ 20 := by rw [hn]; exact hF.2
  have hjn : j < n := by omega
  have hjn2 : (j : Int) < (n : Int) := by omega
  have hb1 := up_alloc w (.cells #[.int .i64 1, .string text, .int .i64 (j : Int), .int .i64 (wd : Int), .int .i64 cls] 51)
  obtain ⟨w1, hw1⟩ : ∃ w1, w1 = w.alloc (.cells #[.int .i64 1, .string text, .int .i64 (j : Int), .int .i64 (wd : Int), .int .i64 cls] 51) := ⟨_, rfl⟩
  rw [← hw1] at hb1
  have hX : w1.heap[w.heap.size]? = some (.cells #[.int .i64 1, .string text, .int .i64 (j : Int), .int .i64 (wd : Int), .int .i64 cls] 51) := by rw [hw1]; exact row_new w _
  have hgl := h.lt
  have HWW := hid h
  have HW1 := hid (h.on hb1)
  obtain ⟨tv, hh, _⟩ := HW1.out
  obtain ⟨q, cap, rfl, hcap, _, hcs⟩ := own_at (owns_below hF.1 hb1) (by omega)
  have hx := hok (fs.getD j nilFld) (by rw [List.getD_eq_getElem?_getD, List.getElem?_eq_getElem (by omega)]; exact List.getElem_mem _)
  obtain ⟨f0, f1, f2⟩ := fld_cells hj hcs
  have HX := hid hx
  generalize hxx : fs.getD j nilFld = x at *
  have HXX := hid hxx
  have l2 : w1.cell? ⟨g, 2, none⟩ = some (.slice (some ⟨q, 0, none⟩) fs.length cap) := by rw [cell_of_row _ _ _ _ _ _ hh]; rfl
  have p0 : w1.cell? ⟨w.heap.size, 0, none⟩ = some (.int .i64 1) := by rw [cell_of_row _ _ _ _ _ _ hX]; rfl
  have p2 : w1.cell? ⟨w.heap.size, 2, none⟩ = some (.int .i64 (j : Int)) := by rw [cell_of_row _ _ _ _ _ _ hX]; rfl
  have p3 : w1.cell? ⟨w.heap.size, 3, none⟩ = some (.int .i64 (wd : Int)) := by rw [cell_of_row _ _ _ _ _ _ hX]; rfl
  have p4 : w1.cell? ⟨w.heap.size, 4, none⟩ = some (.int .i64 cls) := by rw [cell_of_row _ _ _ _ _ _ hX]; rfl
  rw [← hn] at l2
  rw [← hn]
  have HR := hid (rwithin_any (j : Int) 0 ((n : Int) - 1))
  have hin : inB3 (j : Int) 0 ((n : Int) - 1) = true := by unfold inB3; simp; omega
  rw [hin] at HR
  have HB := hid hb1
  have HT := hid hT
  obtain ⟨kl, kc⟩ := written_ok x wd HX.out hw
  have HKL := hid kl
  have HKC := hid kc
  have HNN := hid hn
  have HJ := hid hj
  clear h hT kl kc hF hb1 hX hh hin hcs hok hx hxx hn hj
  have hmf : ∀ (fn : Fn) (first cap : Array Value) (w : World), (Instr.makeFunc fn first cap).run Tryz.prog w = .ok (.func fn first cap) w := fun _ _ _ _ => rfl
  go_enter Tryz.func38, Tryz.ntmps38
  go_wp2
  subst hw1
  go_quiet ((go_at_call 35; exact (HR.out _).mono (fun e w' h => ⟨h.1, _, h.2⟩)))
  go_wp2
  have key : ∀ (a : Addr) (v : Value), (w.alloc (.cells #[.int .i64 1, .string text, .int .i64 (j : Int), .int .i64 (wd : Int), .int .i64 cls] 51)).cell? a = some v → (((w.alloc (.cells #[.int .i64 1, .string text, .int .i64 (j : Int), .int .i64 (wd : Int), .int .i64 cls] 51)).drewN (nq + 1)).alloc (.cells #[.string ⟨#[]⟩, .string ⟨#[]⟩, .nilFunc] 104)).cell? a = some v := fun a v hv => ((up_alloc ((w.alloc (.cells #[.int .i64 1, .string text, .int .i64 (j : Int), .int .i64 (wd : Int), .int .i64 cls] 51)).drewN (nq + 1)) _).cell (p := a) (lt_of_cell hv)).trans hv
  have f0z := key _ _ f0
  have f1z := key _ _ f1
  have f2z := key _ _ f2
  have l2z := key _ _ l2
  have p2z := key _ _ p2
  go_region
  have hcf := way_call x.way HX.out.2
  have p0z := key _ _ p0
  have p3z := key _ _ p3
  clear key
  have hbz : Below (w.alloc (.cells #[.int .i64 1, .string text, .int .i64 (j : Int), .int .i64 (wd : Int), .int .i64 cls] 51)).heap.size (w.alloc (.cells #[.int .i64 1, .string text, .int .i64 (j : Int), .int .i64 (wd : Int), .int .i64 cls] 51)) (((w.alloc (.cells #[.int .i64 1, .string text, .int .i64 (j : Int), .int .i64 (wd : Int), .int .i64 cls] 51)).drewN (nq + 1)).alloc (.cells #[.string ⟨x.num.sg.toArray⟩, .string ⟨x.num.dg.toArray⟩, .func (.func (wayF x.way)) #[numV x.num] #[]] 104)) := (below_drewN (Below.refl (w.alloc (.cells #[.int .i64 1, .string text, .int .i64 (j : Int), .int .i64 (wd : Int), .int .i64 cls] 51)).heap.size (w.alloc (.cells #[.int .i64 1, .string text, .int .i64 (j : Int), .int .i64 (wd : Int), .int .i64 cls] 51))) _).alloc (Nat.le_refl _) _
  have HBZ := hid (up_trans HB.out hbz)
  clear hbz
  go_wp2_with fail
  refine (written_any x wd _ HX.out hw).mono ?_
  rintro e w3 ⟨rfl, hb3⟩
  have HB3 := hid (up_trans HBZ.out hb3)
  have hgl3 : Below g w w3 := HB3.out.mono (by omega)
  have HW3 := hid (HWW.out.on HB3.out)
  have HN := hid (wnumber_any (writtenF x wd) g lv _ ds bs w3 HW3.out hl HKL.out HKC.out hd0 hd1 (tab_low HT.out hgl3 hg) hg)
  clear hb3 hgl3
  go_wp2_with fail
  refine HN.out.mono ?_
  rintro e w4 ⟨rfl, hW4, hb4, hK4⟩
  have HW4 := hid hW4
  have HB4 := hid ((HB3.out.mono (by omega)).trans hb4 : Below g w w4)
  have HK4 := hid ((KeptR.up HB3.out).trans hK4)
  clear hW4 hb4 hK4
  go_wp2
  go_ret
  have e5 := HW4.out
  rw [← HNN.out] at e5
  exact ⟨HB4.out, HK4.out, rfl, e5⟩
set_option maxRecDepth 8000 in
set_option maxHeartbeats 1000000 in
theorem part_word (p : Part) (j : Nat) (lex : List Entry) (fs : List Fld) (g : Nat) (lv fv : Value) (ds : Int) (bs : List UInt8) (w : World) (h : WrR w g lv ds fv bs) (hl : bs.length ≤ 257) (hk : p.kind = 2) (hf : p.field = (j : Int)) (hj : j < fs.length) {B : Nat} (hF : FldsOwn B w fv fs) (hok : ∀ x ∈ fs, FldG x) (hlx : EntriesAt w lv lex) (htx : ∀ x ∈ lex, x.text.size ≤ 1000000) :
    Calls Tryz.prog 38 #[.pointer (some ⟨g, 0, none⟩), partV p] w (Wrote w g lv ds fv bs (wordL lex p.cls (valueN (fs.getD j nilFld).num))) := by
  obtain ⟨kind, text, field, width, cls⟩ := p
  dsimp only at *
  subst hk hf
  unfold partV
  dsimp only
  obtain ⟨n, hn⟩ : ∃ n, n = fs.length := ⟨_, rfl⟩
  have hn20 : n ≤ 20 := by rw [hn]; exact hF.2
  have hjn : j < n := by omega
  have hjn2 : (j : Int) < (n : Int) := by omega
  have hb1 := up_alloc w (.cells #[.int .i64 2, .string text, .int .i64 (j : Int), .int .i64 width, .int .i64 cls] 51)
  obtain ⟨w1, hw1⟩ : ∃ w1, w1 = w.alloc (.cells #[.int .i64 2, .string text, .int .i64 (j : Int), .int .i64 width, .int .i64 cls] 51) := ⟨_, rfl⟩
  rw [← hw1] at hb1
  have hX : w1.heap[w.heap.size]? = some (.cells #[.int .i64 2, .string text, .int .i64 (j : Int), .int .i64 width, .int .i64 cls] 51) := by rw [hw1]; exact row_new w _
  have hgl := h.lt
  have HWW := hid h
  have HW1 := hid (h.on hb1)
  obtain ⟨tv, hh, _⟩ := HW1.out
  obtain ⟨q, cap, rfl, hcap, _, hcs⟩ := own_at (owns_below hF.1 hb1) (by omega)
  have hx := hok (fs.getD j nilFld) (by rw [List.getD_eq_getElem?_getD, List.getElem?_eq_getElem (by omega)]; exact List.getElem_mem _)
  obtain ⟨f0, f1, f2⟩ := fld_cells hj hcs
  have HX := hid hx
  generalize hxx : fs.getD j nilFld = x at *
  have HXX := hid hxx
  have l2 : w1.cell? ⟨g, 2, none⟩ = some (.slice (some ⟨q, 0, none⟩) fs.length cap) := by rw [cell_of_row _ _ _ _ _ _ hh]; rfl
  have p0 : w1.cell? ⟨w.heap.size, 0, none⟩ = some (.int .i64 2) := by rw [cell_of_row _ _ _ _ _ _ hX]; rfl
  have p2 : w1.cell? ⟨w.heap.size, 2, none⟩ = some (.int .i64 (j : Int)) := by rw [cell_of_row _ _ _ _ _ _ hX]; rfl
  have p3 : w1.cell? ⟨w.heap.size, 3, none⟩ = some (.int .i64 width) := by rw [cell_of_row _ _ _ _ _ _ hX]; rfl
  have p4 : w1.cell? ⟨w.heap.size, 4, none⟩ = some (.int .i64 cls) := by rw [cell_of_row _ _ _ _ _ _ hX]; rfl
  rw [← hn] at l2
  rw [← hn]
  have HR := hid (rwithin_any (j : Int) 0 ((n : Int) - 1))
  have hin : inB3 (j : Int) 0 ((n : Int) - 1) = true := by unfold inB3; simp; omega
  rw [hin] at HR
  have HB := hid hb1
  have HLX := hid hlx
  have HTX := hid htx
  obtain ⟨lad, lcap, elv, _⟩ := hlx.shape
  obtain ⟨ln, hln⟩ : ∃ ln, ln = lex.length := ⟨_, rfl⟩
  rw [← hln] at elv
  have HNN := hid hn
  have HJ := hid hj
  clear h hlx htx hln hF hb1 hX hh hin hcs hok hx hxx hn hj
  have hmf : ∀ (fn : Fn) (first cap : Array Value) (w : World), (Instr.makeFunc fn first cap).run Tryz.prog w = .ok (.func fn first cap) w := fun _ _ _ _ => rfl
  go_enter Tryz.func38, Tryz.ntmps38
  go_wp2
  subst hw1
  go_quiet ((go_at_call 35; exact (HR.out _).mono (fun e w' h => ⟨h.1, _, h.2⟩)))
  go_wp2
  have key : ∀ (a : Addr) (v : Value), (w.alloc (.cells #[.int .i64 2, .string text, .int .i64 (j : Int), .int .i64 width, .int .i64 cls] 51)).cell? a = some v → (((w.alloc (.cells #[.int .i64 2, .string text, .int .i64 (j : Int), .int .i64 width, .int .i64 cls] 51)).drewN (nq + 1)).alloc (.cells #[.string ⟨#[]⟩, .string ⟨#[]⟩, .nilFunc] 104)).cell? a = some v := fun a v hv => ((up_alloc ((w.alloc (.cells #[.int .i64 2, .string text, .int .i64 (j : Int), .int .i64 width, .int .i64 cls] 51)).drewN (nq + 1)) _).cell (p := a) (lt_of_cell hv)).trans hv
  have f0z := key _ _ f0
  have f1z := key _ _ f1
  have f2z := key _ _ f2
  have l2z := key _ _ l2
  have p2z := key _ _ p2
  go_region
  have p0z := key _ _ p0
  have p4z := key _ _ p4
  clear key
  have hbz : Below (w.alloc (.cells #[.int .i64 2, .string text, .int .i64 (j : Int), .int .i64 width, .int .i64 cls] 51)).heap.size (w.alloc (.cells #[.int .i64 2, .string text, .int .i64 (j : Int), .int .i64 width, .int .i64 cls] 51)) (((w.alloc (.cells #[.int .i64 2, .string text, .int .i64 (j : Int), .int .i64 width, .int .i64 cls] 51)).drewN (nq + 1)).alloc (.cells #[.string ⟨x.num.sg.toArray⟩, .string ⟨x.num.dg.toArray⟩, .func (.func (wayF x.way)) #[numV x.num] #[]] 104)) := (below_drewN (Below.refl (w.alloc (.cells #[.int .i64 2, .string text, .int .i64 (j : Int), .int .i64 width, .int .i64 cls] 51)).heap.size (w.alloc (.cells #[.int .i64 2, .string text, .int .i64 (j : Int), .int .i64 width, .int .i64 cls] 51))) _).alloc (Nat.le_refl _) _
  have HBZ := hid (up_trans HB.out hbz)
  have p4y : (((w.alloc (.cells #[.int .i64 2, .string text, .int .i64 (j : Int), .int .i64 width, .int .i64 cls] 51)).drewN (nq + 1)).alloc (.cells #[.string ⟨x.num.sg.toArray⟩, .string ⟨x.num.dg.toArray⟩, .func (.func (wayF x.way)) #[numV x.num] #[]] 104)).cell? ⟨w.heap.size, 4, none⟩ = some (.int .i64 cls) := ((up_alloc ((w.alloc (.cells #[.int .i64 2, .string text, .int .i64 (j : Int), .int .i64 width, .int .i64 cls] 51)).drewN (nq + 1)) _).cell (p := ⟨w.heap.size, 4, none⟩) (lt_of_cell p4)).trans p4
  clear hbz
  go_wp2
  generalize hvn : valueN x.num = vn at *
  have HVN := hid hvn
  clear hvn
  go_region_with (first
    | (refine HN.out.mono ?_; rintro e w4 ⟨hb4, hK4, hr⟩; obtain rfl := wrote_bool hr; have HB4 := hid ((HB3.out.mono (by omega)).trans hb4 : Below g w w4); have HK4 := hid ((KeptR.up HB3.out).trans hK4); have HRR := hid hr; clear hb4 hK4 hr)
    | (refine (number_any x.num _ HX.out.1).mono ?_; rintro e w3 ⟨rfl, hb3⟩; rw [HVN.out]; have HB3 := hid (up_trans HBZ.out ((Below.refl _ _).drew.trans hb3)); have HN := hid (word_any cls vn lex g _ _ ds bs w3 (HWW.out.on HB3.out) hl (HLX.out.on HB3.out) HTX.out); have pc := (hb3.cell (p := ⟨w.heap.size, 4, none⟩) (lt_of_cell p4y)).trans p4y; clear hb3)
    | fail)
  all_goals
    go_wp2
    go_ret
    refine ⟨HB4.out, HK4.out, ?_⟩
    have e5 := HRR.out
    rw [HNN.out]
    cases hw : wordL lex cls vn with
    | none => rw [hw] at e5; rfl
    | some tx => rw [hw] at e5; exact ⟨rfl, e5.2⟩

set_option maxRecDepth 8000 in
set_option maxHeartbeats 1000000 in
theorem part_none (p : Part) (j : Nat) (fs : List Fld) (g : Nat) (lv fv : Value) (ds : Int) (bs : List UInt8) (w : World) (h : WrR w g lv ds fv bs) (hk : p.kind ≠ 0 ∧ p.kind ≠ 1 ∧ p.kind ≠ 2) (hf : p.field = (j : Int)) (hj : j < fs.length) {B : Nat} (hF : FldsOwn B w fv fs) (hok : ∀ x ∈ fs, FldG x) :
    Calls Tryz.prog 38 #[.pointer (some ⟨g, 0, none⟩), partV p] w (Wrote w g lv ds fv bs none) := by
  obtain ⟨kind, text, field, width, cls⟩ := p
  dsimp only at *
  subst hf
  have hk0 : (kind == 0) = false := by simp [hk.1]
  have hk1 : (kind == 1) = false := by simp [hk.2.1]
  have hk2 : (kind == 2) = false := by simp [hk.2.2]
  clear hk
  unfold partV
  dsimp only
  obtain ⟨n, hn⟩ : ∃ n, n = fs.length := ⟨_, rfl⟩
  have hn20 : n ≤ 20 := by rw [hn]; exact hF.2
  have hjn : j < n := by omega
  have hjn2 : (j : Int) < (n : Int) := by omega
  have hb1 := up_alloc w (.cells #[.int .i64 kind, .string text, .int .i64 (j : Int), .int .i64 width, .int .i64 cls] 51)
  obtain ⟨w1, hw1⟩ : ∃ w1, w1 = w.alloc (.cells #[.int .i64 kind, .string text, .int .i64 (j : Int), .int .i64 width, .int .i64 cls] 51) := ⟨_, rfl⟩
  rw [← hw1] at hb1
  have hX : w1.heap[w.heap.size]? = some (.cells #[.int .i64 kind, .string text, .int .i64 (j : Int), .int .i64 width, .int .i64 cls] 51) := by rw [hw1]; exact row_new w _
  have hgl := h.lt
  have HWW := hid h
  have HW1 := hid (h.on hb1)
  obtain ⟨tv, hh, _⟩ := HW1.out
  obtain ⟨q, cap, rfl, hcap, _, hcs⟩ := own_at (owns_below hF.1 hb1) (by omega)
  have hx := hok (fs.getD j nilFld) (by rw [List.getD_eq_getElem?_getD, List.getElem?_eq_getElem (by omega)]; exact List.getElem_mem _)
  obtain ⟨f0, f1, f2⟩ := fld_cells hj hcs
  have HX := hid hx
  generalize hxx : fs.getD j nilFld = x at *
  have HXX := hid hxx
  have l2 : w1.cell? ⟨g, 2, none⟩ = some (.slice (some ⟨q, 0, none⟩) fs.length cap) := by rw [cell_of_row _ _ _ _ _ _ hh]; rfl
  have p0 : w1.cell? ⟨w.heap.size, 0, none⟩ = some (.int .i64 kind) := by rw [cell_of_row _ _ _ _ _ _ hX]; rfl
  have p2 : w1.cell? ⟨w.heap.size, 2, none⟩ = some (.int .i64 (j : Int)) := by rw [cell_of_row _ _ _ _ _ _ hX]; rfl
  have p3 : w1.cell? ⟨w.heap.size, 3, none⟩ = some (.int .i64 width) := by rw [cell_of_row _ _ _ _ _ _ hX]; rfl
  have p4 : w1.cell? ⟨w.heap.size, 4, none⟩ = some (.int .i64 cls) := by rw [cell_of_row _ _ _ _ _ _ hX]; rfl
  rw [← hn] at l2
  rw [← hn]
  have HR := hid (rwithin_any (j : Int) 0 ((n : Int) - 1))
  have hin : inB3 (j : Int) 0 ((n : Int) - 1) = true := by unfold inB3; simp; omega
  rw [hin] at HR
  have HB := hid hb1
  have HNN := hid hn
  have HJ := hid hj
  clear h hF hb1 hX hh hin hcs hok hx hxx hn hj
  have hmf : ∀ (fn : Fn) (first cap : Array Value) (w : World), (Instr.makeFunc fn first cap).run Tryz.prog w = .ok (.func fn first cap) w := fun _ _ _ _ => rfl
  go_enter Tryz.func38, Tryz.ntmps38
  go_wp2
  subst hw1
  go_quiet ((go_at_call 35; exact (HR.out _).mono (fun e w' h => ⟨h.1, _, h.2⟩)))
  go_wp2
  have key : ∀ (a : Addr) (v : Value), (w.alloc (.cells #[.int .i64 kind, .string text, .int .i64 (j : Int), .int .i64 width, .int .i64 cls] 51)).cell? a = some v → (((w.alloc (.cells #[.int .i64 kind, .string text, .int .i64 (j : Int), .int .i64 width, .int .i64 cls] 51)).drewN (nq + 1)).alloc (.cells #[.string ⟨#[]⟩, .string ⟨#[]⟩, .nilFunc] 104)).cell? a = some v := fun a v hv => ((up_alloc ((w.alloc (.cells #[.int .i64 kind, .string text, .int .i64 (j : Int), .int .i64 width, .int .i64 cls] 51)).drewN (nq + 1)) _).cell (p := a) (lt_of_cell hv)).trans hv
  have f0z := key _ _ f0
  have f1z := key _ _ f1
  have f2z := key _ _ f2
  have l2z := key _ _ l2
  have p2z := key _ _ p2
  go_region
  have p0z := key _ _ p0
  clear key
  have hbz : Below (w.alloc (.cells #[.int .i64 kind, .string text, .int .i64 (j : Int), .int .i64 width, .int .i64 cls] 51)).heap.size (w.alloc (.cells #[.int .i64 kind, .string text, .int .i64 (j : Int), .int .i64 width, .int .i64 cls] 51)) (((w.alloc (.cells #[.int .i64 kind, .string text, .int .i64 (j : Int), .int .i64 width, .int .i64 cls] 51)).drewN (nq + 1)).alloc (.cells #[.string ⟨x.num.sg.toArray⟩, .string ⟨x.num.dg.toArray⟩, .func (.func (wayF x.way)) #[numV x.num] #[]] 104)) := (below_drewN (Below.refl (w.alloc (.cells #[.int .i64 kind, .string text, .int .i64 (j : Int), .int .i64 width, .int .i64 cls] 51)).heap.size (w.alloc (.cells #[.int .i64 kind, .string text, .int .i64 (j : Int), .int .i64 width, .int .i64 cls] 51))) _).alloc (Nat.le_refl _) _
  have HBZ := hid (up_trans HB.out hbz)
  clear hbz
  go_wp2
  go_ret
  exact ⟨HBZ.out.mono (by omega), KeptR.up HBZ.out, rfl⟩

/-- A part whose numbers are not too great. -/
def PartG (p : Part) : Prop := 0 ≤ p.width ∧ p.width ≤ 200 ∧ p.text.size ≤ 1000000
theorem part_any (p : Part) (lex : List Entry) (fs : List Fld) (g : Nat) (lv fv : Value) (ds : Int) (bs : List UInt8) (w : World) (h : WrR w g lv ds fv bs) (hl : bs.length ≤ 257) (hp : PartG p) {B : Nat} (hF : FldsOwn B w fv fs) (hok : ∀ x ∈ fs, FldG x) (hd0 : 0 ≤ ds) (hd1 : ds < 4) (hT : Fo.Tab w) (hg : 2 ≤ g) (hlx : EntriesAt w lv lex) (htx : ∀ x ∈ lex, x.text.size ≤ 1000000) :
    Calls Tryz.prog 38 #[.pointer (some ⟨g, 0, none⟩), partV p] w (Wrote w g lv ds fv bs (partL ds lex fs p)) := by
  obtain ⟨hp1, hp2, hp3⟩ := hp
  by_cases h0 : p.kind = 0
  · have e : partL ds lex fs p = some p.text.data.toList := by unfold partL; rw [if_pos h0]
    rw [e]
    exact part_text p g lv fv ds bs w h hl h0 hp3
  · by_cases hf : p.field < 0 ∨ (fs.length : Int) ≤ p.field
    · have e : partL ds lex fs p = none := by unfold partL; rw [if_neg h0, if_pos hf]
      rw [e]
      obtain ⟨ad, cap, rfl, _⟩ := own_shape hF.1
      exact part_far p g lv ad fs.length cap ds bs w h h0 hf hF.2
    · obtain ⟨j, hj⟩ := Int.eq_ofNat_of_zero_le (show 0 ≤ p.field by omega)
      have hjl : j < fs.length := by omega
      have hjt : p.field.toNat = j := by omega
      by_cases h1 : p.kind = 1
      · obtain ⟨wd, hwd⟩ := Int.eq_ofNat_of_zero_le hp1
        have hwt : p.width.toNat = wd := by omega
        have e : partL ds lex fs p = some (shownL ds (writtenF (fs.getD j nilFld) wd)) := by unfold partL; rw [if_neg h0, if_neg hf, if_pos h1, hjt, hwt]
        rw [e]
        exact part_number p j wd fs g lv fv ds bs w h hl h1 hj hjl hwd (by omega) hF hok hd0 hd1 hT hg
      · by_cases h2 : p.kind = 2
        · have e : partL ds lex fs p = wordL lex p.cls (valueN (fs.getD j nilFld).num) := by unfold partL; rw [if_neg h0, if_neg hf, if_neg h1, if_pos h2, hjt]
          rw [e]
          exact part_word p j lex fs g lv fv ds bs w h hl h2 hj hjl hF hok hlx htx
        · have e : partL ds lex fs p = none := by unfold partL; rw [if_neg h0, if_neg hf, if_neg h1, if_neg h2]
          rw [e]
          exact part_none p j fs g lv fv ds bs w h ⟨h0, h1, h2⟩ hj hjl hF hok
end Go.Proofs.YtannndpamhgknaaGreatDoor
