/- An action at work, whole: whichever it is; what a panic leaves; Do. -/
import Derived.Test.YtengcdodoblabaaGreatDoorWays
import Derived.Defers
import Derived.Recover
import Derived.Laws.EntriesVeiled
namespace Go.Proofs.YtengcdodoblabaaGreatDoor
open Go.RowKit

/-- The actions' methods. -/
def waysL : List Nat := [36, 37, 38, 39, 40, 41, 42, 43, 44, 45, 46, 47, 48, 49, 50, 51]
def wayV (g F : Nat) : Value := .func (Fn.func F) #[.pointer (some ⟨g, 0, none⟩)] #[]
def doO (k : Nat) (o : Option Val) : Option Val := o.bind fun x => if k = 0 ∨ rightB x = true then some x else none
def noneV : Value := .tuple #[.agg #[.int .i64 0, .slice none 0 0], .bool false]

theorem wc0 (args : Array Value) (w : World) : (callFunc 36 args).run Tryz.prog w = .ok (.enter 36 args) w := by kernel_rfl
theorem wc1 (args : Array Value) (w : World) : (callFunc 37 args).run Tryz.prog w = .ok (.enter 37 args) w := by kernel_rfl
theorem wc2 (args : Array Value) (w : World) : (callFunc 38 args).run Tryz.prog w = .ok (.enter 38 args) w := by kernel_rfl
theorem wc3 (args : Array Value) (w : World) : (callFunc 39 args).run Tryz.prog w = .ok (.enter 39 args) w := by kernel_rfl
theorem wc4 (args : Array Value) (w : World) : (callFunc 40 args).run Tryz.prog w = .ok (.enter 40 args) w := by kernel_rfl
theorem wc5 (args : Array Value) (w : World) : (callFunc 41 args).run Tryz.prog w = .ok (.enter 41 args) w := by kernel_rfl
theorem wc6 (args : Array Value) (w : World) : (callFunc 42 args).run Tryz.prog w = .ok (.enter 42 args) w := by kernel_rfl
theorem wc7 (args : Array Value) (w : World) : (callFunc 43 args).run Tryz.prog w = .ok (.enter 43 args) w := by kernel_rfl
theorem wc8 (args : Array Value) (w : World) : (callFunc 44 args).run Tryz.prog w = .ok (.enter 44 args) w := by kernel_rfl
theorem wc9 (args : Array Value) (w : World) : (callFunc 45 args).run Tryz.prog w = .ok (.enter 45 args) w := by kernel_rfl
theorem wc10 (args : Array Value) (w : World) : (callFunc 46 args).run Tryz.prog w = .ok (.enter 46 args) w := by kernel_rfl
theorem wc11 (args : Array Value) (w : World) : (callFunc 47 args).run Tryz.prog w = .ok (.enter 47 args) w := by kernel_rfl
theorem wc12 (args : Array Value) (w : World) : (callFunc 48 args).run Tryz.prog w = .ok (.enter 48 args) w := by kernel_rfl
theorem wc13 (args : Array Value) (w : World) : (callFunc 49 args).run Tryz.prog w = .ok (.enter 49 args) w := by kernel_rfl
theorem wc14 (args : Array Value) (w : World) : (callFunc 50 args).run Tryz.prog w = .ok (.enter 50 args) w := by kernel_rfl
theorem wc15 (args : Array Value) (w : World) : (callFunc 51 args).run Tryz.prog w = .ok (.enter 51 args) w := by kernel_rfl
theorem way_call {k F : Nat} (hF : waysL[k]? = some F) (args : Array Value) (w : World) : (callFunc F args).run Tryz.prog w = .ok (.enter F args) w := by
  have hm : F ∈ waysL := List.mem_of_getElem? hF
  unfold waysL at hm
  simp only [List.mem_cons, List.not_mem_nil, or_false] at hm
  rcases hm with rfl | rfl | rfl | rfl | rfl | rfl | rfl | rfl | rfl | rfl | rfl | rfl | rfl | rfl | rfl | rfl
  · exact wc0 _ _
  · exact wc1 _ _
  · exact wc2 _ _
  · exact wc3 _ _
  · exact wc4 _ _
  · exact wc5 _ _
  · exact wc6 _ _
  · exact wc7 _ _
  · exact wc8 _ _
  · exact wc9 _ _
  · exact wc10 _ _
  · exact wc11 _ _
  · exact wc12 _ _
  · exact wc13 _ _
  · exact wc14 _ _
  · exact wc15 _ _

section
variable {p : Value} {W0 : World} {g : Nat} {r : Mom}
/-- What an action at work leaves. -/
def DoneR (p : Value) (g : Nat) (w : World) (o : Option Val) (e : Ending) (w' : World) : Prop :=
  w.grownBy w' (some g) ∧ match o with
    | some x => ∃ v, e = .returned (.tuple #[v, .bool true]) ∧ NV w.heap.size w' v x
    | none => e = .panicked (boom p) ∨ e = .returned noneV
theorem DoneR.no1 {w w' : World} {o : Option Val} (h : o = none) (hg : w.grownBy w' (some g)) : DoneR p g w o (.panicked (boom p)) w' := by subst h; exact ⟨hg, .inl rfl⟩
theorem DoneR.no2 {w w' : World} {o : Option Val} (h : o = none) (hg : w.grownBy w' (some g)) : DoneR p g w o (.returned noneV) w' := by subst h; exact ⟨hg, .inr rfl⟩
theorem DoneR.yes {w w' : World} {o : Option Val} {x : Val} {v : Value} (h : o = some x) (hg : w.grownBy w' (some g)) (hv : NV w.heap.size w' v x) : DoneR p g w o (.returned (.tuple #[v, .bool true])) w' := by subst h; exact ⟨hg, v, rfl, hv⟩

/-- A struct in a cell and a plain slot as two results. -/
theorem results_cell_tmp {fn : Func} {p q : Tmp} {ty : TypeId} (h : fn.results = #[.cell p ty, .tmp q]) (tmps : Array Value) (w : World) (g : Nat) (cs : Array Value)
    (hp : tmps.getD p undef = .pointer (some ⟨g, 0, none⟩)) (hl : (loadVar ty ⟨g, 0, none⟩).run Tryz.prog w = .ok (.agg cs) w) :
    (results fn tmps).run Tryz.prog w = .ok (.tuple #[.agg cs, tmps.getD q undef]) w := by
  have hp' : tmps[p]?.getD undef = .pointer (some ⟨g, 0, none⟩) := by simpa using hp
  simp [results, h, hp', asAddr, hl]

theorem At.set {op : Int} {k : Int} {sl : Value} {x : Val} {cs : List Val} {w w5 : World} (h : At p W0 g op r cs w w5) (hV : NV (w.heap.size + 1) w5 (.agg #[.int .i64 k, sl]) x) :
    ((w5.setCell ⟨w.heap.size, 0, none⟩ (.int .i64 k)).setCell ⟨w.heap.size, 1, none⟩ sl).heap[w.heap.size]? = some (.cells #[.int .i64 k, sl] 27 (0, 0)) ∧
    w.grownBy ((w5.setCell ⟨w.heap.size, 0, none⟩ (.int .i64 k)).setCell ⟨w.heap.size, 1, none⟩ sl) (some g) ∧ NV w.heap.size ((w5.setCell ⟨w.heap.size, 0, none⟩ (.int .i64 k)).setCell ⟨w.heap.size, 1, none⟩ sl) (.agg #[.int .i64 k, sl]) x := by
  obtain ⟨h1, h2⟩ := h.yes hV rfl
  obtain ⟨v, e, h3, _⟩ := h2.of_some rfl
  injection e with e
  exact ⟨h1, h2.grown, by rw [e]; exact h3⟩
set_option maxRecDepth 8000 in
set_option maxHeartbeats 4000000 in
theorem do_any (k F : Nat) (cs : List Val) (o : Option Val) (w : World) (h : DD p W0 g (k : Int) r cs w) (hk : k < 16) (hF : waysL[k]? = some F)
    (HW : ∀ w, DD p W0 g (k : Int) r cs w → Calls Tryz.prog F #[.pointer (some ⟨g, 0, none⟩)] w (Ret p W0 g (k : Int) r w (NV w.heap.size) (o.map (fun z => (z, []))))) :
    Calls Tryz.prog 22 #[.pointer (some ⟨g, 0, none⟩)] w (DoneR p g w (doO k o)) := by
  have HWW := hid HW
  have hcf := way_call hF
  have hmf : ∀ (fn : Fn) (first cap : Array Value) (w : World), (Instr.makeFunc fn first cap).run Tryz.prog w = .ok (.func fn first cap) w := fun _ _ _ _ => rfl
  obtain ⟨w1, hw1⟩ : ∃ w1, w1 = (w.alloc (.cells #[.int .i64 0, .slice none 0 0] 27)).alloc (.cells #[wayV g 36, wayV g 37, wayV g 38, wayV g 39, wayV g 40, wayV g 41, wayV g 42, wayV g 43, wayV g 44, wayV g 45, wayV g 46, wayV g 47, wayV g 48, wayV g 49, wayV g 50, wayV g 51] 62) := ⟨_, rfl⟩
  have A1 : Hid (At p W0 g (k : Int) r cs w w1) := hid (by rw [hw1]; exact (At.start h).up (up_alloc _ _))
  have X1 : Hid (w1.heap[w.heap.size + 1]? = some (.cells (waysL.map (wayV g)).toArray 62 (0, 0))) := hid (by rw [hw1]; have h1 := new_row (w.alloc (.cells #[.int .i64 0, .slice none 0 0] 27)) (.cells (waysL.map (wayV g)).toArray 62); rw [show (w.alloc (.cells #[.int .i64 0, .slice none 0 0] 27)).heap.size = w.heap.size + 1 by simp] at h1; exact h1)
  have c9 : w1.cell? ⟨w.heap.size + 1, k, none⟩ = some (wayV g F) := by
    rw [cell_of_row X1.out, List.getElem?_toArray, List.getElem?_map, hF]; rfl
  have hs1 : w1.heap.size = w.heap.size + 2 := by rw [hw1]; simp
  have d0 := A1.out.dd.cells.1
  have d0' : ((w.alloc (.cells #[.int .i64 0, .slice none 0 0] 27)).alloc (.cells #[wayV g 36, wayV g 37, wayV g 38, wayV g 39, wayV g 40, wayV g 41, wayV g 42, wayV g 43, wayV g 44, wayV g 45, wayV g 46, wayV g 47, wayV g 48, wayV g 49, wayV g 50, wayV g 51] 62)).cell? ⟨g, 0, none⟩ = some (.int .i64 k) := by rw [← hw1]; exact d0
  have HI := hid (within_any (k : Int) 0 15)
  rw [inB_true (by omega) (by omega)] at HI
  have hk16 : (k : Int) < 16 := by omega
  have H2 := hid (HW _ A1.out.dd)
  have HD : Hid (doO k o = o.bind fun x => if k = 0 ∨ rightB x = true then some x else none) := hid rfl
  generalize doO k o = dO at *
  clear h hF HW X1
  unfold wayV at hw1 c9 d0'
  go_enter Tryz.func22, Tryz.ntmps22
  go_wp2_with fail
  rw [← hw1]
  refine (HI.out _).mono ?_
  rintro e wn ⟨rfl, hw⟩
  obtain rfl := hw.symm
  clear hw hw1 d0' HI hmf
  go_wp2_with fail
  refine (need_yes _).mono ?_
  rintro e wn ⟨rfl, hw⟩
  obtain rfl := hw.symm
  clear hw
  go_wp2_with fail
  refine H2.out.mono ?_
  intro e w2 hr
  cases o with
  | none =>
    obtain rfl := hr.of_none rfl
    have HO := hid (show dO = none from HD.out)
    have HG := hid (grown_on A1.out.grown hr.grown)
    clear hr H2 HWW
    go_wp2
    exact ⟨rfl, DoneR.no1 HO.out HG.out⟩
  | some x =>
    obtain ⟨v, rfl, hv, hd⟩ := hr.of_some rfl
    have A2 := hid (A1.out.step hr.grown hd)
    obtain ⟨kx, f⟩ := x
    have HV := hid (hv.low (show w.heap.size + 1 ≤ w1.heap.size by omega))
    obtain ⟨fv, rfl, hf⟩ := hv
    obtain ⟨ad, cap, rfl, _⟩ := hf.ia.shape
    have HO := hid (show dO = if k = 0 ∨ rightB ⟨kx, f⟩ = true then some ⟨kx, f⟩ else none from HD.out)
    dsimp only at hf HV ⊢
    clear hr hd hf H2 HWW A1 HD c9 d0
    generalize f.length = n at *
    obtain ⟨w3, hw3⟩ : ∃ w3, w3 = w2.alloc (.cells #[.int .i64 kx, .slice ad n cap] 27) := ⟨_, rfl⟩
    have A3 := hid (A2.out.up (up_alloc _ (.cells #[.int .i64 kx, .slice ad n cap] 27)))
    have HV3 := hid (HV.out.on (up_alloc _ (.cells #[.int .i64 kx, .slice ad n cap] 27)))
    have X3 := hid (new_row w2 (.cells #[.int .i64 kx, .slice ad n cap] 27))
    have hs2 := A2.out.size
    rw [← hw3] at A3 HV3 X3
    obtain ⟨adp, capp, dp⟩ := A3.out.dd.places
    rw [show ([] : List Val).length = 0 from rfl] at dp
    have d0 := A3.out.dd.cells.1
    have dp' : (w2.alloc (.cells #[.int .i64 kx, .slice ad n cap] 27)).cell? ⟨g, 2, none⟩ = some (.slice adp 0 capp) := by rw [← hw3]; exact dp
    clear A2 HV
    go_wp2_with fail
    rw [← hw3]
    refine (need_yes' _ (by first | rfl | (simp only [decide_eq_true_eq]; omega))).mono ?_
    rintro e wn ⟨rfl, hw⟩
    obtain rfl := hw.symm
    have x0 : w3.cell? ⟨w2.heap.size, 0, none⟩ = some (.int .i64 kx) := by rw [cell_of_row X3.out]; rfl
    have x1 : w3.cell? ⟨w2.heap.size, 1, none⟩ = some (.slice ad n cap) := by rw [cell_of_row X3.out]; rfl
    clear hw hw3 dp dp'
    by_cases hk0 : k = 0
    case pos =>
      subst hk0
      have HO := hid (HO.out.trans (if_pos (.inl rfl)))
      have d0 : w3.cell? ⟨g, 0, none⟩ = some (.int .i64 0) := d0
      have Y := hid (A3.out.set HV3.out)
      have c0 := A3.out.c0
      have c1 := A3.out.c1
      have f0 := A3.out.fz 0
      have f1 := A3.out.fz 1
      go_wp2
      refine bodyPost_ret (results_cell_tmp rfl _ _ w.heap.size _ rfl (run_loadVar_row _ _ 27 27 _ (0, 0) _ Y.out.1 Tryz.underlying27 rfl (by kernel_rfl))) rfl ?_
      exact DoneR.yes HO.out Y.out.2.1 Y.out.2.2
    case neg =>
      have hk1 : ((k : Int) != 0) = true := by simp; exact hk0
      cases hR : rightB ⟨kx, f⟩ with
      | true =>
        have HO := hid (HO.out.trans (if_pos (.inr hR)))
        have HR := hid (right_any p ⟨kx, f⟩ _ w3 HV3.out.va A3.out.dd.tabs)
        rw [hR] at HR
        clear hR
        go_wp2_with fail
        refine HR.out.mono ?_
        rintro e w4 ⟨rfl, hb⟩
        have A4 := hid (A3.out.up hb)
        have HV4 := hid (HV3.out.on hb)
        have X4 := (hb.block _ (Array.getElem?_eq_some_iff.1 X3.out).1).trans X3.out
        have x0 : w4.cell? ⟨w2.heap.size, 0, none⟩ = some (.int .i64 kx) := by rw [cell_of_row X4]; rfl
        have x1 : w4.cell? ⟨w2.heap.size, 1, none⟩ = some (.slice ad n cap) := by rw [cell_of_row X4]; rfl
        clear hb X4
        have Y := hid (A4.out.set HV4.out)
        have c0 := A4.out.c0
        have c1 := A4.out.c1
        have f0 := A4.out.fz 0
        have f1 := A4.out.fz 1
        go_wp2
        refine bodyPost_ret (results_cell_tmp rfl _ _ w.heap.size _ rfl (run_loadVar_row _ _ 27 27 _ (0, 0) _ Y.out.1 Tryz.underlying27 rfl (by kernel_rfl))) rfl ?_
        exact DoneR.yes HO.out Y.out.2.1 Y.out.2.2
      | false =>
        have HO := hid (HO.out.trans (if_neg (by rw [hR]; simp [hk0])))
        have HR := hid (right_any p ⟨kx, f⟩ _ w3 HV3.out.va A3.out.dd.tabs)
        rw [hR] at HR
        clear hR
        go_wp2_with fail
        refine HR.out.mono ?_
        rintro e w4 ⟨rfl, hb⟩
        have A4 := hid (A3.out.up hb)
        have HN : Hid (NV (w.heap.size + 1) w4 (.agg #[.int .i64 0, .slice none 0 0]) ⟨0, []⟩) := hid ⟨_, rfl, .inl ⟨rfl, rfl⟩⟩
        clear hb
        have Y := hid (A4.out.set HN.out)
        have c0 := A4.out.c0
        have c1 := A4.out.c1
        have f0 := A4.out.fz 0
        have f1 := A4.out.fz 1
        go_wp2
        refine bodyPost_ret (results_cell_tmp rfl _ _ w.heap.size _ rfl (run_loadVar_row _ _ 27 27 _ (0, 0) _ Y.out.1 Tryz.underlying27 rfl (by kernel_rfl))) rfl ?_
        exact DoneR.no2 HO.out Y.out.2.1

theorem catch_boom (pv : Value) (u : TypeId) (older : List PanicEntry) (w : World) :
    CallsD Tryz.prog 35 #[] (.panicking ({ v := .iface u pv, recovered := false } :: older)) w fun e u' w' =>
      e = .returned (.tuple #[]) ∧ u' = .panicking ({ v := .iface u pv, recovered := true } :: older) ∧ w' = w := by
  refine callsD_of_wpS Tryz.func35 rfl fun c₀ cs hu => ?_
  apply wpS_region
  simp [wpOpsS, go_sem, recoverD, hu, Tryz.ntmps35, bodyPostS, results, Tryz.results35]
theorem catch_idle (w : World) :
    CallsD Tryz.prog 35 #[] .returning w fun e u' w' => e = .returned (.tuple #[]) ∧ u' = .returning ∧ w' = w := by
  refine callsD_of_wpS Tryz.func35 rfl fun c₀ cs hu => ?_
  apply wpS_region
  simp [wpOpsS, go_sem, recoverD, hu, Tryz.ntmps35, bodyPostS, results, Tryz.results35]
  cases c₀
  simp_all

/-- What an action, whatever it stops with, leaves. -/
def DoneU (g : Nat) (w : World) (o : Option Val) (e : Ending) (w' : World) : Prop :=
  w.grownBy w' (some g) ∧ match o with
    | some x => ∃ v, e = .returned (.tuple #[v, .bool true]) ∧ NV w.heap.size w' v x
    | none => e = .returned noneV
theorem DoneU.no {w w' : World} {o : Option Val} (h : o = none) (hg : w.grownBy w' (some g)) : DoneU g w o (.returned noneV) w' := by subst h; exact ⟨hg, rfl⟩
theorem DoneU.yes {w w' : World} {o : Option Val} {x : Val} {v : Value} (h : o = some x) (hg : w.grownBy w' (some g)) (hv : NV w.heap.size w' v x) : DoneU g w o (.returned (.tuple #[v, .bool true])) w' := by subst h; exact ⟨hg, v, rfl, hv⟩

set_option maxRecDepth 8000 in
set_option maxHeartbeats 2000000 in
theorem unless_any (op : Int) (cs : List Val) (o : Option Val) (w : World) (h : DD p W0 g op r cs w)
    (HW : ∀ w, DD p W0 g op r cs w → Calls Tryz.prog 22 #[.pointer (some ⟨g, 0, none⟩)] w (DoneR p g w o)) :
    Calls Tryz.prog 21 #[.func (Fn.func 22) #[.pointer (some ⟨g, 0, none⟩)] #[]] w (DoneU g w o) := by
  have hlt := h.lt
  obtain ⟨w0, hw0⟩ : ∃ w0, w0 = w.alloc (.cells #[.int .i64 0, .slice none 0 0] 27) := ⟨_, rfl⟩
  have A0 : Hid (At p W0 g op r cs w w0) := hid (by rw [hw0]; exact At.start h)
  have H1 := hid (HW _ A0.out.dd)
  have hs0 := A0.out.size
  clear h HW
  go_enter_defers Tryz.func21, Tryz.ntmps21
  go_wp2_with fail
  rw [← hw0]
  clear hw0
  refine H1.out.mono ?_
  rintro e w1 ⟨hg, hr⟩
  have hk := (hg.block w.heap.size hs0 (fun e => by injection e with e; omega)).trans A0.out.row
  have HG := hid (grown_on A0.out.grown hg)
  have c0 : w1.cell? ⟨w.heap.size, 0, none⟩ = some (.int .i64 0) := by rw [cell_of_row hk]; rfl
  have c1 : w1.cell? ⟨w.heap.size, 1, none⟩ = some (.slice none 0 0) := by rw [cell_of_row hk]; rfl
  have f0 : w1.frozen? ⟨w.heap.size, 0, none⟩ = false := frozen_of_row hk
  have f1 : w1.frozen? ⟨w.heap.size, 1, none⟩ = false := frozen_of_row hk
  have HK := hid hk
  clear hg hk H1
  cases o with
  | none =>
    rcases hr with rfl | rfl
    · have HC := hid (catch_boom p 97 [] w1)
      unfold boom
      go_wp2
      refine leaves_cons (f := 35) (args := #[]) (by simp) (by simp [go_sem]) ?_
      refine HC.out.mono ?_
      rintro e u' w'' ⟨rfl, rfl, rfl⟩
      simp [Leaves, settle, results, Tryz.results21, go_sem, c0, c1]
      exact DoneU.no rfl HG.out
    · unfold noneV
      go_wp2
      have HG6 := grown_new (grown_new HG.out (Nat.le_refl _) (set_by w1 w.heap.size 0 (.int .i64 0))) (Nat.le_refl _) (set_by (w1.setCell ⟨w.heap.size, 0, none⟩ (.int .i64 0)) w.heap.size 1 (.slice none 0 0))
      have HK6 := heap_setCell_same _ w.heap.size 1 _ _ (.slice none 0 0) (heap_setCell_same w1 w.heap.size 0 _ _ (.int .i64 0) HK.out)
      generalize (w1.setCell ⟨w.heap.size, 0, none⟩ (.int .i64 0)).setCell ⟨w.heap.size, 1, none⟩ (.slice none 0 0) = w6 at *
      have c0 : w6.cell? ⟨w.heap.size, 0, none⟩ = some (.int .i64 0) := by rw [cell_of_row HK6]; rfl
      have c1 : w6.cell? ⟨w.heap.size, 1, none⟩ = some (.slice none 0 0) := by rw [cell_of_row HK6]; rfl
      refine leaves_cons (f := 35) (args := #[]) (by simp) (by simp [go_sem]) ?_
      refine (catch_idle w6).mono ?_
      rintro e u' w'' ⟨rfl, rfl, rfl⟩
      simp [Leaves, settle, results, Tryz.results21, go_sem, c0, c1]
      exact DoneU.no rfl HG6
  | some x =>
    obtain ⟨v, rfl, hv⟩ := hr
    have HV := hid (hv.low (show w.heap.size + 1 ≤ w0.heap.size from hs0))
    obtain ⟨kx, f⟩ := x
    obtain ⟨fv, rfl, hf⟩ := hv
    obtain ⟨ad, cap, rfl, _⟩ := hf.ia.shape
    dsimp only at *
    clear hf
    generalize f.length = n at *
    go_wp2
    have HG6 := grown_new (grown_new HG.out (Nat.le_refl _) (set_by w1 w.heap.size 0 (.int .i64 kx))) (Nat.le_refl _) (set_by (w1.setCell ⟨w.heap.size, 0, none⟩ (.int .i64 kx)) w.heap.size 1 (.slice ad n cap))
    have HV6 := ((HV.out.set (j := 0) (u := .int .i64 kx) (show w.heap.size < w.heap.size + 1 by omega)).set (j := 1) (u := .slice ad n cap) (show w.heap.size < w.heap.size + 1 by omega)).low (show w.heap.size ≤ w.heap.size + 1 by omega)
    have HK6 := heap_setCell_same _ w.heap.size 1 _ _ (.slice ad n cap) (heap_setCell_same w1 w.heap.size 0 _ _ (.int .i64 kx) HK.out)
    generalize (w1.setCell ⟨w.heap.size, 0, none⟩ (.int .i64 kx)).setCell ⟨w.heap.size, 1, none⟩ (.slice ad n cap) = w6 at *
    have c0 : w6.cell? ⟨w.heap.size, 0, none⟩ = some (.int .i64 kx) := by rw [cell_of_row HK6]; rfl
    have c1 : w6.cell? ⟨w.heap.size, 1, none⟩ = some (.slice ad n cap) := by rw [cell_of_row HK6]; rfl
    refine leaves_cons (f := 35) (args := #[]) (by simp) (by simp [go_sem]) ?_
    refine (catch_idle w6).mono ?_
    rintro e u' w'' ⟨rfl, rfl, rfl⟩
    simp [Leaves, settle, results, Tryz.results21, go_sem, c0, c1]
    exact DoneU.yes rfl HG6 HV6

/-- What Do leaves. -/
def DoneT (w : World) (o : Option Val) (e : Ending) (w' : World) : Prop :=
  Below w.heap.size w w' ∧ match o with
    | some x => ∃ v, e = .returned (.tuple #[v, .bool true]) ∧ NV w.heap.size w' v x
    | none => e = .returned noneV
theorem DoneT.no {w w' : World} {o : Option Val} (h : o = none) (hg : Below w.heap.size w w') : DoneT w o (.returned noneV) w' := by subst h; exact ⟨hg, rfl⟩
theorem DoneT.yes {w w' : World} {o : Option Val} {x : Val} {v : Value} (h : o = some x) (hg : Below w.heap.size w w') (hv : NV w.heap.size w' v x) : DoneT w o (.returned (.tuple #[v, .bool true])) w' := by subst h; exact ⟨hg, v, rfl, hv⟩

set_option maxRecDepth 8000 in
set_option maxHeartbeats 2000000 in
theorem Do_any (k F : Nat) (r : Mom) (l : List Val) (ps : List Int) (pv lv : Value) (o : Option Val) (w : World) (hk : k < 16) (hF : waysL[k]? = some F) (hp : IA w pv ps) (hl : LA w lv l) (hT : Tabs p w) (hq : ∀ q ∈ ps, 0 ≤ q ∧ q < (l.length : Int))
    (HW : ∀ g w', DD p w g (k : Int) r (ps.map (fun q => l.getD q.toNat nilVal)) w' → Calls Tryz.prog F #[.pointer (some ⟨g, 0, none⟩)] w' (Ret p w g (k : Int) r w' (NV w'.heap.size) (o.map (fun z => (z, []))))) :
    Calls Tryz.prog 11 #[.agg #[.int .i64 k, pv], lv, momV r] w (DoneT w (doO k o)) := by
  obtain ⟨adp, capp, rfl, _⟩ := hp.shape
  obtain ⟨adl, capl, rfl, hl'⟩ := hl
  have HL : Hid (LA w (.slice adl l.length capl) l) := hid ⟨_, _, rfl, hl'⟩
  unfold momV
  obtain ⟨w3, hw3⟩ : ∃ w3, w3 = ((w.alloc (.cells #[.int .i64 k, .slice adp ps.length capp] 30)).alloc (.cells #[.int .i64 r.y, .int .i64 r.m, .int .i64 r.d, .int .i64 r.h, .int .i64 r.i, .int .i64 r.s] 32)).alloc (.cells #[.int .i64 0, .slice none 0 0] 27) := ⟨_, rfl⟩
  have hs3 : w3.heap.size = w.heap.size + 3 := by rw [hw3]; simp
  have HB3 := hid (show Below w.heap.size w w3 by rw [hw3]; exact up_trans (up_trans (up_alloc _ _) (up_alloc _ _)) (up_alloc _ _))
  have HR3 := hid (show w3.heap[w.heap.size + 2]? = some (.cells #[.int .i64 0, .slice none 0 0] 27 (0, 0)) by rw [hw3]; have h1 := new_row ((w.alloc (.cells #[.int .i64 k, .slice adp ps.length capp] 30)).alloc (.cells #[.int .i64 r.y, .int .i64 r.m, .int .i64 r.d, .int .i64 r.h, .int .i64 r.i, .int .i64 r.s] 32)) (.cells #[.int .i64 0, .slice none 0 0] 27); simpa using h1)
  obtain ⟨w4, hw4⟩ : ∃ w4, w4 = w3.alloc (.cells #[.int .i64 k, .slice adl l.length capl, .slice adp ps.length capp, .int .i64 r.y, .int .i64 r.m, .int .i64 r.d, .int .i64 r.h, .int .i64 r.i, .int .i64 r.s] 51) := ⟨_, rfl⟩
  have hB34 : Below w3.heap.size w3 w4 := by rw [hw4]; exact up_alloc _ _
  have HB4 := hid (up_trans HB3.out hB34)
  have HD : Hid (DD p w (w.heap.size + 3) (k : Int) r (ps.map (fun q => l.getD q.toNat nilVal)) w4) := hid ⟨_, l, _, ps, by rw [hw4, ← hs3]; exact new_row _ _, by omega, HB4.out, hp, HL.out, rfl, hq, hT⟩
  have HU := hid (unless_any (p := p) (k : Int) _ (doO k o) w4 HD.out (fun w' h => do_any k F _ o w' h hk hF (HW _)))
  have HR4 := hid ((hB34.block (w.heap.size + 2) (by omega)).trans HR3.out)
  have hs4 : w4.heap.size = w.heap.size + 4 := by rw [hw4]; simp [hs3]
  have hmf : ∀ (fn : Fn) (first cap : Array Value) (w : World), (Instr.makeFunc fn first cap).run Tryz.prog w = .ok (.func fn first cap) w := fun _ _ _ _ => rfl
  generalize doO k o = dO at *
  clear hp hl' hT hq HW HL HD hB34
  generalize ps.length = np at *
  generalize l.length = nl at *
  go_enter Tryz.func11, Tryz.ntmps11
  go_wp2_with fail
  rw [← hw3, ← hw4]
  clear hw3 hw4 hmf
  refine HU.out.mono ?_
  rintro e w5 ⟨hg, hr⟩
  have HK := hid ((hg.block (w.heap.size + 2) (by omega) (fun e => by injection e with e; omega)).trans HR4.out)
  have HB5 := hid (HB4.out.grown hg HB4.out.size (fun q e => by injection e with e; omega))
  clear hg HU HR4
  cases dO with
  | none =>
    obtain rfl : e = .returned noneV := hr
    unfold noneV
    have c0 : w5.cell? ⟨w.heap.size + 1 + 1, 0, none⟩ = some (.int .i64 0) := by rw [cell_of_row HK.out]; rfl
    have c1 : w5.cell? ⟨w.heap.size + 1 + 1, 1, none⟩ = some (.slice none 0 0) := by rw [cell_of_row HK.out]; rfl
    have f0 : w5.frozen? ⟨w.heap.size + 1 + 1, 0, none⟩ = false := frozen_of_row HK.out
    have f1 : w5.frozen? ⟨w.heap.size + 1 + 1, 1, none⟩ = false := frozen_of_row HK.out
    go_wp2
    refine bodyPost_ret (results_cell_tmp rfl _ _ (w.heap.size + 1 + 1) _ rfl (run_loadVar_row _ _ 27 27 _ (0, 0) _ (heap_setCell_same _ _ 1 _ _ (.slice none 0 0) (heap_setCell_same _ _ 0 _ _ (.int .i64 0) HK.out)) Tryz.underlying27 rfl (by kernel_rfl))) rfl ?_
    exact DoneT.no rfl ((HB5.out.setCell (p := ⟨w.heap.size + 1 + 1, 0, none⟩) (by simp; omega) _).setCell (p := ⟨w.heap.size + 1 + 1, 1, none⟩) (by simp; omega) _)
  | some x =>
    obtain ⟨v, rfl, hv⟩ := hr
    have HV := hid hv
    obtain ⟨kx, f⟩ := x
    obtain ⟨fv, rfl, hf⟩ := hv
    obtain ⟨ad, cap, rfl, _⟩ := hf.ia.shape
    dsimp only at *
    clear hf
    generalize f.length = n at *
    have c0 : w5.cell? ⟨w.heap.size + 1 + 1, 0, none⟩ = some (.int .i64 0) := by rw [cell_of_row HK.out]; rfl
    have c1 : w5.cell? ⟨w.heap.size + 1 + 1, 1, none⟩ = some (.slice none 0 0) := by rw [cell_of_row HK.out]; rfl
    have f0 : w5.frozen? ⟨w.heap.size + 1 + 1, 0, none⟩ = false := frozen_of_row HK.out
    have f1 : w5.frozen? ⟨w.heap.size + 1 + 1, 1, none⟩ = false := frozen_of_row HK.out
    go_wp2
    refine bodyPost_ret (results_cell_tmp rfl _ _ (w.heap.size + 1 + 1) _ rfl (run_loadVar_row _ _ 27 27 _ (0, 0) _ (heap_setCell_same _ _ 1 _ _ (.slice ad n cap) (heap_setCell_same _ _ 0 _ _ (.int .i64 kx) HK.out)) Tryz.underlying27 rfl (by kernel_rfl))) rfl ?_
    exact DoneT.yes rfl ((HB5.out.setCell (p := ⟨w.heap.size + 1 + 1, 0, none⟩) (by simp; omega) _).setCell (p := ⟨w.heap.size + 1 + 1, 1, none⟩) (by simp; omega) _) (((HV.out.set (by omega)).set (by omega)).low (by omega))
end
end Go.Proofs.YtengcdodoblabaaGreatDoor
