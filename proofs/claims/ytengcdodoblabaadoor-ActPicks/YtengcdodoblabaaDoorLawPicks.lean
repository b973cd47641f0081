/- ActPicks answers true of any three numbers: what is picked is as it is, of whatever kind, and by itself. The table of how many numbers a kind has, and what an action stops with, are as listed. -/
import Derived.Test.YtengcdodoblabaaDoorCards
import Derived.Test.YtengcdodoblabaaDoorTie
import Derived.Test.YtengcdodoblabaaDoorTab
import Derived.ProofKit
import Derived.OpenShut
import Derived.Lay
import Derived.SevenTiedAt
import Derived.Stop.Joined
import Derived.Lib.LaidTab
import Derived.Deep.Cut
import Derived.Deep.CutBlock
import Derived.Test.YtengcdodoblabaaDoorChild
namespace Go.Proofs.YtengcdodoblabaaDoor
open Go.ChangeShapes Go.WideShapes Go.ChangeAt Go.RowKit

theorem row_at {w : World} {o : Obj} {g : Nat} (h : g = w.heap.size) : (w.alloc o).heap[g]? = some o := by subst h; exact new_row w o
theorem row_up {w : World} {o o' : Obj} {g : Nat} (h : w.heap[g]? = some o) : (w.alloc o').heap[g]? = some o := ((up_alloc w o').block g (Array.getElem?_eq_some_iff.1 h).1).trans h
theorem row_drew {w : World} {o : Obj} {g : Nat} (h : w.heap[g]? = some o) : w.drew.heap[g]? = some o := h
theorem row_on {w w' : World} {o : Obj} {g : Nat} (hb : Below w.heap.size w w') (h : w.heap[g]? = some o) : w'.heap[g]? = some o := (hb.block g (Array.getElem?_eq_some_iff.1 h).1).trans h

theorem pick_made (r : Mom) (x : Val) : doO 0 (madeO 0 r [x]) = some x := rfl
theorem na_row {B : Nat} {w : World} {v : Value} {xs : List Int} (h : NA B w v xs) (hz : xs ≠ []) : ∃ g cs t cap, v = .slice (some ⟨g, 0, none⟩) xs.length cap ∧ B ≤ g ∧ w.heap[g]? = some (.cells cs t (0, 0)) ∧ xs.length ≤ cs.size := by
  rcases h with ⟨e, _⟩ | ⟨g, cap, cs, t, e, _, hB, h1, h2⟩
  · exact absurd e hz
  · refine ⟨g, cs, t, cap, e, hB, h1, ?_⟩
    have hl : 0 < xs.length := List.length_pos_iff.2 hz
    have := h2 (xs.length - 1) (by omega)
    have := (Array.getElem?_eq_some_iff.1 this).1
    omega
theorem col3 {α : Type} (a b c : α) : [a, b, c][0]? = some a := rfl

set_option maxRecDepth 8000 in
set_option maxHeartbeats 8000000 in
theorem part0 (n at_ by_ : Int) (W : World) (w0 : (Lit.int .i64 n).wf = true) (w1 : (Lit.int .i64 at_).wf = true) (hX : TabsE W) (hq : at_ % 3 = 0) : Calls Tryd.prog 5 #[.int .i64 n, .int .i64 at_, .int .i64 by_] W fun e W' => e = .returned (.bool true) ∧ Below W.heap.size W W' := by
  obtain ⟨p, hT⟩ := hX
  obtain ⟨ba, ba'⟩ := wf_bd w0
  obtain ⟨bb, bb'⟩ := wf_bd w1
  have HK := hid (known_any p W hT)
  have HT := hid hT
  have HR := hid fun w => ref_any n w ba ba'
  have HRR := hid (refM_right n)
  have H1 := hid fun w => lwithin_any n 1099511627776 w (by decide) (by decide) ba ba'
  have H2 := hid fun w => lwithin_any at_ 3 w (by decide) (by decide) bb bb'
  rw [hq] at H2
  have hx : 0 ≤ n % 1099511627776 ∧ n % 1099511627776 ≤ 1099511627775 := by omega
  generalize n % 1099511627776 = c at *
  obtain ⟨c0, c1⟩ := hx
  obtain ⟨⟨k0, f0⟩, hk0, h0⟩ := child_any c c0 (by omega)
  obtain ⟨⟨k1, f1⟩, hk1, h1⟩ := child_any (c + 1) (by omega) (by omega)
  obtain ⟨⟨k2, f2⟩, hk2, h2⟩ := child_any (c + 6) (by omega) (by omega)
  have C0 := hid h0
  have C1 := hid h1
  have C2 := hid h2
  clear hT w0 w1 ba ba' bb bb' hq h0 h1 h2 hk0 hk1 hk2
  go_enter Tryd.func5, Tryd.ntmps5
  go_wp2_with fail
  refine HK.out.mono ?_
  rintro e wa ⟨rfl, hb⟩
  have HBW := hid hb
  clear hb HK
  go_wp2_with fail
  refine (H1.out _).mono ?_
  rintro e wn ⟨rfl, hw⟩
  obtain rfl := hw.symm
  clear hw
  go_wp2_with fail
  refine (C0.out _).mono ?_
  rintro e wa0 ⟨u, rfl, hu, hb⟩
  obtain ⟨fv, rfl, hf⟩ := hu
  have Ga0 := hid hf.ia
  obtain ⟨ada0, capa0, rfl, _⟩ := hf.ia.shape
  dsimp only at Ga0 ⊢
  have HBW := hid (up_trans HBW.out hb)
  clear hf hb
  go_wp2_with fail
  refine (H1.out _).mono ?_
  rintro e wn ⟨rfl, hw⟩
  obtain rfl := hw.symm
  clear hw
  go_wp2_with fail
  refine (C1.out _).mono ?_
  rintro e wa1 ⟨u, rfl, hu, hb⟩
  obtain ⟨fv, rfl, hf⟩ := hu
  have Ga1 := hid hf.ia
  obtain ⟨ada1, capa1, rfl, _⟩ := hf.ia.shape
  dsimp only at Ga1 ⊢
  have HBW := hid (up_trans HBW.out hb)
  have Ga0 := hid (Ga0.out.on hb)
  clear hf hb
  go_wp2_with fail
  refine (H1.out _).mono ?_
  rintro e wn ⟨rfl, hw⟩
  obtain rfl := hw.symm
  clear hw
  go_wp2_with fail
  refine (C2.out _).mono ?_
  rintro e wa2 ⟨u, rfl, hu, hb⟩
  obtain ⟨fv, rfl, hf⟩ := hu
  have Ga2 := hid hf.ia
  obtain ⟨ada2, capa2, rfl, _⟩ := hf.ia.shape
  dsimp only at Ga2 ⊢
  have HBW := hid (up_trans HBW.out hb)
  have Ga0 := hid (Ga0.out.on hb)
  have Ga1 := hid (Ga1.out.on hb)
  clear hf hb
  obtain ⟨wl, hwl⟩ : ∃ wl, wl = wa2.alloc (.cells #[.int .i64 k0, .slice ada0 f0.length capa0, .int .i64 k1, .slice ada1 f1.length capa1, .int .i64 k2, .slice ada2 f2.length capa2] 24) := ⟨_, rfl⟩
  have hal := up_alloc wa2 (.cells #[.int .i64 k0, .slice ada0 f0.length capa0, .int .i64 k1, .slice ada1 f1.length capa1, .int .i64 k2, .slice ada2 f2.length capa2] 24)
  rw [← hwl] at hal
  have Xa := hid (show wl.heap[wa2.heap.size]? = some (.cells #[.int .i64 k0, .slice ada0 f0.length capa0, .int .i64 k1, .slice ada1 f1.length capa1, .int .i64 k2, .slice ada2 f2.length capa2] 24 (0, 0)) by rw [hwl]; exact new_row _ _)
  have HLa := hid (LA.three Xa.out (Ga0.out.on hal) (Ga1.out.on hal) (Ga2.out.on hal))
  have HBW := hid (up_trans HBW.out hal)
  generalize hbl : wa2.heap.size = bl at *
  go_wp2_with fail
  rw [← hwl]
  clear hwl hal hbl Ga0 Ga1 Ga2
  refine (H2.out _).mono ?_
  rintro e wn ⟨rfl, hw⟩
  obtain rfl := hw.symm
  clear hw
  go_wp2_with fail
  refine (H1.out _).mono ?_
  rintro e wn ⟨rfl, hw⟩
  obtain rfl := hw.symm
  clear hw
  go_wp2_with fail
  refine (C0.out _).mono ?_
  rintro e wb0 ⟨u, rfl, hu, hb⟩
  obtain ⟨fv, rfl, hf⟩ := hu
  have Gb0 := hid hf.ia
  obtain ⟨adb0, capb0, rfl, _⟩ := hf.ia.shape
  dsimp only at Gb0 ⊢
  have HBW := hid (up_trans HBW.out hb)
  have HLa := hid (HLa.out.on hb)
  have Xa := hid (row_on hb Xa.out)
  clear hf hb
  go_wp2_with fail
  refine (H1.out _).mono ?_
  rintro e wn ⟨rfl, hw⟩
  obtain rfl := hw.symm
  clear hw
  go_wp2_with fail
  refine (C1.out _).mono ?_
  rintro e wb1 ⟨u, rfl, hu, hb⟩
  obtain ⟨fv, rfl, hf⟩ := hu
  have Gb1 := hid hf.ia
  obtain ⟨adb1, capb1, rfl, _⟩ := hf.ia.shape
  dsimp only at Gb1 ⊢
  have HBW := hid (up_trans HBW.out hb)
  have Gb0 := hid (Gb0.out.on hb)
  have HLa := hid (HLa.out.on hb)
  have Xa := hid (row_on hb Xa.out)
  clear hf hb
  go_wp2_with fail
  refine (H1.out _).mono ?_
  rintro e wn ⟨rfl, hw⟩
  obtain rfl := hw.symm
  clear hw
  go_wp2_with fail
  refine (C2.out _).mono ?_
  rintro e wb2 ⟨u, rfl, hu, hb⟩
  obtain ⟨fv, rfl, hf⟩ := hu
  have Gb2 := hid hf.ia
  obtain ⟨adb2, capb2, rfl, _⟩ := hf.ia.shape
  dsimp only at Gb2 ⊢
  have HBW := hid (up_trans HBW.out hb)
  have Gb0 := hid (Gb0.out.on hb)
  have Gb1 := hid (Gb1.out.on hb)
  have HLa := hid (HLa.out.on hb)
  have Xa := hid (row_on hb Xa.out)
  clear hf hb
  obtain ⟨wm, hwm⟩ : ∃ wm, wm = wb2.alloc (.cells #[.int .i64 k0, .slice adb0 f0.length capb0, .int .i64 k1, .slice adb1 f1.length capb1, .int .i64 k2, .slice adb2 f2.length capb2] 24) := ⟨_, rfl⟩
  have hal := up_alloc wb2 (.cells #[.int .i64 k0, .slice adb0 f0.length capb0, .int .i64 k1, .slice adb1 f1.length capb1, .int .i64 k2, .slice adb2 f2.length capb2] 24)
  rw [← hwm] at hal
  have Xb := hid (show wm.heap[wb2.heap.size]? = some (.cells #[.int .i64 k0, .slice adb0 f0.length capb0, .int .i64 k1, .slice adb1 f1.length capb1, .int .i64 k2, .slice adb2 f2.length capb2] 24 (0, 0)) by rw [hwm]; exact new_row _ _)
  have Xa := hid (row_on hal Xa.out)
  have HLa := hid (HLa.out.on hal)
  have HLb := hid (LA.three Xb.out (Gb0.out.on hal) (Gb1.out.on hal) (Gb2.out.on hal))
  have HBW := hid (up_trans HBW.out hal)
  have hsm : wm.heap.size = wb2.heap.size + 1 := by rw [hwm]; simp
  generalize hbm : wb2.heap.size = bm at *
  have Hsm := hid hsm
  clear hsm
  clear hal Gb0 Gb1 Gb2
  obtain ⟨wp, hwp⟩ : ∃ wp, wp = wm.alloc (.cells #[.int .i64 (0)] 3) := ⟨_, rfl⟩
  have hal := up_alloc wm (.cells #[.int .i64 (0)] 3)
  rw [← hwp] at hal
  have HP := hid (IA.at [0] (show wp.heap[bm + 1]? = some _ by rw [← Hsm.out, hwp]; exact new_row _ _) (by simp))
  have Xa := hid (row_on hal Xa.out)
  have Xb := hid (row_on hal Xb.out)
  have HLa := hid (HLa.out.on hal)
  have HLb := hid (HLb.out.on hal)
  have HBW := hid (up_trans HBW.out hal)
  clear hal
  go_wp2_with fail
  rw [← hwm, ← hwp]
  clear hwm hwp hbm
  refine (HR.out _).mono ?_
  rintro e w9 ⟨rfl, hb⟩
  have HP := hid (HP.out.on hb)
  have Xa := hid (row_on hb Xa.out)
  have Xb := hid (row_on hb Xb.out)
  have HLa := hid (HLa.out.on hb)
  have HLb := hid (HLb.out.on hb)
  have HBW := hid (up_trans HBW.out hb)
  clear hb
  have V9b := hid (show IA w9 (.slice adb0 f0.length capb0) f0 from (by have h := LA.get HLb.out 0 (by simp); obtain ⟨fv, g0, g1, g2⟩ := h; have e := g1.symm.trans (show w9.cell? ⟨bm, 0 * 2 + 1, none⟩ = _ from (cell_of_row Xb.out).trans rfl); injection e with e; subst e; exact g2))
  have V9a := hid (show IA w9 (.slice ada0 f0.length capa0) f0 from (by have h := LA.get HLa.out 0 (by simp); obtain ⟨fv, g0, g1, g2⟩ := h; have e := g1.symm.trans (show w9.cell? ⟨bl, 0 * 2 + 1, none⟩ = _ from (cell_of_row Xa.out).trans rfl); injection e with e; subst e; exact g2))
  have X9a := Xa
  have X9b := Xb
  have HB9 := HBW
  have HD := hid (made_any (p := p) 0 (refM n) _ _ _ _ w9 (by decide) HP.out HLa.out (HT.out.on HBW.out) (by intro q hq; simp at hq; subst hq; simp) trivial HRR.out)
  rw [show doO 0 (madeO 0 (refM n) (List.map (fun (q : Int) => [(⟨k0, f0⟩ : Val), ⟨k1, f1⟩, ⟨k2, f2⟩].getD q.toNat nilVal) [0])) = some ⟨k0, f0⟩ from rfl] at HD
  go_wp2_with fail
  refine HD.out.mono ?_
  rintro e wd ⟨hb, hr⟩
  obtain ⟨v, rfl, hv⟩ := hr
  have Xa := hid (row_on hb Xa.out)
  have Xb := hid (row_on hb Xb.out)
  have HLa := hid (HLa.out.on hb)
  have HLb := hid (HLb.out.on hb)
  have HBW := hid (up_trans HBW.out hb)
  obtain ⟨fv, rfl, hf⟩ := hv
  obtain ⟨adv, capv, rfl, _⟩ := hf.ia.shape
  dsimp only at hf ⊢
  have HF := hid hf
  have h9d := hid hb
  clear hb hf HD HP
  obtain ⟨wx, hwx⟩ : ∃ wx, wx = wd.alloc (.cells #[.int .i64 k0, .slice adv f0.length capv] 24) := ⟨_, rfl⟩
  have hal := up_alloc wd (.cells #[.int .i64 k0, .slice adv f0.length capv] 24)
  rw [← hwx] at hal
  have Xv := hid (show wx.heap[wd.heap.size]? = some (.cells #[.int .i64 k0, .slice adv f0.length capv] 24 (0, 0)) by rw [hwx]; exact new_row _ _)
  have Xa := hid (row_on hal Xa.out)
  have Xb := hid (row_on hal Xb.out)
  have HLa := hid (HLa.out.on hal)
  have HLb := hid (HLb.out.on hal)
  have HBW := hid (up_trans HBW.out hal)
  have HFd := HF
  have HF := hid (HF.out.on hal)
  have hdx : wd.heap.size < wx.heap.size := by rw [hwx]; simp
  have Hdx := hid hal
  have H9x := hid (up_trans h9d.out hal)
  go_wp2
  rw [← hwx]
  clear hwx hal
  have x0 : wx.cell? ⟨bl, 0, none⟩ = some (.int .i64 k0) := by rw [cell_of_row Xa.out]; rfl
  have x1 : wx.cell? ⟨bl, 1, none⟩ = some (.slice ada0 f0.length capa0) := by rw [cell_of_row Xa.out]; rfl
  have x2 : wx.cell? ⟨bm, 0, none⟩ = some (.int .i64 k0) := by rw [cell_of_row Xb.out]; rfl
  have x3 : wx.cell? ⟨bm, 1, none⟩ = some (.slice adb0 f0.length capb0) := by rw [cell_of_row Xb.out]; rfl
  have xl := lt_of_cell x0
  have xm := lt_of_cell x2
  dsimp only at xl xm
  have x4 : wx.cell? ⟨wd.heap.size, 0, none⟩ = some (.int .i64 k0) := by rw [cell_of_row Xv.out]; rfl
  have x5 : wx.cell? ⟨wd.heap.size, 1, none⟩ = some (.slice adv f0.length capv) := by rw [cell_of_row Xv.out]; rfl
  have Vb := hid (V9b.out.on H9x.out)
  have HC := hid fun (s : Ci.Ext wx) => rcmp_any ⟨k0, f0⟩ ⟨k0, f0⟩ (.agg #[.int .i64 k0, .slice adv f0.length capv]) (.agg #[.int .i64 k0, .slice adb0 f0.length capb0]) s.out ⟨_, rfl, HF.out.ia.on s.below⟩ ⟨_, rfl, Vb.out.on s.below⟩
  rw [cmpV_self] at HC
  refine Ci.wp_region_ext2 (by kernel_rfl) (by kernel_rfl) (fun hne hcell => ?_)
  repeat (go_big_quiet_step ((go_at_call 14; exact (HC.out _).mono (fun e w' h => ⟨h.1, Ci.Ext.to _ h.2⟩))))
  refine wpQuiet_nil ?_
  rintro _ ⟨s, rfl⟩
  have HBs := hid s.below
  clear hne hcell HC
  generalize s.out = ws at *
  have HBW := hid (up_trans HBW.out HBs.out)
  have Xv := hid (row_on HBs.out Xv.out)
  have HF := hid (HF.out.on HBs.out)
  have Hn := hid (up_trans H9x.out HBs.out)
  have Hds := hid (up_trans Hdx.out HBs.out)
  clear Hdx
  have hbvs : wd.heap.size < ws.heap.size := (Array.getElem?_eq_some_iff.1 Xv.out).1
  clear x0 x1 x2 x3 x4 x5 xl xm HLa HLb HBs hdx Xa Xb Vb H9x h9d
  go_upto_block 0 with fail
  go_cut [] from 62 (fun wc => Hid (Below w9.heap.size w9 wc))
  case first =>
    go_wp2
    by_cases hz : f0 = []
    case pos =>
      subst hz
      have x5 : ws.cell? ⟨wd.heap.size, 1, none⟩ = some (.slice adv 0 capv) := by rw [cell_of_row Xv.out]; rfl
      go_loop [12] (fun v12 => v12 = .int .i64 0) (fun _ => 0)
      case atStart => exact rfl
      case round =>
        obtain rfl := hrel
        go_wp2
        go_meet
        case rel => exact Hn
    case neg =>
      obtain ⟨g, cs, t, cap', e, hg9, hrow, hcs⟩ := na_row HFd.out hz
      injection e with e1 e2 e3
      subst e1 e3
      have hgv : g ≠ wd.heap.size := Nat.ne_of_lt (Array.getElem?_eq_some_iff.1 hrow).1
      have HROW := hid (row_on Hds.out hrow)
      have HXV := Xv
      clear hrow Xv HFd Hds
      go_loopw [12] (fun v12 wr => ∃ j : Nat, j ≤ f0.length ∧ v12 = .int .i64 j ∧ Hid (Below w9.heap.size w9 wr) ∧ Hid (wr.heap[wd.heap.size]? = some (.cells #[.int .i64 k0, .slice (some ⟨g, 0, none⟩) f0.length capv] 24 (0, 0))) ∧ Hid (∃ cs, wr.heap[g]? = some (.cells cs t (0, 0)) ∧ f0.length ≤ cs.size)) (fun v12 _ => f0.length - (intOf v12).toNat)
      case atStart => exact ⟨0, by omega, rfl, Hn, HXV, hid ⟨cs, HROW.out, hcs⟩⟩
      case round =>
        obtain ⟨j, hj, rfl, HBr, HVr, HCr⟩ := hrel
        obtain ⟨cs2, HR2', hc2⟩ := HCr.out
        have HR2 := hid HR2'
        clear HR2'
        have x5 : wr.cell? ⟨wd.heap.size, 1, none⟩ = some (.slice (some ⟨g, 0, none⟩) f0.length capv) := by rw [cell_of_row HVr.out]; rfl
        by_cases hlt : j < f0.length
        case pos =>
          have hlt2 : (j : Int) < (f0.length : Int) := by omega
          obtain ⟨z, hz2⟩ : ∃ z, cs2[j]? = some z := ⟨_, Array.getElem?_eq_getElem (show j < cs2.size by omega)⟩
          have y0 : wr.cell? ⟨g, j, none⟩ = some z := by rw [cell_of_row HR2.out]; exact hz2
          have y1 : wr.frozen? ⟨g, j, none⟩ = false := frozen_of_row HR2.out
          have HV3 := hid ((heap_setCell_other wr ⟨g, j, none⟩ wd.heap.size (.int .i64 by_) (Ne.symm hgv)).trans HVr.out)
          have HR3 := hid (heap_setCell_same _ _ j _ _ (.int .i64 by_) HR2.out)
          have HB3 := hid (HBr.out.setCell (p := ⟨g, j, none⟩) hg9 (.int .i64 by_))
          clear hz2 HCr
          go_wp2
          go_round
          case rel => exact ⟨j + 1, by omega, by simp, HB3, HV3, hid ⟨_, HR3.out, by simpa using hc2⟩⟩
          case measure => simp [intOf]; omega
        case neg =>
          obtain rfl : j = f0.length := by omega
          go_wp2
          go_meet
          case rel => exact HBr
  case rest =>
    have HBC := hid (up_trans HB9.out hcut.out)
    have Xa := hid (row_on hcut.out X9a.out)
    have Xb := hid (row_on hcut.out X9b.out)
    have x0 : wc.cell? ⟨bl, 0, none⟩ = some (.int .i64 k0) := by rw [cell_of_row Xa.out]; rfl
    have x1 : wc.cell? ⟨bl, 1, none⟩ = some (.slice ada0 f0.length capa0) := by rw [cell_of_row Xa.out]; rfl
    have x2 : wc.cell? ⟨bm, 0, none⟩ = some (.int .i64 k0) := by rw [cell_of_row Xb.out]; rfl
    have x3 : wc.cell? ⟨bm, 1, none⟩ = some (.slice adb0 f0.length capb0) := by rw [cell_of_row Xb.out]; rfl
    have xl := lt_of_cell x0
    have xm := lt_of_cell x2
    dsimp only at xl xm
    have HC := hid fun (s : Ci.Ext wc) => rcmp_any ⟨k0, f0⟩ ⟨k0, f0⟩ (.agg #[.int .i64 k0, .slice ada0 f0.length capa0]) (.agg #[.int .i64 k0, .slice adb0 f0.length capb0]) s.out ⟨_, rfl, (V9a.out.on hcut.out).on s.below⟩ ⟨_, rfl, (V9b.out.on hcut.out).on s.below⟩
    rw [cmpV_self] at HC
    clear Xa Xb X9a X9b V9a V9b
    go_wp2
    refine Ci.wp_region_ext2 (by kernel_rfl) (by kernel_rfl) (fun hne hcell => ?_)
    repeat (go_big_quiet_step ((go_at_call 14; exact (HC.out _).mono (fun e w' h => ⟨h.1, Ci.Ext.to _ h.2⟩))))
    refine wpQuiet_nil ?_
    rintro _ ⟨s, rfl⟩
    have HBs := hid (up_trans HBC.out s.below)
    clear hne hcell HC
    go_wp2
    go_ret
    exact ⟨rfl, HBs.out⟩

set_option maxRecDepth 8000 in
set_option maxHeartbeats 8000000 in
theorem part1 (n at_ by_ : Int) (W : World) (w0 : (Lit.int .i64 n).wf = true) (w1 : (Lit.int .i64 at_).wf = true) (hX : TabsE W) (hq : at_ % 3 = 1) : Calls Tryd.prog 5 #[.int .i64 n, .int .i64 at_, .int .i64 by_] W fun e W' => e = .returned (.bool true) ∧ Below W.heap.size W W' := by
  obtain ⟨p, hT⟩ := hX
  obtain ⟨ba, ba'⟩ := wf_bd w0
  obtain ⟨bb, bb'⟩ := wf_bd w1
  have HK := hid (known_any p W hT)
  have HT := hid hT
  have HR := hid fun w => ref_any n w ba ba'
  have HRR := hid (refM_right n)
  have H1 := hid fun w => lwithin_any n 1099511627776 w (by decide) (by decide) ba ba'
  have H2 := hid fun w => lwithin_any at_ 3 w (by decide) (by decide) bb bb'
  rw [hq] at H2
  have hx : 0 ≤ n % 1099511627776 ∧ n % 1099511627776 ≤ 1099511627775 := by omega
  generalize n % 1099511627776 = c at *
  obtain ⟨c0, c1⟩ := hx
  obtain ⟨⟨k0, f0⟩, hk0, h0⟩ := child_any c c0 (by omega)
  obtain ⟨⟨k1, f1⟩, hk1, h1⟩ := child_any (c + 1) (by omega) (by omega)
  obtain ⟨⟨k2, f2⟩, hk2, h2⟩ := child_any (c + 6) (by omega) (by omega)
  have C0 := hid h0
  have C1 := hid h1
  have C2 := hid h2
  clear hT w0 w1 ba ba' bb bb' hq h0 h1 h2 hk0 hk1 hk2
  go_enter Tryd.func5, Tryd.ntmps5
  go_wp2_with fail
  refine HK.out.mono ?_
  rintro e wa ⟨rfl, hb⟩
  have HBW := hid hb
  clear hb HK
  go_wp2_with fail
  refine (H1.out _).mono ?_
  rintro e wn ⟨rfl, hw⟩
  obtain rfl := hw.symm
  clear hw
  go_wp2_with fail
  refine (C0.out _).mono ?_
  rintro e wa0 ⟨u, rfl, hu, hb⟩
  obtain ⟨fv, rfl, hf⟩ := hu
  have Ga0 := hid hf.ia
  obtain ⟨ada0, capa0, rfl, _⟩ := hf.ia.shape
  dsimp only at Ga0 ⊢
  have HBW := hid (up_trans HBW.out hb)
  clear hf hb
  go_wp2_with fail
  refine (H1.out _).mono ?_
  rintro e wn ⟨rfl, hw⟩
  obtain rfl := hw.symm
  clear hw
  go_wp2_with fail
  refine (C1.out _).mono ?_
  rintro e wa1 ⟨u, rfl, hu, hb⟩
  obtain ⟨fv, rfl, hf⟩ := hu
  have Ga1 := hid hf.ia
  obtain ⟨ada1, capa1, rfl, _⟩ := hf.ia.shape
  dsimp only at Ga1 ⊢
  have HBW := hid (up_trans HBW.out hb)
  have Ga0 := hid (Ga0.out.on hb)
  clear hf hb
  go_wp2_with fail
  refine (H1.out _).mono ?_
  rintro e wn ⟨rfl, hw⟩
  obtain rfl := hw.symm
  clear hw
  go_wp2_with fail
  refine (C2.out _).mono ?_
  rintro e wa2 ⟨u, rfl, hu, hb⟩
  obtain ⟨fv, rfl, hf⟩ := hu
  have Ga2 := hid hf.ia
  obtain ⟨ada2, capa2, rfl, _⟩ := hf.ia.shape
  dsimp only at Ga2 ⊢
  have HBW := hid (up_trans HBW.out hb)
  have Ga0 := hid (Ga0.out.on hb)
  have Ga1 := hid (Ga1.out.on hb)
  clear hf hb
  obtain ⟨wl, hwl⟩ : ∃ wl, wl = wa2.alloc (.cells #[.int .i64 k0, .slice ada0 f0.length capa0, .int .i64 k1, .slice ada1 f1.length capa1, .int .i64 k2, .slice ada2 f2.length capa2] 24) := ⟨_, rfl⟩
  have hal := up_alloc wa2 (.cells #[.int .i64 k0, .slice ada0 f0.length capa0, .int .i64 k1, .slice ada1 f1.length capa1, .int .i64 k2, .slice ada2 f2.length capa2] 24)
  rw [← hwl] at hal
  have Xa := hid (show wl.heap[wa2.heap.size]? = some (.cells #[.int .i64 k0, .slice ada0 f0.length capa0, .int .i64 k1, .slice ada1 f1.length capa1, .int .i64 k2, .slice ada2 f2.length capa2] 24 (0, 0)) by rw [hwl]; exact new_row _ _)
  have HLa := hid (LA.three Xa.out (Ga0.out.on hal) (Ga1.out.on hal) (Ga2.out.on hal))
  have HBW := hid (up_trans HBW.out hal)
  generalize hbl : wa2.heap.size = bl at *
  go_wp2_with fail
  rw [← hwl]
  clear hwl hal hbl Ga0 Ga1 Ga2
  refine (H2.out _).mono ?_
  rintro e wn ⟨rfl, hw⟩
  obtain rfl := hw.symm
  clear hw
  go_wp2_with fail
  refine (H1.out _).mono ?_
  rintro e wn ⟨rfl, hw⟩
  obtain rfl := hw.symm
  clear hw
  go_wp2_with fail
  refine (C0.out _).mono ?_
  rintro e wb0 ⟨u, rfl, hu, hb⟩
  obtain ⟨fv, rfl, hf⟩ := hu
  have Gb0 := hid hf.ia
  obtain ⟨adb0, capb0, rfl, _⟩ := hf.ia.shape
  dsimp only at Gb0 ⊢
  have HBW := hid (up_trans HBW.out hb)
  have HLa := hid (HLa.out.on hb)
  have Xa := hid (row_on hb Xa.out)
  clear hf hb
  go_wp2_with fail
  refine (H1.out _).mono ?_
  rintro e wn ⟨rfl, hw⟩
  obtain rfl := hw.symm
  clear hw
  go_wp2_with fail
  refine (C1.out _).mono ?_
  rintro e wb1 ⟨u, rfl, hu, hb⟩
  obtain ⟨fv, rfl, hf⟩ := hu
  have Gb1 := hid hf.ia
  obtain ⟨adb1, capb1, rfl, _⟩ := hf.ia.shape
  dsimp only at Gb1 ⊢
  have HBW := hid (up_trans HBW.out hb)
  have Gb0 := hid (Gb0.out.on hb)
  have HLa := hid (HLa.out.on hb)
  have Xa := hid (row_on hb Xa.out)
  clear hf hb
  go_wp2_with fail
  refine (H1.out _).mono ?_
  rintro e wn ⟨rfl, hw⟩
  obtain rfl := hw.symm
  clear hw
  go_wp2_with fail
  refine (C2.out _).mono ?_
  rintro e wb2 ⟨u, rfl, hu, hb⟩
  obtain ⟨fv, rfl, hf⟩ := hu
  have Gb2 := hid hf.ia
  obtain ⟨adb2, capb2, rfl, _⟩ := hf.ia.shape
  dsimp only at Gb2 ⊢
  have HBW := hid (up_trans HBW.out hb)
  have Gb0 := hid (Gb0.out.on hb)
  have Gb1 := hid (Gb1.out.on hb)
  have HLa := hid (HLa.out.on hb)
  have Xa := hid (row_on hb Xa.out)
  clear hf hb
  obtain ⟨wm, hwm⟩ : ∃ wm, wm = wb2.alloc (.cells #[.int .i64 k0, .slice adb0 f0.length capb0, .int .i64 k1, .slice adb1 f1.length capb1, .int .i64 k2, .slice adb2 f2.length capb2] 24) := ⟨_, rfl⟩
  have hal := up_alloc wb2 (.cells #[.int .i64 k0, .slice adb0 f0.length capb0, .int .i64 k1, .slice adb1 f1.length capb1, .int .i64 k2, .slice adb2 f2.length capb2] 24)
  rw [← hwm] at hal
  have Xb := hid (show wm.heap[wb2.heap.size]? = some (.cells #[.int .i64 k0, .slice adb0 f0.length capb0, .int .i64 k1, .slice adb1 f1.length capb1, .int .i64 k2, .slice adb2 f2.length capb2] 24 (0, 0)) by rw [hwm]; exact new_row _ _)
  have Xa := hid (row_on hal Xa.out)
  have HLa := hid (HLa.out.on hal)
  have HLb := hid (LA.three Xb.out (Gb0.out.on hal) (Gb1.out.on hal) (Gb2.out.on hal))
  have HBW := hid (up_trans HBW.out hal)
  have hsm : wm.heap.size = wb2.heap.size + 1 := by rw [hwm]; simp
  generalize hbm : wb2.heap.size = bm at *
  have Hsm := hid hsm
  clear hsm
  clear hal Gb0 Gb1 Gb2
  obtain ⟨wp, hwp⟩ : ∃ wp, wp = wm.alloc (.cells #[.int .i64 (1)] 3) := ⟨_, rfl⟩
  have hal := up_alloc wm (.cells #[.int .i64 (1)] 3)
  rw [← hwp] at hal
  have HP := hid (IA.at [1] (show wp.heap[bm + 1]? = some _ by rw [← Hsm.out, hwp]; exact new_row _ _) (by simp))
  have Xa := hid (row_on hal Xa.out)
  have Xb := hid (row_on hal Xb.out)
  have HLa := hid (HLa.out.on hal)
  have HLb := hid (HLb.out.on hal)
  have HBW := hid (up_trans HBW.out hal)
  clear hal
  go_wp2_with fail
  rw [← hwm, ← hwp]
  clear hwm hwp hbm
  refine (HR.out _).mono ?_
  rintro e w9 ⟨rfl, hb⟩
  have HP := hid (HP.out.on hb)
  have Xa := hid (row_on hb Xa.out)
  have Xb := hid (row_on hb Xb.out)
  have HLa := hid (HLa.out.on hb)
  have HLb := hid (HLb.out.on hb)
  have HBW := hid (up_trans HBW.out hb)
  clear hb
  have V9b := hid (show IA w9 (.slice adb1 f1.length capb1) f1 from (by have h := LA.get HLb.out 1 (by simp); obtain ⟨fv, g0, g1, g2⟩ := h; have e := g1.symm.trans (show w9.cell? ⟨bm, 1 * 2 + 1, none⟩ = _ from (cell_of_row Xb.out).trans rfl); injection e with e; subst e; exact g2))
  have V9a := hid (show IA w9 (.slice ada1 f1.length capa1) f1 from (by have h := LA.get HLa.out 1 (by simp); obtain ⟨fv, g0, g1, g2⟩ := h; have e := g1.symm.trans (show w9.cell? ⟨bl, 1 * 2 + 1, none⟩ = _ from (cell_of_row Xa.out).trans rfl); injection e with e; subst e; exact g2))
  have X9a := Xa
  have X9b := Xb
  have HB9 := HBW
  have HD := hid (made_any (p := p) 0 (refM n) _ _ _ _ w9 (by decide) HP.out HLa.out (HT.out.on HBW.out) (by intro q hq; simp at hq; subst hq; simp) trivial HRR.out)
  rw [show doO 0 (madeO 0 (refM n) (List.map (fun (q : Int) => [(⟨k0, f0⟩ : Val), ⟨k1, f1⟩, ⟨k2, f2⟩].getD q.toNat nilVal) [1])) = some ⟨k1, f1⟩ from rfl] at HD
  go_wp2_with fail
  refine HD.out.mono ?_
  rintro e wd ⟨hb, hr⟩
  obtain ⟨v, rfl, hv⟩ := hr
  have Xa := hid (row_on hb Xa.out)
  have Xb := hid (row_on hb Xb.out)
  have HLa := hid (HLa.out.on hb)
  have HLb := hid (HLb.out.on hb)
  have HBW := hid (up_trans HBW.out hb)
  obtain ⟨fv, rfl, hf⟩ := hv
  obtain ⟨adv, capv, rfl, _⟩ := hf.ia.shape
  dsimp only at hf ⊢
  have HF := hid hf
  have h9d := hid hb
  clear hb hf HD HP
  obtain ⟨wx, hwx⟩ : ∃ wx, wx = wd.alloc (.cells #[.int .i64 k1, .slice adv f1.length capv] 24) := ⟨_, rfl⟩
  have hal := up_alloc wd (.cells #[.int .i64 k1, .slice adv f1.length capv] 24)
  rw [← hwx] at hal
  have Xv := hid (show wx.heap[wd.heap.size]? = some (.cells #[.int .i64 k1, .slice adv f1.length capv] 24 (0, 0)) by rw [hwx]; exact new_row _ _)
  have Xa := hid (row_on hal Xa.out)
  have Xb := hid (row_on hal Xb.out)
  have HLa := hid (HLa.out.on hal)
  have HLb := hid (HLb.out.on hal)
  have HBW := hid (up_trans HBW.out hal)
  have HFd := HF
  have HF := hid (HF.out.on hal)
  have hdx : wd.heap.size < wx.heap.size := by rw [hwx]; simp
  have Hdx := hid hal
  have H9x := hid (up_trans h9d.out hal)
  go_wp2
  rw [← hwx]
  clear hwx hal
  have x0 : wx.cell? ⟨bl, 2, none⟩ = some (.int .i64 k1) := by rw [cell_of_row Xa.out]; rfl
  have x1 : wx.cell? ⟨bl, 3, none⟩ = some (.slice ada1 f1.length capa1) := by rw [cell_of_row Xa.out]; rfl
  have x2 : wx.cell? ⟨bm, 2, none⟩ = some (.int .i64 k1) := by rw [cell_of_row Xb.out]; rfl
  have x3 : wx.cell? ⟨bm, 3, none⟩ = some (.slice adb1 f1.length capb1) := by rw [cell_of_row Xb.out]; rfl
  have xl := lt_of_cell x0
  have xm := lt_of_cell x2
  dsimp only at xl xm
  have x4 : wx.cell? ⟨wd.heap.size, 0, none⟩ = some (.int .i64 k1) := by rw [cell_of_row Xv.out]; rfl
  have x5 : wx.cell? ⟨wd.heap.size, 1, none⟩ = some (.slice adv f1.length capv) := by rw [cell_of_row Xv.out]; rfl
  have Vb := hid (V9b.out.on H9x.out)
  have HC := hid fun (s : Ci.Ext wx) => rcmp_any ⟨k1, f1⟩ ⟨k1, f1⟩ (.agg #[.int .i64 k1, .slice adv f1.length capv]) (.agg #[.int .i64 k1, .slice adb1 f1.length capb1]) s.out ⟨_, rfl, HF.out.ia.on s.below⟩ ⟨_, rfl, Vb.out.on s.below⟩
  rw [cmpV_self] at HC
  refine Ci.wp_region_ext2 (by kernel_rfl) (by kernel_rfl) (fun hne hcell => ?_)
  repeat (go_big_quiet_step ((go_at_call 14; exact (HC.out _).mono (fun e w' h => ⟨h.1, Ci.Ext.to _ h.2⟩))))
  refine wpQuiet_nil ?_
  rintro _ ⟨s, rfl⟩
  have HBs := hid s.below
  clear hne hcell HC
  generalize s.out = ws at *
  have HBW := hid (up_trans HBW.out HBs.out)
  have Xv := hid (row_on HBs.out Xv.out)
  have HF := hid (HF.out.on HBs.out)
  have Hn := hid (up_trans H9x.out HBs.out)
  have Hds := hid (up_trans Hdx.out HBs.out)
  clear Hdx
  have hbvs : wd.heap.size < ws.heap.size := (Array.getElem?_eq_some_iff.1 Xv.out).1
  clear x0 x1 x2 x3 x4 x5 xl xm HLa HLb HBs hdx Xa Xb Vb H9x h9d
  go_upto_block 0 with fail
  go_cut [] from 62 (fun wc => Hid (Below w9.heap.size w9 wc))
  case first =>
    go_wp2
    by_cases hz : f1 = []
    case pos =>
      subst hz
      have x5 : ws.cell? ⟨wd.heap.size, 1, none⟩ = some (.slice adv 0 capv) := by rw [cell_of_row Xv.out]; rfl
      go_loop [12] (fun v12 => v12 = .int .i64 0) (fun _ => 0)
      case atStart => exact rfl
      case round =>
        obtain rfl := hrel
        go_wp2
        go_meet
        case rel => exact Hn
    case neg =>
      obtain ⟨g, cs, t, cap', e, hg9, hrow, hcs⟩ := na_row HFd.out hz
      injection e with e1 e2 e3
      subst e1 e3
      have hgv : g ≠ wd.heap.size := Nat.ne_of_lt (Array.getElem?_eq_some_iff.1 hrow).1
      have HROW := hid (row_on Hds.out hrow)
      have HXV := Xv
      clear hrow Xv HFd Hds
      go_loopw [12] (fun v12 wr => ∃ j : Nat, j ≤ f1.length ∧ v12 = .int .i64 j ∧ Hid (Below w9.heap.size w9 wr) ∧ Hid (wr.heap[wd.heap.size]? = some (.cells #[.int .i64 k1, .slice (some ⟨g, 0, none⟩) f1.length capv] 24 (0, 0))) ∧ Hid (∃ cs, wr.heap[g]? = some (.cells cs t (0, 0)) ∧ f1.length ≤ cs.size)) (fun v12 _ => f1.length - (intOf v12).toNat)
      case atStart => exact ⟨0, by omega, rfl, Hn, HXV, hid ⟨cs, HROW.out, hcs⟩⟩
      case round =>
        obtain ⟨j, hj, rfl, HBr, HVr, HCr⟩ := hrel
        obtain ⟨cs2, HR2', hc2⟩ := HCr.out
        have HR2 := hid HR2'
        clear HR2'
        have x5 : wr.cell? ⟨wd.heap.size, 1, none⟩ = some (.slice (some ⟨g, 0, none⟩) f1.length capv) := by rw [cell_of_row HVr.out]; rfl
        by_cases hlt : j < f1.length
        case pos =>
          have hlt2 : (j : Int) < (f1.length : Int) := by omega
          obtain ⟨z, hz2⟩ : ∃ z, cs2[j]? = some z := ⟨_, Array.getElem?_eq_getElem (show j < cs2.size by omega)⟩
          have y0 : wr.cell? ⟨g, j, none⟩ = some z := by rw [cell_of_row HR2.out]; exact hz2
          have y1 : wr.frozen? ⟨g, j, none⟩ = false := frozen_of_row HR2.out
          have HV3 := hid ((heap_setCell_other wr ⟨g, j, none⟩ wd.heap.size (.int .i64 by_) (Ne.symm hgv)).trans HVr.out)
          have HR3 := hid (heap_setCell_same _ _ j _ _ (.int .i64 by_) HR2.out)
          have HB3 := hid (HBr.out.setCell (p := ⟨g, j, none⟩) hg9 (.int .i64 by_))
          clear hz2 HCr
          go_wp2
          go_round
          case rel => exact ⟨j + 1, by omega, by simp, HB3, HV3, hid ⟨_, HR3.out, by simpa using hc2⟩⟩
          case measure => simp [intOf]; omega
        case neg =>
          obtain rfl : j = f1.length := by omega
          go_wp2
          go_meet
          case rel => exact HBr
  case rest =>
    have HBC := hid (up_trans HB9.out hcut.out)
    have Xa := hid (row_on hcut.out X9a.out)
    have Xb := hid (row_on hcut.out X9b.out)
    have x0 : wc.cell? ⟨bl, 2, none⟩ = some (.int .i64 k1) := by rw [cell_of_row Xa.out]; rfl
    have x1 : wc.cell? ⟨bl, 3, none⟩ = some (.slice ada1 f1.length capa1) := by rw [cell_of_row Xa.out]; rfl
    have x2 : wc.cell? ⟨bm, 2, none⟩ = some (.int .i64 k1) := by rw [cell_of_row Xb.out]; rfl
    have x3 : wc.cell? ⟨bm, 3, none⟩ = some (.slice adb1 f1.length capb1) := by rw [cell_of_row Xb.out]; rfl
    have xl := lt_of_cell x0
    have xm := lt_of_cell x2
    dsimp only at xl xm
    have HC := hid fun (s : Ci.Ext wc) => rcmp_any ⟨k1, f1⟩ ⟨k1, f1⟩ (.agg #[.int .i64 k1, .slice ada1 f1.length capa1]) (.agg #[.int .i64 k1, .slice adb1 f1.length capb1]) s.out ⟨_, rfl, (V9a.out.on hcut.out).on s.below⟩ ⟨_, rfl, (V9b.out.on hcut.out).on s.below⟩
    rw [cmpV_self] at HC
    clear Xa Xb X9a X9b V9a V9b
    go_wp2
    refine Ci.wp_region_ext2 (by kernel_rfl) (by kernel_rfl) (fun hne hcell => ?_)
    repeat (go_big_quiet_step ((go_at_call 14; exact (HC.out _).mono (fun e w' h => ⟨h.1, Ci.Ext.to _ h.2⟩))))
    refine wpQuiet_nil ?_
    rintro _ ⟨s, rfl⟩
    have HBs := hid (up_trans HBC.out s.below)
    clear hne hcell HC
    go_wp2
    go_ret
    exact ⟨rfl, HBs.out⟩

set_option maxRecDepth 8000 in
set_option maxHeartbeats 8000000 in
theorem part2 (n at_ by_ : Int) (W : World) (w0 : (Lit.int .i64 n).wf = true) (w1 : (Lit.int .i64 at_).wf = true) (hX : TabsE W) (hq : at_ % 3 = 2) : Calls Tryd.prog 5 #[.int .i64 n, .int .i64 at_, .int .i64 by_] W fun e W' => e = .returned (.bool true) ∧ Below W.heap.size W W' := by
  obtain ⟨p, hT⟩ := hX
  obtain ⟨ba, ba'⟩ := wf_bd w0
  obtain ⟨bb, bb'⟩ := wf_bd w1
  have HK := hid (known_any p W hT)
  have HT := hid hT
  have HR := hid fun w => ref_any n w ba ba'
  have HRR := hid (refM_right n)
  have H1 := hid fun w => lwithin_any n 1099511627776 w (by decide) (by decide) ba ba'
  have H2 := hid fun w => lwithin_any at_ 3 w (by decide) (by decide) bb bb'
  rw [hq] at H2
  have hx : 0 ≤ n % 1099511627776 ∧ n % 1099511627776 ≤ 1099511627775 := by omega
  generalize n % 1099511627776 = c at *
  obtain ⟨c0, c1⟩ := hx
  obtain ⟨⟨k0, f0⟩, hk0, h0⟩ := child_any c c0 (by omega)
  obtain ⟨⟨k1, f1⟩, hk1, h1⟩ := child_any (c + 1) (by omega) (by omega)
  obtain ⟨⟨k2, f2⟩, hk2, h2⟩ := child_any (c + 6) (by omega) (by omega)
  have C0 := hid h0
  have C1 := hid h1
  have C2 := hid h2
  clear hT w0 w1 ba ba' bb bb' hq h0 h1 h2 hk0 hk1 hk2
  go_enter Tryd.func5, Tryd.ntmps5
  go_wp2_with fail
  refine HK.out.mono ?_
  rintro e wa ⟨rfl, hb⟩
  have HBW := hid hb
  clear hb HK
  go_wp2_with fail
  refine (H1.out _).mono ?_
  rintro e wn ⟨rfl, hw⟩
  obtain rfl := hw.symm
  clear hw
  go_wp2_with fail
  refine (C0.out _).mono ?_
  rintro e wa0 ⟨u, rfl, hu, hb⟩
  obtain ⟨fv, rfl, hf⟩ := hu
  have Ga0 := hid hf.ia
  obtain ⟨ada0, capa0, rfl, _⟩ := hf.ia.shape
  dsimp only at Ga0 ⊢
  have HBW := hid (up_trans HBW.out hb)
  clear hf hb
  go_wp2_with fail
  refine (H1.out _).mono ?_
  rintro e wn ⟨rfl, hw⟩
  obtain rfl := hw.symm
  clear hw
  go_wp2_with fail
  refine (C1.out _).mono ?_
  rintro e wa1 ⟨u, rfl, hu, hb⟩
  obtain ⟨fv, rfl, hf⟩ := hu
  have Ga1 := hid hf.ia
  obtain ⟨ada1, capa1, rfl, _⟩ := hf.ia.shape
  dsimp only at Ga1 ⊢
  have HBW := hid (up_trans HBW.out hb)
  have Ga0 := hid (Ga0.out.on hb)
  clear hf hb
  go_wp2_with fail
  refine (H1.out _).mono ?_
  rintro e wn ⟨rfl, hw⟩
  obtain rfl := hw.symm
  clear hw
  go_wp2_with fail
  refine (C2.out _).mono ?_
  rintro e wa2 ⟨u, rfl, hu, hb⟩
  obtain ⟨fv, rfl, hf⟩ := hu
  have Ga2 := hid hf.ia
  obtain ⟨ada2, capa2, rfl, _⟩ := hf.ia.shape
  dsimp only at Ga2 ⊢
  have HBW := hid (up_trans HBW.out hb)
  have Ga0 := hid (Ga0.out.on hb)
  have Ga1 := hid (Ga1.out.on hb)
  clear hf hb
  obtain ⟨wl, hwl⟩ : ∃ wl, wl = wa2.alloc (.cells #[.int .i64 k0, .slice ada0 f0.length capa0, .int .i64 k1, .slice ada1 f1.length capa1, .int .i64 k2, .slice ada2 f2.length capa2] 24) := ⟨_, rfl⟩
  have hal := up_alloc wa2 (.cells #[.int .i64 k0, .slice ada0 f0.length capa0, .int .i64 k1, .slice ada1 f1.length capa1, .int .i64 k2, .slice ada2 f2.length capa2] 24)
  rw [← hwl] at hal
  have Xa := hid (show wl.heap[wa2.heap.size]? = some (.cells #[.int .i64 k0, .slice ada0 f0.length capa0, .int .i64 k1, .slice ada1 f1.length capa1, .int .i64 k2, .slice ada2 f2.length capa2] 24 (0, 0)) by rw [hwl]; exact new_row _ _)
  have HLa := hid (LA.three Xa.out (Ga0.out.on hal) (Ga1.out.on hal) (Ga2.out.on hal))
  have HBW := hid (up_trans HBW.out hal)
  generalize hbl : wa2.heap.size = bl at *
  go_wp2_with fail
  rw [← hwl]
  clear hwl hal hbl Ga0 Ga1 Ga2
  refine (H2.out _).mono ?_
  rintro e wn ⟨rfl, hw⟩
  obtain rfl := hw.symm
  clear hw
  go_wp2_with fail
  refine (H1.out _).mono ?_
  rintro e wn ⟨rfl, hw⟩
  obtain rfl := hw.symm
  clear hw
  go_wp2_with fail
  refine (C0.out _).mono ?_
  rintro e wb0 ⟨u, rfl, hu, hb⟩
  obtain ⟨fv, rfl, hf⟩ := hu
  have Gb0 := hid hf.ia
  obtain ⟨adb0, capb0, rfl, _⟩ := hf.ia.shape
  dsimp only at Gb0 ⊢
  have HBW := hid (up_trans HBW.out hb)
  have HLa := hid (HLa.out.on hb)
  have Xa := hid (row_on hb Xa.out)
  clear hf hb
  go_wp2_with fail
  refine (H1.out _).mono ?_
  rintro e wn ⟨rfl, hw⟩
  obtain rfl := hw.symm
  clear hw
  go_wp2_with fail
  refine (C1.out _).mono ?_
  rintro e wb1 ⟨u, rfl, hu, hb⟩
  obtain ⟨fv, rfl, hf⟩ := hu
  have Gb1 := hid hf.ia
  obtain ⟨adb1, capb1, rfl, _⟩ := hf.ia.shape
  dsimp only at Gb1 ⊢
  have HBW := hid (up_trans HBW.out hb)
  have Gb0 := hid (Gb0.out.on hb)
  have HLa := hid (HLa.out.on hb)
  have Xa := hid (row_on hb Xa.out)
  clear hf hb
  go_wp2_with fail
  refine (H1.out _).mono ?_
  rintro e wn ⟨rfl, hw⟩
  obtain rfl := hw.symm
  clear hw
  go_wp2_with fail
  refine (C2.out _).mono ?_
  rintro e wb2 ⟨u, rfl, hu, hb⟩
  obtain ⟨fv, rfl, hf⟩ := hu
  have Gb2 := hid hf.ia
  obtain ⟨adb2, capb2, rfl, _⟩ := hf.ia.shape
  dsimp only at Gb2 ⊢
  have HBW := hid (up_trans HBW.out hb)
  have Gb0 := hid (Gb0.out.on hb)
  have Gb1 := hid (Gb1.out.on hb)
  have HLa := hid (HLa.out.on hb)
  have Xa := hid (row_on hb Xa.out)
  clear hf hb
  obtain ⟨wm, hwm⟩ : ∃ wm, wm = wb2.alloc (.cells #[.int .i64 k0, .slice adb0 f0.length capb0, .int .i64 k1, .slice adb1 f1.length capb1, .int .i64 k2, .slice adb2 f2.length capb2] 24) := ⟨_, rfl⟩
  have hal := up_alloc wb2 (.cells #[.int .i64 k0, .slice adb0 f0.length capb0, .int .i64 k1, .slice adb1 f1.length capb1, .int .i64 k2, .slice adb2 f2.length capb2] 24)
  rw [← hwm] at hal
  have Xb := hid (show wm.heap[wb2.heap.size]? = some (.cells #[.int .i64 k0, .slice adb0 f0.length capb0, .int .i64 k1, .slice adb1 f1.length capb1, .int .i64 k2, .slice adb2 f2.length capb2] 24 (0, 0)) by rw [hwm]; exact new_row _ _)
  have Xa := hid (row_on hal Xa.out)
  have HLa := hid (HLa.out.on hal)
  have HLb := hid (LA.three Xb.out (Gb0.out.on hal) (Gb1.out.on hal) (Gb2.out.on hal))
  have HBW := hid (up_trans HBW.out hal)
  have hsm : wm.heap.size = wb2.heap.size + 1 := by rw [hwm]; simp
  generalize hbm : wb2.heap.size = bm at *
  have Hsm := hid hsm
  clear hsm
  clear hal Gb0 Gb1 Gb2
  obtain ⟨wp, hwp⟩ : ∃ wp, wp = wm.alloc (.cells #[.int .i64 (2)] 3) := ⟨_, rfl⟩
  have hal := up_alloc wm (.cells #[.int .i64 (2)] 3)
  rw [← hwp] at hal
  have HP := hid (IA.at [2] (show wp.heap[bm + 1]? = some _ by rw [← Hsm.out, hwp]; exact new_row _ _) (by simp))
  have Xa := hid (row_on hal Xa.out)
  have Xb := hid (row_on hal Xb.out)
  have HLa := hid (HLa.out.on hal)
  have HLb := hid (HLb.out.on hal)
  have HBW := hid (up_trans HBW.out hal)
  clear hal
  go_wp2_with fail
  rw [← hwm, ← hwp]
  clear hwm hwp hbm
  refine (HR.out _).mono ?_
  rintro e w9 ⟨rfl, hb⟩
  have HP := hid (HP.out.on hb)
  have Xa := hid (row_on hb Xa.out)
  have Xb := hid (row_on hb Xb.out)
  have HLa := hid (HLa.out.on hb)
  have HLb := hid (HLb.out.on hb)
  have HBW := hid (up_trans HBW.out hb)
  clear hb
  have V9b := hid (show IA w9 (.slice adb2 f2.length capb2) f2 from (by have h := LA.get HLb.out 2 (by simp); obtain ⟨fv, g0, g1, g2⟩ := h; have e := g1.symm.trans (show w9.cell? ⟨bm, 2 * 2 + 1, none⟩ = _ from (cell_of_row Xb.out).trans rfl); injection e with e; subst e; exact g2))
  have V9a := hid (show IA w9 (.slice ada2 f2.length capa2) f2 from (by have h := LA.get HLa.out 2 (by simp); obtain ⟨fv, g0, g1, g2⟩ := h; have e := g1.symm.trans (show w9.cell? ⟨bl, 2 * 2 + 1, none⟩ = _ from (cell_of_row Xa.out).trans rfl); injection e with e; subst e; exact g2))
  have X9a := Xa
  have X9b := Xb
  have HB9 := HBW
  have HD := hid (made_any (p := p) 0 (refM n) _ _ _ _ w9 (by decide) HP.out HLa.out (HT.out.on HBW.out) (by intro q hq; simp at hq; subst hq; simp) trivial HRR.out)
  rw [show doO 0 (madeO 0 (refM n) (List.map (fun (q : Int) => [(⟨k0, f0⟩ : Val), ⟨k1, f1⟩, ⟨k2, f2⟩].getD q.toNat nilVal) [2])) = some ⟨k2, f2⟩ from rfl] at HD
  go_wp2_with fail
  refine HD.out.mono ?_
  rintro e wd ⟨hb, hr⟩
  obtain ⟨v, rfl, hv⟩ := hr
  have Xa := hid (row_on hb Xa.out)
  have Xb := hid (row_on hb Xb.out)
  have HLa := hid (HLa.out.on hb)
  have HLb := hid (HLb.out.on hb)
  have HBW := hid (up_trans HBW.out hb)
  obtain ⟨fv, rfl, hf⟩ := hv
  obtain ⟨adv, capv, rfl, _⟩ := hf.ia.shape
  dsimp only at hf ⊢
  have HF := hid hf
  have h9d := hid hb
  clear hb hf HD HP
  obtain ⟨wx, hwx⟩ : ∃ wx, wx = wd.alloc (.cells #[.int .i64 k2, .slice adv f2.length capv] 24) := ⟨_, rfl⟩
  have hal := up_alloc wd (.cells #[.int .i64 k2, .slice adv f2.length capv] 24)
  rw [← hwx] at hal
  have Xv := hid (show wx.heap[wd.heap.size]? = some (.cells #[.int .i64 k2, .slice adv f2.length capv] 24 (0, 0)) by rw [hwx]; exact new_row _ _)
  have Xa := hid (row_on hal Xa.out)
  have Xb := hid (row_on hal Xb.out)
  have HLa := hid (HLa.out.on hal)
  have HLb := hid (HLb.out.on hal)
  have HBW := hid (up_trans HBW.out hal)
  have HFd := HF
  have HF := hid (HF.out.on hal)
  have hdx : wd.heap.size < wx.heap.size := by rw [hwx]; simp
  have Hdx := hid hal
  have H9x := hid (up_trans h9d.out hal)
  go_wp2
  rw [← hwx]
  clear hwx hal
  have x0 : wx.cell? ⟨bl, 4, none⟩ = some (.int .i64 k2) := by rw [cell_of_row Xa.out]; rfl
  have x1 : wx.cell? ⟨bl, 5, none⟩ = some (.slice ada2 f2.length capa2) := by rw [cell_of_row Xa.out]; rfl
  have x2 : wx.cell? ⟨bm, 4, none⟩ = some (.int .i64 k2) := by rw [cell_of_row Xb.out]; rfl
  have x3 : wx.cell? ⟨bm, 5, none⟩ = some (.slice adb2 f2.length capb2) := by rw [cell_of_row Xb.out]; rfl
  have xl := lt_of_cell x0
  have xm := lt_of_cell x2
  dsimp only at xl xm
  have x4 : wx.cell? ⟨wd.heap.size, 0, none⟩ = some (.int .i64 k2) := by rw [cell_of_row Xv.out]; rfl
  have x5 : wx.cell? ⟨wd.heap.size, 1, none⟩ = some (.slice adv f2.length capv) := by rw [cell_of_row Xv.out]; rfl
  have Vb := hid (V9b.out.on H9x.out)
  have HC := hid fun (s : Ci.Ext wx) => rcmp_any ⟨k2, f2⟩ ⟨k2, f2⟩ (.agg #[.int .i64 k2, .slice adv f2.length capv]) (.agg #[.int .i64 k2, .slice adb2 f2.length capb2]) s.out ⟨_, rfl, HF.out.ia.on s.below⟩ ⟨_, rfl, Vb.out.on s.below⟩
  rw [cmpV_self] at HC
  refine Ci.wp_region_ext2 (by kernel_rfl) (by kernel_rfl) (fun hne hcell => ?_)
  repeat (go_big_quiet_step ((go_at_call 14; exact (HC.out _).mono (fun e w' h => ⟨h.1, Ci.Ext.to _ h.2⟩))))
  refine wpQuiet_nil ?_
  rintro _ ⟨s, rfl⟩
  have HBs := hid s.below
  clear hne hcell HC
  generalize s.out = ws at *
  have HBW := hid (up_trans HBW.out HBs.out)
  have Xv := hid (row_on HBs.out Xv.out)
  have HF := hid (HF.out.on HBs.out)
  have Hn := hid (up_trans H9x.out HBs.out)
  have Hds := hid (up_trans Hdx.out HBs.out)
  clear Hdx
  have hbvs : wd.heap.size < ws.heap.size := (Array.getElem?_eq_some_iff.1 Xv.out).1
  clear x0 x1 x2 x3 x4 x5 xl xm HLa HLb HBs hdx Xa Xb Vb H9x h9d
  go_upto_block 0 with fail
  go_cut [] from 62 (fun wc => Hid (Below w9.heap.size w9 wc))
  case first =>
    go_wp2
    by_cases hz : f2 = []
    case pos =>
      subst hz
      have x5 : ws.cell? ⟨wd.heap.size, 1, none⟩ = some (.slice adv 0 capv) := by rw [cell_of_row Xv.out]; rfl
      go_loop [12] (fun v12 => v12 = .int .i64 0) (fun _ => 0)
      case atStart => exact rfl
      case round =>
        obtain rfl := hrel
        go_wp2
        go_meet
        case rel => exact Hn
    case neg =>
      obtain ⟨g, cs, t, cap', e, hg9, hrow, hcs⟩ := na_row HFd.out hz
      injection e with e1 e2 e3
      subst e1 e3
      have hgv : g ≠ wd.heap.size := Nat.ne_of_lt (Array.getElem?_eq_some_iff.1 hrow).1
      have HROW := hid (row_on Hds.out hrow)
      have HXV := Xv
      clear hrow Xv HFd Hds
      go_loopw [12] (fun v12 wr => ∃ j : Nat, j ≤ f2.length ∧ v12 = .int .i64 j ∧ Hid (Below w9.heap.size w9 wr) ∧ Hid (wr.heap[wd.heap.size]? = some (.cells #[.int .i64 k2, .slice (some ⟨g, 0, none⟩) f2.length capv] 24 (0, 0))) ∧ Hid (∃ cs, wr.heap[g]? = some (.cells cs t (0, 0)) ∧ f2.length ≤ cs.size)) (fun v12 _ => f2.length - (intOf v12).toNat)
      case atStart => exact ⟨0, by omega, rfl, Hn, HXV, hid ⟨cs, HROW.out, hcs⟩⟩
      case round =>
        obtain ⟨j, hj, rfl, HBr, HVr, HCr⟩ := hrel
        obtain ⟨cs2, HR2', hc2⟩ := HCr.out
        have HR2 := hid HR2'
        clear HR2'
        have x5 : wr.cell? ⟨wd.heap.size, 1, none⟩ = some (.slice (some ⟨g, 0, none⟩) f2.length capv) := by rw [cell_of_row HVr.out]; rfl
        by_cases hlt : j < f2.length
        case pos =>
          have hlt2 : (j : Int) < (f2.length : Int) := by omega
          obtain ⟨z, hz2⟩ : ∃ z, cs2[j]? = some z := ⟨_, Array.getElem?_eq_getElem (show j < cs2.size by omega)⟩
          have y0 : wr.cell? ⟨g, j, none⟩ = some z := by rw [cell_of_row HR2.out]; exact hz2
          have y1 : wr.frozen? ⟨g, j, none⟩ = false := frozen_of_row HR2.out
          have HV3 := hid ((heap_setCell_other wr ⟨g, j, none⟩ wd.heap.size (.int .i64 by_) (Ne.symm hgv)).trans HVr.out)
          have HR3 := hid (heap_setCell_same _ _ j _ _ (.int .i64 by_) HR2.out)
          have HB3 := hid (HBr.out.setCell (p := ⟨g, j, none⟩) hg9 (.int .i64 by_))
          clear hz2 HCr
          go_wp2
          go_round
          case rel => exact ⟨j + 1, by omega, by simp, HB3, HV3, hid ⟨_, HR3.out, by simpa using hc2⟩⟩
          case measure => simp [intOf]; omega
        case neg =>
          obtain rfl : j = f2.length := by omega
          go_wp2
          go_meet
          case rel => exact HBr
  case rest =>
    have HBC := hid (up_trans HB9.out hcut.out)
    have Xa := hid (row_on hcut.out X9a.out)
    have Xb := hid (row_on hcut.out X9b.out)
    have x0 : wc.cell? ⟨bl, 4, none⟩ = some (.int .i64 k2) := by rw [cell_of_row Xa.out]; rfl
    have x1 : wc.cell? ⟨bl, 5, none⟩ = some (.slice ada2 f2.length capa2) := by rw [cell_of_row Xa.out]; rfl
    have x2 : wc.cell? ⟨bm, 4, none⟩ = some (.int .i64 k2) := by rw [cell_of_row Xb.out]; rfl
    have x3 : wc.cell? ⟨bm, 5, none⟩ = some (.slice adb2 f2.length capb2) := by rw [cell_of_row Xb.out]; rfl
    have xl := lt_of_cell x0
    have xm := lt_of_cell x2
    dsimp only at xl xm
    have HC := hid fun (s : Ci.Ext wc) => rcmp_any ⟨k2, f2⟩ ⟨k2, f2⟩ (.agg #[.int .i64 k2, .slice ada2 f2.length capa2]) (.agg #[.int .i64 k2, .slice adb2 f2.length capb2]) s.out ⟨_, rfl, (V9a.out.on hcut.out).on s.below⟩ ⟨_, rfl, (V9b.out.on hcut.out).on s.below⟩
    rw [cmpV_self] at HC
    clear Xa Xb X9a X9b V9a V9b
    go_wp2
    refine Ci.wp_region_ext2 (by kernel_rfl) (by kernel_rfl) (fun hne hcell => ?_)
    repeat (go_big_quiet_step ((go_at_call 14; exact (HC.out _).mono (fun e w' h => ⟨h.1, Ci.Ext.to _ h.2⟩))))
    refine wpQuiet_nil ?_
    rintro _ ⟨s, rfl⟩
    have HBs := hid (up_trans HBC.out s.below)
    clear hne hcell HC
    go_wp2
    go_ret
    exact ⟨rfl, HBs.out⟩

theorem walk (n at_ by_ : Int) (W : World) (w0 : (Lit.int .i64 n).wf = true) (w1 : (Lit.int .i64 at_).wf = true) (_w2 : (Lit.int .i64 by_).wf = true) (hX : TabsE W) : Calls Tryd.prog 5 #[.int .i64 n, .int .i64 at_, .int .i64 by_] W fun e W' => e = .returned (.bool true) ∧ Below W.heap.size W W' := by
  rcases (by omega : at_ % 3 = 0 ∨ at_ % 3 = 1 ∨ at_ % 3 = 2) with h | h | h
  · exact part0 n at_ by_ W w0 w1 hX h
  · exact part1 n at_ by_ W w0 w1 hX h
  · exact part2 n at_ by_ W w0 w1 hX h

theorem own : ownKnob Tryd.prog.godebug = none := by kernel_rfl

theorem table {W : World} (h : laidMetH Tryd.prog Rows.actPicksRow.laid W) : TabsE W := by
  rw [MakeChecks.laidMetH_plain _ _ _ (by kernel_rfl)] at h
  exact tabs_of_laid h

set_option maxRecDepth 100000 in
theorem lifted (os : Os) (started : os.Started) (H : Type) (enc : TypeId × Value → H) :
    ReturnsInHanded {} Tryd.checked os 5 .any (fun w args => (Rows.actPicksSpec.pre enc Tryd.prog Tryd.f5 Rows.actPicksRow.domain false w args ∧ laidMetH Tryd.prog Rows.actPicksRow.laid w) ∧ sizedMet enc Tryd.prog Tryd.f5 (OpenSpec.ofChange Rows.actPicksSpec) false w args)
      (Rows.actPicksSpec.post enc Tryd.prog Tryd.f5 false true false false) := by
  refine returnsInHanded_of_change_and (C := Tryd.checked) (X := fun w _ => laidMetH Tryd.prog Rows.actPicksRow.laid w) (fun _ _ _ hh h => h.of_heap hh) own started (by kernel_rfl) Tryd.func5
    (ChangeSpec.witness_shaped (enc := enc) (C := Tryd.checked) (os := os) (X := fun w _ => laidMetH Tryd.prog Rows.actPicksRow.laid w) false (World.laidAll Tryd.prog os Rows.actPicksRow.laid) #[.int .i64 0, .int .i64 0, .int .i64 0] 8 (World.laidAll_os _ _ _)
      (World.shaped_of_ZipB (by kernel_rfl) (by kernel_rfl)) (by kernel_rfl) (by kernel_rfl) (by kernel_rfl)
      (by rw [MakeChecks.laidMetH_plain _ _ _ (by kernel_rfl)]; exact laidMet_laidAll _ (by kernel_rfl) (by kernel_rfl))) ?_
  intro W base args ds gs before hval0 hW _ _ hL _
  have hval : ∀ (j : Nat) t v, Tryd.f5.params[j]? = some t → args[j]? = some v → Value.okWide Tryd.prog W .any base t v := hval0
  have hW' := hW
  obtain ⟨p, q, hA0, hV, rfl, hfz, hnd⟩ := hW
  have hA : DataW.TrodAll enc Tryd.prog W 0 (fun _ => true) true Tryd.f5.params.toList args.toList ds p := hA0
  rw [Tryd.params5] at hA hval
  obtain ⟨v0, vs0, d0, ds0, p0, q0, hargs, rfl, rfl, h0, r0⟩ := trodAll_cons hA
  obtain ⟨v1, vs1, d1, ds1, p1, q1, rfl, rfl, rfl, h1, r1⟩ := trodAll_cons r0
  obtain ⟨v2, vs2, d2, ds2, p2, q2, rfl, rfl, rfl, h2, r2⟩ := trodAll_cons r1
  obtain ⟨rfl, rfl, rfl⟩ := trodAll_nil r2
  obtain rfl : args = #[v0, v1, v2] := by cases args; simp_all
  obtain ⟨rfl, rfl⟩ := trodVars_none hV
  obtain ⟨a0, rfl, rfl, rfl, w0⟩ := open_int Tryd.underlying3 (hval 0 3 v0 rfl rfl) h0
  obtain ⟨a1, rfl, rfl, rfl, w1⟩ := open_int Tryd.underlying3 (hval 1 3 v1 rfl rfl) h1
  obtain ⟨a2, rfl, rfl, rfl, w2⟩ := open_int Tryd.underlying3 (hval 2 3 v2 rfl rfl) h2
  clear hA0 hval0
  refine (walk a0 a1 a2 W w0 w1 w2 (table hL)).mono fun e W' ⟨he, bel⟩ => ?_
  subst he
  exact ⟨_, rfl, _, _, _, [], _, [], hW', trodAll_mk1 (shut_bool Tryd.underlying4 _), (trodAll_cons_mk (shut_int Tryd.underlying3 w0) (trodAll_cons_mk (shut_int Tryd.underlying3 w1) (trodAll_cons_mk (shut_int Tryd.underlying3 w2) trodAll_mk0))), rfl, bel.frame _, fun h => by cases h⟩

theorem row_holds : Rows.ActPicksSaid :=
  OpenClaim.holds_of_wide 5 Tryd.f5 rfl rfl rfl rfl rfl rfl rfl ⟨rfl, rfl, rfl, rfl, rfl⟩ rfl rfl rfl rfl rfl (by kernel_rfl) Tryd.func5 (by kernel_rfl)
    (of_decide_eq_true (by kernel_rfl)) (by unfold Func.isWrapper; first | (rw [if_pos (by decide +kernel)]; kernel_rfl) | (rw [if_neg (by decide +kernel)]; exact ⟨rfl, rfl⟩))
    (fun os started H enc _ => lifted os started H enc)

theorem actPicks_holds : Rows.ActPicksCardSaid :=
  Claim7.holds_tied_plain_at .later [] _ _ _ _ row_holds (fun _ h => by cases h) (by kernel_rfl) (fun _ h => by cases h) actPicks_row_tie rfl ⟨rfl, rfl⟩ (by kernel_rfl) rfl
    (fun f fn hf hfn => by
      obtain rfl : f = 5 := Option.some.inj ((show Tryd.prog.funcNamed "interlocutor/interlocutorlaw8.ActPicks" = some 5 by kernel_rfl).symm.trans hf) |>.symm
      obtain rfl : fn = Tryd.f5 := (Option.some.inj (Tryd.func5.symm.trans hfn)).symm
      exact ⟨by kernel_rfl, fun j t ht => by
        rw [Tryd.params5] at ht
        have hm : t ∈ [3, 3, 3] := by simpa using Array.mem_of_getElem? ht
        have hall : ([3, 3, 3].all fun u => !Tryd.prog.wantsStandIn u) = true := by kernel_rfl
        exact (show Tryd.prog.wantsStandIn t = false by simpa using List.all_eq_true.1 hall t hm)⟩)
    (by kernel_rfl)

end Go.Proofs.YtengcdodoblabaaDoor
