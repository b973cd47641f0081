/- RankOrder answers true of any numbers: best readings rise by cost, then by value; none twice; each costs the least that it did; cut off earlier they are a front. The tables of the library are as listed. -/
import Derived.Test.YtjocpbcmehicmaaDoorCards
import Derived.Test.YtjocpbcmehicmaaDoorTie
import Derived.Test.YtjocpbcmehicmaaDoorMake
import Derived.Test.YtjocpbcmehicmaaDoorSame
import Derived.Test.YtjocpbcmehicmaaDoorMath3
import Derived.ProofKit
import Derived.OpenShut
import Derived.Lay
import Derived.SevenTiedAt
import Derived.Stop.Joined
import Derived.Lib.LaidTab
import Derived.Deep.Cut
import Derived.Deep.CutBlock
namespace Go.Proofs.YtjocpbcmehicmaaDoor
open Go.ChangeShapes Go.WideShapes Go.ChangeAt Go.RowKit


theorem RO.cell {B : Nat} {w : World} {g n cap : Nat} {xs : List Rd} (h : RO B w (.slice (some ⟨g, 0, none⟩) n cap) xs) (j : Nat) (hj : j < xs.length) : ∃ fv, w.cell? ⟨g, j * 3, none⟩ = some (.int .i64 (xs.getD j nilRd).v.kind) ∧ w.cell? ⟨g, j * 3 + 1, none⟩ = some fv ∧ w.cell? ⟨g, j * 3 + 2, none⟩ = some (.int .i64 (xs.getD j nilRd).cost) ∧ IA w fv (xs.getD j nilRd).v.f := by
  obtain ⟨g', cs, t, cap', e, _, hB, h3, h4⟩ := h
  injection e with e1 e2 e3
  injection e1 with e1
  injection e1 with e1
  subst e1
  obtain ⟨fv, c0, c1, c2, hn⟩ := h4 j hj
  exact ⟨fv, (cell_of_row h3).trans c0, (cell_of_row h3).trans c1, (cell_of_row h3).trans c2, hn.ia⟩
theorem Rising.next {l : List Rd} (h : Rising l) (j : Nat) (hj : j + 1 < l.length) : cmpCV (l.getD j nilRd) (l.getD (j + 1) nilRd) < 0 := by
  have := List.pairwise_iff_getElem.1 h j (j + 1) (by omega) hj (by omega)
  rw [List.getD_eq_getElem?_getD, List.getD_eq_getElem?_getD, List.getElem?_eq_getElem (by omega), List.getElem?_eq_getElem hj]
  exact this
theorem RO.front {B : Nat} {w : World} {g n cap : Nat} {xs : List Rd} (h : RO B w (.slice (some ⟨g, 0, none⟩) n cap) xs) (m : Nat) (hm : m ≤ xs.length) : RA w (.slice (some ⟨g, 0, none⟩) m cap) (xs.take m) := by
  obtain ⟨g', cs, t, cap', e, ⟨h0, h1, h2⟩, hB, h3, h4⟩ := h
  injection e with e1 e2 e3
  injection e1 with e1
  injection e1 with e1
  subst e1 e2 e3
  have hl : (xs.take m).length = m := by rw [List.length_take]; omega
  refine ⟨_, cap, by rw [hl], by rw [hl]; omega, .inr ⟨g, 0, rfl, (Array.getElem?_eq_some_iff.1 h3).1, fun j hj => ?_⟩⟩
  rw [hl] at hj
  obtain ⟨fv, c0, c1, c2, hn⟩ := h4 j (by omega)
  have e : (xs.take m).getD j nilRd = xs.getD j nilRd := by
    rw [List.getD_eq_getElem?_getD, List.getD_eq_getElem?_getD, List.getElem?_take, if_pos hj]
  rw [e, Nat.zero_add]
  exact ⟨fv, (cell_of_row h3).trans c0, (cell_of_row h3).trans c1, (cell_of_row h3).trans c2, hn.ia⟩

set_option maxRecDepth 8000 in
set_option maxHeartbeats 8000000 in
theorem walk (v0 : Value) (ns : List Int) (a1 : Int) (W : World) (w0 : IX W v0 ns) (w1 : (Lit.int .i64 a1).wf = true) (hT : Tab W) :
    Calls Tryd.prog 5 #[v0, .int .i64 a1] W fun e W' => e = .returned (.bool true) ∧ Below W.heap.size W W' := by
  obtain ⟨b0, b1⟩ := wf_bd w1
  obtain ⟨F, hF⟩ := mk_ex
  have HK := hid (known_any W hT)
  have hk : 0 ≤ a1 % 50 ∧ a1 % 50 < 50 := by omega
  obtain ⟨k, hkk, hk50⟩ : ∃ k : Nat, a1 % 50 = k ∧ k < 50 := ⟨(a1 % 50).toNat, by omega, by omega⟩
  have HW : Hid (∀ w, Calls Tryd.prog 17 #[.int .i64 a1, .int .i64 50] w fun e w' => e = .returned (.int .i64 k) ∧ w' = w) := hid (fun w => by rw [← hkk]; exact within_any a1 50 w (by decide) (by decide) b0 b1)
  have HM := hid fun w (hb : Below W.heap.size W w) => make_any F hF ns v0 40 (by decide) W w w0 hb
  have hshape : ∃ ad n cap, v0 = .slice ad n cap := by obtain ⟨ad, cap, e, _⟩ := w0; exact ⟨ad, _, cap, e⟩
  obtain ⟨ad, n0, cap, rfl⟩ := hshape
  clear w0 w1 hT hkk hk
  go_enter Tryd.func5, Tryd.ntmps5
  go_wp2_with fail
  refine HK.out.mono ?_
  rintro e wb ⟨rfl, hb⟩
  have HB := hid hb
  clear hb
  go_wp2_with fail
  refine (HM.out wb HB.out).mono ?_
  rintro e wc ⟨u, rfl, ps, hps, hrw, hb⟩
  have HBC := hid (HB.out.trans (hb.mono HB.out.size))
  have hl : (ps.map Prod.snd).length ≤ 40 := by rw [hps, List.length_take]; omega
  have HRA := hid (hrw.ra (by rw [List.length_map] at hl; omega))
  generalize ps.map Prod.snd = l at *
  have HLL := hid hl
  clear hps hrw hb hl
  have HBE := hid (best_any l u 1000 wc HRA.out (by decide))
  go_wp2_with fail
  refine HBE.out.mono ?_
  rintro e wd ⟨out, va, hb1, rfl, hro, hb⟩
  have O1 := hid hb1
  have hol : out.length ≤ 40 := by have := hb1.len; have := HLL.out; omega
  rw [List.take_of_length_le (show out.length ≤ (1000 : Int).toNat by have : (1000 : Int).toNat = 1000 := rfl; omega)] at hro
  have hd : decide ((1000 : Int) < (out.length : Int)) = false := by simp only [decide_eq_false_iff_not]; omega
  rw [hd]
  have HBD := hid (HBC.out.trans (hb.mono HBC.out.size))
  have HRA := hid (HRA.out.on hb)
  have HRO := hid hro
  obtain ⟨g, cs, t, capa, rfl, ⟨hx1, hx2, hx3⟩, _⟩ := hro
  obtain ⟨n, hn⟩ : ∃ n, n = out.length := ⟨_, rfl⟩
  have HN := hid hn
  rw [← hn] at hol hx2 HRO ⊢
  clear hb1 hb hd hx1 hx3 HBE
  go_wp2_with fail
  refine (HW.out _).mono ?_
  rintro e wq ⟨rfl, hw⟩
  obtain rfl := hw.symm
  clear hw
  have HBE := hid (best_any l u k wd HRA.out (by omega))
  go_wp2_with fail
  refine HBE.out.mono ?_
  rintro e we ⟨out2, vb, hb2, rfl, hro, hb⟩
  obtain rfl : out2 = out := hb2.unique O1.out
  rw [← hn]
  rw [Int.toNat_natCast] at hro
  have HBEE := hid (HBD.out.trans (hb.mono HBD.out.size))
  have HRA := hid (HRA.out.on hb)
  have HRO := hid (HRO.out.on hb)
  obtain ⟨mm, hmm⟩ : ∃ m : Nat, (k ≤ n ∧ m = k) ∨ (n < k ∧ m = n) := by
    by_cases h : k ≤ n
    · exact ⟨k, .inl ⟨h, rfl⟩⟩
    · exact ⟨n, .inr ⟨by omega, rfl⟩⟩
  have hmn : mm ≤ n := by omega
  have HFR := hid (HRO.out.front mm (by rw [← HN.out]; exact hmn))
  have e2 : out2.take k = out2.take mm := by
    rcases hmm with ⟨h, e⟩ | ⟨h, e⟩
    · rw [e]
    · rw [List.take_of_length_le (by rw [← HN.out]; omega), List.take_of_length_le (by rw [← HN.out]; omega)]
  rw [e2] at hro
  have HSA := hid (same_any _ vb _ we hro.ra HFR.out)
  have hmin : min (k : Int) (n : Int) = (mm : Int) := by omega
  have hm0 : (mm : Int) ≤ (n : Int) := by omega
  have hmc : (mm : Int) ≤ (capa : Int) := by omega
  clear hb2 hro hb hmm e2 HBE hn
  go_wp2_with fail
  refine HSA.out.mono ?_
  rintro e wf ⟨rfl, hb⟩
  have HBF := hid (HBEE.out.trans (hb.mono HBEE.out.size))
  have HRA := hid (HRA.out.on hb)
  have HRO := hid (HRO.out.on hb)
  clear hb
  obtain ⟨adu, capu, hue, hu1, _, hu3⟩ := HRA.out.shape
  subst hue
  obtain ⟨nl, hnl⟩ : ∃ n, n = l.length := ⟨_, rfl⟩
  have HNL := hid hnl
  rw [← hnl] at hu1 hu3 ⊢
  clear hnl
  go_wp2
  go_loopw [11] (fun v wr => ∃ i : Nat, i ≤ n ∧ v = .int .i64 i ∧ Hid (Below wf.heap.size wf wr)) (fun v _ => n - (intOf v).toNat)
  case atStart => exact ⟨0, by omega, rfl, hid (Below.refl _ _)⟩
  case round =>
    obtain ⟨i, hi, rfl, HBR⟩ := hrel
    by_cases hlt : i < n
    case neg =>
      obtain rfl : i = n := by omega
      go_wp2
      go_ret
      exact ⟨rfl, HBF.out.trans (HBR.out.mono HBF.out.size)⟩
    case pos =>
    have hlt2 : (i : Int) < (n : Int) := by omega
    have HIN := hid (show (out2.getD i nilRd) ∈ l ∧ ∀ s ∈ l, s.v = (out2.getD i nilRd).v → (out2.getD i nilRd).cost ≤ s.cost from (O1.out.2 _).1 (getD_mem nilRd out2 i (by rw [← HN.out]; exact hlt)))
    have HNX := hid fun (h : 0 < i) => O1.out.1.next (i - 1) (by rw [← HN.out]; omega)
    obtain ⟨fi, p0, p1, p2, hia⟩ := HRO.out.cell i (by rw [← HN.out]; exact hlt)
    have HIA := hid hia
    have glt : g < wf.heap.size := lt_of_cell p0
    clear hia
    by_cases hi0 : i = 0
    case pos =>
      have hi1 : ¬ (0 : Int) < (i : Int) := by omega
      have hd1 : decide ((0 : Int) < (i : Int)) = false := decide_eq_false hi1
      have hd2 : decide (0 < i) = false := decide_eq_false (by omega)
      have HI0 := hid hi0
      generalize out2.getD i nilRd = ri at *
      clear hi0 HNX
      have HSX := hid fun s : Ci.Ext wr => (show RowKit.Below wf.heap.size wf s.out from HBR.out.trans (s.below.mono HBR.out.size))
      go_wp2_with fail
      refine Ci.wp_region_ext2 (by kernel_rfl) (by kernel_rfl) (fun hne hcell => ?_)
      clear hcell
      repeat (go_big_quiet_step (fail))
      refine wpQuiet_nil ?_
      intro w7 hw7
      obtain ⟨s, rfl⟩ := hw7
      have HBS := hid (HSX.out s)
      clear HSX
      generalize s.out = w8 at *
      go_wp2
      go_loopw [12, 13] (fun v12 v13 wr2 => ∃ (j : Nat) (b : Bool), j ≤ nl ∧ v13 = .int .i64 j ∧ v12 = .bool b ∧ Hid (b = true ↔ ri ∈ l.take j) ∧ Hid (Below wf.heap.size wf wr2)) (fun _ v13 _ => nl - (intOf v13).toNat)
      case atStart => exact ⟨0, false, by omega, rfl, rfl, hid (by simp), HBS⟩
      case round =>
        obtain ⟨j, b, hj, rfl, rfl, HTB, HB2⟩ := hrel
        by_cases hjl : j < nl
        case neg =>
          obtain rfl : j = nl := by omega
          have hbt : b = true := HTB.out.2 (by rw [List.take_of_length_le (by rw [← HNL.out]; omega)]; exact HIN.out.1)
          subst hbt
          go_wp2
          go_round
          case rel => exact ⟨i + 1, by omega, by simp, HB2⟩
          case measure => simp [intOf]; omega
        case pos =>
          have hjl2 : (j : Int) < (nl : Int) := by omega
          obtain ⟨gl, ol, cl, el, glb, hcs⟩ := HRA.out.has (by rw [← HNL.out]; omega)
          injection el with el1 _ el2
          subst el1 el2
          obtain ⟨fj, q0, q1, q2, hja⟩ := hcs j (by rw [← HNL.out]; exact hjl)
          have HTK := hid (take_snoc l j (by rw [← HNL.out]; exact hjl))
          have hmem := getD_mem nilRd l j (by rw [← HNL.out]; exact hjl)
          clear hcs
          generalize hrj : l.getD j nilRd = rj at *
          clear hrj
          have HLE := hid fun (h : rj.v = ri.v) => HIN.out.2 rj hmem h
          have HJA := hid hja
          clear hmem hja
          have hs2 : ∀ s : Ci.Ext wr, RowKit.Below wf.heap.size wf s.out := fun s => HB2.out.trans (s.below.mono HB2.out.size)
          have P0 := fun s : Ci.Ext wr => ((hs2 s).cell (p := ⟨g, i * 3, none⟩) glt).trans p0
          have P1 := fun s : Ci.Ext wr => ((hs2 s).cell (p := ⟨g, i * 3 + 1, none⟩) glt).trans p1
          have P2 := fun s : Ci.Ext wr => ((hs2 s).cell (p := ⟨g, i * 3 + 2, none⟩) glt).trans p2
          have Q0 := fun s : Ci.Ext wr => ((hs2 s).cell (p := ⟨gl, ol + j * 3, none⟩) glb).trans q0
          have Q1 := fun s : Ci.Ext wr => ((hs2 s).cell (p := ⟨gl, ol + j * 3 + 1, none⟩) glb).trans q1
          have Q2 := fun s : Ci.Ext wr => ((hs2 s).cell (p := ⟨gl, ol + j * 3 + 2, none⟩) glb).trans q2
          have HSX := hid hs2
          have HC2 := hid fun s : Ci.Ext wr => (rcmp_any rj.v ri.v (.agg #[.int .i64 rj.v.kind, fj]) (.agg #[.int .i64 ri.v.kind, fi]) s.out ⟨fj, rfl, (HJA.out.on (hs2 s)).ib⟩ ⟨fi, rfl, (HIA.out.on (hs2 s)).ib⟩).mono (fun e w' h => (⟨h.1, Ci.Ext.to s h.2⟩ : e = .returned (.int .i64 (cmpV rj.v ri.v)) ∧ ∃ s' : Ci.Ext wr, w' = s'.out))
          clear hs2
          have HZ := hid (cmpV_iff rj.v ri.v)
          have HXT : Hid (rj = ri ↔ rj.v = ri.v ∧ rj.cost = ri.cost) := hid ⟨fun h => by rw [h]; exact ⟨rfl, rfl⟩, fun h => Rd.ext' h.1 h.2⟩
          obtain ⟨z, hz⟩ : ∃ z, z = cmpV rj.v ri.v := ⟨_, rfl⟩
          rw [← hz] at HC2 HZ
          clear hz
          generalize hkj : rj.v.kind = kj at *
          generalize hki : ri.v.kind = ki at *
          generalize hcj : rj.cost = cj at *
          generalize hci : ri.cost = ci at *
          clear hkj hki hcj hci
          by_cases hz : z = 0
          case neg =>
            have hz2 : (z == 0) = false := by simpa using hz
            have HNE : Hid (ri ∈ l.take (j + 1) ↔ ri ∈ l.take j) := hid (by
              rw [HTK.out, List.mem_append, List.mem_singleton]
              exact ⟨fun h => h.elim id (fun h => absurd (HZ.out.2 (HXT.out.1 h.symm).1) hz), .inl⟩)
            clear hz
            go_wp2_with fail
            refine Ci.wp_region_ext2 (by kernel_rfl) (by kernel_rfl) (fun hne hcell => ?_)
            clear hcell
            repeat (go_big_quiet_step ((go_at_call 15; with_reducible exact HC2.out _)))
            refine wpQuiet_nil ?_
            intro w7 hw7
            obtain ⟨s, rfl⟩ := hw7
            have HF2 := hid (HSX.out s)
            clear P0 P1 P2 Q0 Q1 Q2 HSX
            generalize s.out = w10 at *
            go_wp2
            go_round
            case rel => exact ⟨j + 1, b, by omega, by simp, rfl, hid (HTB.out.trans HNE.out.symm), HF2⟩
            case measure => simp [intOf]; omega
          case pos =>
            have hle := HLE.out (HZ.out.1 hz)
            have hge : ¬ cj < ci := by omega
            have HNE : Hid (ri ∈ l.take (j + 1) ↔ ri ∈ l.take j ∨ cj = ci) := hid (by
              rw [HTK.out, List.mem_append, List.mem_singleton]
              exact ⟨fun h => h.imp id (fun h => (HXT.out.1 h.symm).2), fun h => h.imp id (fun h => (HXT.out.2 ⟨HZ.out.1 hz, h⟩).symm)⟩)
            subst hz
            clear hle
            cases b
            · by_cases hce : cj = ci
              · have hce2 : (cj == ci) = true := by simpa using hce
                have HCE := hid hce
                clear hce
                go_wp2_with fail
                refine Ci.wp_region_ext2 (by kernel_rfl) (by kernel_rfl) (fun hne hcell => ?_)
                clear hcell
                repeat (go_big_quiet_step ((go_at_call 15; with_reducible exact HC2.out _)))
                refine wpQuiet_nil ?_
                intro w7 hw7
                obtain ⟨s, rfl⟩ := hw7
                have HB2 := hid (HSX.out s)
                clear P0 P1 P2 Q0 Q1 Q2 HSX
                generalize s.out = w8 at *
                have hs2 : ∀ s : Ci.Ext w8, RowKit.Below wf.heap.size wf s.out := fun s => HB2.out.trans (s.below.mono HB2.out.size)
                have P2 := fun s : Ci.Ext w8 => ((hs2 s).cell (p := ⟨g, i * 3 + 2, none⟩) glt).trans p2
                have Q2 := fun s : Ci.Ext w8 => ((hs2 s).cell (p := ⟨gl, ol + j * 3 + 2, none⟩) glb).trans q2
                have HSX := hid hs2
                clear hs2
                go_wp2_with fail
                refine Ci.wp_region_ext2 (by kernel_rfl) (by kernel_rfl) (fun hne hcell => ?_)
                clear hcell
                repeat (go_big_quiet_step (fail))
                refine wpQuiet_nil ?_
                intro w7 hw7
                obtain ⟨s, rfl⟩ := hw7
                have HB2 := hid (HSX.out s)
                clear P2 Q2 HSX
                generalize s.out = w9 at *
                have hs2 : ∀ s : Ci.Ext w9, RowKit.Below wf.heap.size wf s.out := fun s => HB2.out.trans (s.below.mono HB2.out.size)
                have P2 := fun s : Ci.Ext w9 => ((hs2 s).cell (p := ⟨g, i * 3 + 2, none⟩) glt).trans p2
                have Q2 := fun s : Ci.Ext w9 => ((hs2 s).cell (p := ⟨gl, ol + j * 3 + 2, none⟩) glb).trans q2
                have HSX := hid hs2
                clear hs2
                go_wp2_with fail
                refine Ci.wp_region_ext2 (by kernel_rfl) (by kernel_rfl) (fun hne hcell => ?_)
                clear hcell
                repeat (go_big_quiet_step (fail))
                refine wpQuiet_nil ?_
                intro w7 hw7
                obtain ⟨s, rfl⟩ := hw7
                have HF2 := hid (HSX.out s)
                clear P2 Q2 HSX
                generalize s.out = w10 at *
                go_wp2
                go_round
                case rel => exact ⟨j + 1, true, by omega, by simp, rfl, hid ⟨fun _ => HNE.out.2 (.inr HCE.out), fun _ => rfl⟩, HF2⟩
                case measure => simp [intOf]; omega
              · have hce2 : (cj == ci) = false := by simpa using hce
                have HCE := hid hce
                clear hce
                go_wp2_with fail
                refine Ci.wp_region_ext2 (by kernel_rfl) (by kernel_rfl) (fun hne hcell => ?_)
                clear hcell
                repeat (go_big_quiet_step ((go_at_call 15; with_reducible exact HC2.out _)))
                refine wpQuiet_nil ?_
                intro w7 hw7
                obtain ⟨s, rfl⟩ := hw7
                have HB2 := hid (HSX.out s)
                clear P0 P1 P2 Q0 Q1 Q2 HSX
                generalize s.out = w8 at *
                have hs2 : ∀ s : Ci.Ext w8, RowKit.Below wf.heap.size wf s.out := fun s => HB2.out.trans (s.below.mono HB2.out.size)
                have P2 := fun s : Ci.Ext w8 => ((hs2 s).cell (p := ⟨g, i * 3 + 2, none⟩) glt).trans p2
                have Q2 := fun s : Ci.Ext w8 => ((hs2 s).cell (p := ⟨gl, ol + j * 3 + 2, none⟩) glb).trans q2
                have HSX := hid hs2
                clear hs2
                go_wp2_with fail
                refine Ci.wp_region_ext2 (by kernel_rfl) (by kernel_rfl) (fun hne hcell => ?_)
                clear hcell
                repeat (go_big_quiet_step (fail))
                refine wpQuiet_nil ?_
                intro w7 hw7
                obtain ⟨s, rfl⟩ := hw7
                have HB2 := hid (HSX.out s)
                clear P2 Q2 HSX
                generalize s.out = w9 at *
                have hs2 : ∀ s : Ci.Ext w9, RowKit.Below wf.heap.size wf s.out := fun s => HB2.out.trans (s.below.mono HB2.out.size)
                have P2 := fun s : Ci.Ext w9 => ((hs2 s).cell (p := ⟨g, i * 3 + 2, none⟩) glt).trans p2
                have Q2 := fun s : Ci.Ext w9 => ((hs2 s).cell (p := ⟨gl, ol + j * 3 + 2, none⟩) glb).trans q2
                have HSX := hid hs2
                clear hs2
                go_wp2_with fail
                refine Ci.wp_region_ext2 (by kernel_rfl) (by kernel_rfl) (fun hne hcell => ?_)
                clear hcell
                repeat (go_big_quiet_step (fail))
                refine wpQuiet_nil ?_
                intro w7 hw7
                obtain ⟨s, rfl⟩ := hw7
                have HF2 := hid (HSX.out s)
                clear P2 Q2 HSX
                generalize s.out = w10 at *
                go_wp2
                go_round
                case rel => exact ⟨j + 1, false, by omega, by simp, rfl, hid ⟨fun h => (by cases h), fun h => (HNE.out.1 h).elim (fun h => HTB.out.2 h) (fun h => absurd h HCE.out)⟩, HF2⟩
                case measure => simp [intOf]; omega
            · skip
              go_wp2_with fail
              refine Ci.wp_region_ext2 (by kernel_rfl) (by kernel_rfl) (fun hne hcell => ?_)
              clear hcell
              repeat (go_big_quiet_step ((go_at_call 15; with_reducible exact HC2.out _)))
              refine wpQuiet_nil ?_
              intro w7 hw7
              obtain ⟨s, rfl⟩ := hw7
              have HB2 := hid (HSX.out s)
              clear P0 P1 P2 Q0 Q1 Q2 HSX
              generalize s.out = w8 at *
              have hs2 : ∀ s : Ci.Ext w8, RowKit.Below wf.heap.size wf s.out := fun s => HB2.out.trans (s.below.mono HB2.out.size)
              have P2 := fun s : Ci.Ext w8 => ((hs2 s).cell (p := ⟨g, i * 3 + 2, none⟩) glt).trans p2
              have Q2 := fun s : Ci.Ext w8 => ((hs2 s).cell (p := ⟨gl, ol + j * 3 + 2, none⟩) glb).trans q2
              have HSX := hid hs2
              clear hs2
              go_wp2_with fail
              refine Ci.wp_region_ext2 (by kernel_rfl) (by kernel_rfl) (fun hne hcell => ?_)
              clear hcell
              repeat (go_big_quiet_step (fail))
              refine wpQuiet_nil ?_
              intro w7 hw7
              obtain ⟨s, rfl⟩ := hw7
              have HB2 := hid (HSX.out s)
              clear P2 Q2 HSX
              generalize s.out = w9 at *
              have hs2 : ∀ s : Ci.Ext w9, RowKit.Below wf.heap.size wf s.out := fun s => HB2.out.trans (s.below.mono HB2.out.size)
              have P2 := fun s : Ci.Ext w9 => ((hs2 s).cell (p := ⟨g, i * 3 + 2, none⟩) glt).trans p2
              have Q2 := fun s : Ci.Ext w9 => ((hs2 s).cell (p := ⟨gl, ol + j * 3 + 2, none⟩) glb).trans q2
              have HSX := hid hs2
              clear hs2
              go_wp2_with fail
              refine Ci.wp_region_ext2 (by kernel_rfl) (by kernel_rfl) (fun hne hcell => ?_)
              clear hcell
              repeat (go_big_quiet_step (fail))
              refine wpQuiet_nil ?_
              intro w7 hw7
              obtain ⟨s, rfl⟩ := hw7
              have HF2 := hid (HSX.out s)
              clear P2 Q2 HSX
              generalize s.out = w10 at *
              go_wp2
              go_round
              case rel => exact ⟨j + 1, true, by omega, by simp, rfl, hid ⟨fun _ => HNE.out.2 (.inl (HTB.out.1 trivial)), fun _ => rfl⟩, HF2⟩
              case measure => simp [intOf]; omega
    case neg =>
      obtain ⟨i', hi'⟩ : ∃ i', i = i' + 1 := ⟨i - 1, by omega⟩
      subst hi'
      have hnx : cmpCV (out2.getD i' nilRd) (out2.getD (i' + 1) nilRd) < 0 := HNX.out (by omega)
      obtain ⟨fp, r0, r1, r2, hpa⟩ := HRO.out.cell i' (by rw [← HN.out]; omega)
      have HPA := hid hpa
      generalize out2.getD (i' + 1) nilRd = ri at *
      generalize out2.getD i' nilRd = rp at *
      clear hpa HNX hi0
      have hi1 : (0 : Int) < (i' : Int) + 1 := by omega
      have hd1 : decide ((0 : Int) < (i' : Int) + 1) = true := decide_eq_true hi1
      have hi2 : (i' : Int) < (n : Int) := by omega
      have hi3 : (i' : Int) + 1 < (n : Int) := by omega
      have hi4 : (0 : Int) ≤ (i' : Int) + 1 := by omega
      have hi5 : ((i' : Int) + 1).toNat = i' + 1 := by omega
      have hwi : IntKind.i64.wrap (i' : Int) = (i' : Int) := by rw [IntKind.wrap_i64]; omega
      have hcc := cmpCV_cost hnx
      have hs : ∀ s : Ci.Ext wr, RowKit.Below wf.heap.size wf s.out := fun s => HBR.out.trans (s.below.mono HBR.out.size)
      have P0 := fun s : Ci.Ext wr => ((hs s).cell (p := ⟨g, (i' + 1) * 3, none⟩) glt).trans p0
      have P1 := fun s : Ci.Ext wr => ((hs s).cell (p := ⟨g, (i' + 1) * 3 + 1, none⟩) glt).trans p1
      have P2 := fun s : Ci.Ext wr => ((hs s).cell (p := ⟨g, (i' + 1) * 3 + 2, none⟩) glt).trans p2
      have Q0 := fun s : Ci.Ext wr => ((hs s).cell (p := ⟨g, i' * 3, none⟩) glt).trans r0
      have Q1 := fun s : Ci.Ext wr => ((hs s).cell (p := ⟨g, i' * 3 + 1, none⟩) glt).trans r1
      have Q2 := fun s : Ci.Ext wr => ((hs s).cell (p := ⟨g, i' * 3 + 2, none⟩) glt).trans r2
      have HC1 := hid fun s : Ci.Ext wr => (rcmp_any rp.v ri.v (.agg #[.int .i64 rp.v.kind, fp]) (.agg #[.int .i64 ri.v.kind, fi]) s.out ⟨fp, rfl, (HPA.out.on (hs s)).ib⟩ ⟨fi, rfl, (HIA.out.on (hs s)).ib⟩).mono (fun e w' h => (⟨h.1, Ci.Ext.to s h.2⟩ : e = .returned (.int .i64 (cmpV rp.v ri.v)) ∧ ∃ s' : Ci.Ext wr, w' = s'.out))
      have HSX := hid hs
      clear hs r0 r1 r2
      have hcz : rp.cost = ri.cost → cmpV rp.v ri.v < 0 := fun h => by
        unfold cmpCV lexC at hnx
        rw [if_pos (by dsimp only; rw [h]; exact ord_self _)] at hnx
        exact hnx
      clear hnx
      generalize cmpV rp.v ri.v = z at *
      generalize rp.cost = cp at *
      obtain ⟨ci0, hci0⟩ : ∃ c, c = ri.cost := ⟨_, rfl⟩
      rw [← hci0] at hcc hcz P2
      have HCI := hid hci0
      clear hci0
      by_cases hce : cp = ci0
      case pos =>
        have hzz := hcz hce
        have hz2 : ¬ 0 ≤ z := by omega
        have hdz : decide (0 ≤ z) = false := decide_eq_false hz2
        have h2 : (cp == ci0) = true := by simpa using hce
        have h3 : ¬ ci0 < cp := by omega
        have hd3 : decide (ci0 < cp) = false := decide_eq_false h3
        clear hcz hce hzz hcc
        go_wp2_with fail
        refine Ci.wp_region_ext2 (by kernel_rfl) (by kernel_rfl) (fun hne hcell => ?_)
        clear hcell
        repeat (go_big_quiet_step ((go_at_call 15; with_reducible exact HC1.out _)))
        refine wpQuiet_nil ?_
        intro w7 hw7
        obtain ⟨s, rfl⟩ := hw7
        have HBS := hid (HSX.out s)
        clear HSX P0 P1 P2 Q0 Q1 Q2 HC1 hi1 hi2 hi3 hi4 hi5 hwi
        generalize s.out = w8 at *
        generalize hii : i' + 1 = i at *
        rw [show (i' : Int) + 1 = (i : Int) by omega]
        go_wp2
        go_loopw [12, 13] (fun v12 v13 wr2 => ∃ (j : Nat) (b : Bool), j ≤ nl ∧ v13 = .int .i64 j ∧ v12 = .bool b ∧ Hid (b = true ↔ ri ∈ l.take j) ∧ Hid (Below wf.heap.size wf wr2)) (fun _ v13 _ => nl - (intOf v13).toNat)
        case atStart => exact ⟨0, false, by omega, rfl, rfl, hid (by simp), HBS⟩
        case round =>
          obtain ⟨j, b, hj, rfl, rfl, HTB, HB2⟩ := hrel
          by_cases hjl : j < nl
          case neg =>
            obtain rfl : j = nl := by omega
            have hbt : b = true := HTB.out.2 (by rw [List.take_of_length_le (by rw [← HNL.out]; omega)]; exact HIN.out.1)
            subst hbt
            go_wp2
            go_round
            case rel => exact ⟨i + 1, by omega, by simp, HB2⟩
            case measure => simp [intOf]; omega
          case pos =>
            have hjl2 : (j : Int) < (nl : Int) := by omega
            obtain ⟨gl, ol, cl, el, glb, hcs⟩ := HRA.out.has (by rw [← HNL.out]; omega)
            injection el with el1 _ el2
            subst el1 el2
            obtain ⟨fj, q0, q1, q2, hja⟩ := hcs j (by rw [← HNL.out]; exact hjl)
            have HTK := hid (take_snoc l j (by rw [← HNL.out]; exact hjl))
            have hmem := getD_mem nilRd l j (by rw [← HNL.out]; exact hjl)
            clear hcs
            generalize hrj : l.getD j nilRd = rj at *
            clear hrj
            have HLE := hid fun (h : rj.v = ri.v) => HIN.out.2 rj hmem h
            have HJA := hid hja
            clear hmem hja
            have hs2 : ∀ s : Ci.Ext wr, RowKit.Below wf.heap.size wf s.out := fun s => HB2.out.trans (s.below.mono HB2.out.size)
            have P0 := fun s : Ci.Ext wr => ((hs2 s).cell (p := ⟨g, i * 3, none⟩) glt).trans p0
            have P1 := fun s : Ci.Ext wr => ((hs2 s).cell (p := ⟨g, i * 3 + 1, none⟩) glt).trans p1
            have P2 := fun s : Ci.Ext wr => ((hs2 s).cell (p := ⟨g, i * 3 + 2, none⟩) glt).trans p2
            have Q0 := fun s : Ci.Ext wr => ((hs2 s).cell (p := ⟨gl, ol + j * 3, none⟩) glb).trans q0
            have Q1 := fun s : Ci.Ext wr => ((hs2 s).cell (p := ⟨gl, ol + j * 3 + 1, none⟩) glb).trans q1
            have Q2 := fun s : Ci.Ext wr => ((hs2 s).cell (p := ⟨gl, ol + j * 3 + 2, none⟩) glb).trans q2
            have HSX := hid hs2
            have HC2 := hid fun s : Ci.Ext wr => (rcmp_any rj.v ri.v (.agg #[.int .i64 rj.v.kind, fj]) (.agg #[.int .i64 ri.v.kind, fi]) s.out ⟨fj, rfl, (HJA.out.on (hs2 s)).ib⟩ ⟨fi, rfl, (HIA.out.on (hs2 s)).ib⟩).mono (fun e w' h => (⟨h.1, Ci.Ext.to s h.2⟩ : e = .returned (.int .i64 (cmpV rj.v ri.v)) ∧ ∃ s' : Ci.Ext wr, w' = s'.out))
            clear hs2
            have HZ := hid (cmpV_iff rj.v ri.v)
            have HXT : Hid (rj = ri ↔ rj.v = ri.v ∧ rj.cost = ri.cost) := hid ⟨fun h => by rw [h]; exact ⟨rfl, rfl⟩, fun h => Rd.ext' h.1 h.2⟩
            obtain ⟨z, hz⟩ : ∃ z, z = cmpV rj.v ri.v := ⟨_, rfl⟩
            rw [← hz] at HC2 HZ
            clear hz
            generalize hkj : rj.v.kind = kj at *
            generalize hki : ri.v.kind = ki at *
            generalize hcj : rj.cost = cj at *
            generalize hci : ri.cost = ci at *
            clear hkj hki hcj hci
            by_cases hz : z = 0
            case neg =>
              have hz2 : (z == 0) = false := by simpa using hz
              have HNE : Hid (ri ∈ l.take (j + 1) ↔ ri ∈ l.take j) := hid (by
                rw [HTK.out, List.mem_append, List.mem_singleton]
                exact ⟨fun h => h.elim id (fun h => absurd (HZ.out.2 (HXT.out.1 h.symm).1) hz), .inl⟩)
              clear hz
              go_wp2_with fail
              refine Ci.wp_region_ext2 (by kernel_rfl) (by kernel_rfl) (fun hne hcell => ?_)
              clear hcell
              repeat (go_big_quiet_step ((go_at_call 15; with_reducible exact HC2.out _)))
              refine wpQuiet_nil ?_
              intro w7 hw7
              obtain ⟨s, rfl⟩ := hw7
              have HF2 := hid (HSX.out s)
              clear P0 P1 P2 Q0 Q1 Q2 HSX
              generalize s.out = w10 at *
              go_wp2
              go_round
              case rel => exact ⟨j + 1, b, by omega, by simp, rfl, hid (HTB.out.trans HNE.out.symm), HF2⟩
              case measure => simp [intOf]; omega
            case pos =>
              have hle := HLE.out (HZ.out.1 hz)
              have hge : ¬ cj < ci := by omega
              have HNE : Hid (ri ∈ l.take (j + 1) ↔ ri ∈ l.take j ∨ cj = ci) := hid (by
                rw [HTK.out, List.mem_append, List.mem_singleton]
                exact ⟨fun h => h.imp id (fun h => (HXT.out.1 h.symm).2), fun h => h.imp id (fun h => (HXT.out.2 ⟨HZ.out.1 hz, h⟩).symm)⟩)
              subst hz
              clear hle
              cases b
              · by_cases hce : cj = ci
                · have hce2 : (cj == ci) = true := by simpa using hce
                  have HCE := hid hce
                  clear hce
                  go_wp2_with fail
                  refine Ci.wp_region_ext2 (by kernel_rfl) (by kernel_rfl) (fun hne hcell => ?_)
                  clear hcell
                  repeat (go_big_quiet_step ((go_at_call 15; with_reducible exact HC2.out _)))
                  refine wpQuiet_nil ?_
                  intro w7 hw7
                  obtain ⟨s, rfl⟩ := hw7
                  have HB2 := hid (HSX.out s)
                  clear P0 P1 P2 Q0 Q1 Q2 HSX
                  generalize s.out = w8 at *
                  have hs2 : ∀ s : Ci.Ext w8, RowKit.Below wf.heap.size wf s.out := fun s => HB2.out.trans (s.below.mono HB2.out.size)
                  have P2 := fun s : Ci.Ext w8 => ((hs2 s).cell (p := ⟨g, i * 3 + 2, none⟩) glt).trans p2
                  have Q2 := fun s : Ci.Ext w8 => ((hs2 s).cell (p := ⟨gl, ol + j * 3 + 2, none⟩) glb).trans q2
                  have HSX := hid hs2
                  clear hs2
                  go_wp2_with fail
                  refine Ci.wp_region_ext2 (by kernel_rfl) (by kernel_rfl) (fun hne hcell => ?_)
                  clear hcell
                  repeat (go_big_quiet_step (fail))
                  refine wpQuiet_nil ?_
                  intro w7 hw7
                  obtain ⟨s, rfl⟩ := hw7
                  have HB2 := hid (HSX.out s)
                  clear P2 Q2 HSX
                  generalize s.out = w9 at *
                  have hs2 : ∀ s : Ci.Ext w9, RowKit.Below wf.heap.size wf s.out := fun s => HB2.out.trans (s.below.mono HB2.out.size)
                  have P2 := fun s : Ci.Ext w9 => ((hs2 s).cell (p := ⟨g, i * 3 + 2, none⟩) glt).trans p2
                  have Q2 := fun s : Ci.Ext w9 => ((hs2 s).cell (p := ⟨gl, ol + j * 3 + 2, none⟩) glb).trans q2
                  have HSX := hid hs2
                  clear hs2
                  go_wp2_with fail
                  refine Ci.wp_region_ext2 (by kernel_rfl) (by kernel_rfl) (fun hne hcell => ?_)
                  clear hcell
                  repeat (go_big_quiet_step (fail))
                  refine wpQuiet_nil ?_
                  intro w7 hw7
                  obtain ⟨s, rfl⟩ := hw7
                  have HF2 := hid (HSX.out s)
                  clear P2 Q2 HSX
                  generalize s.out = w10 at *
                  go_wp2
                  go_round
                  case rel => exact ⟨j + 1, true, by omega, by simp, rfl, hid ⟨fun _ => HNE.out.2 (.inr HCE.out), fun _ => rfl⟩, HF2⟩
                  case measure => simp [intOf]; omega
                · have hce2 : (cj == ci) = false := by simpa using hce
                  have HCE := hid hce
                  clear hce
                  go_wp2_with fail
                  refine Ci.wp_region_ext2 (by kernel_rfl) (by kernel_rfl) (fun hne hcell => ?_)
                  clear hcell
                  repeat (go_big_quiet_step ((go_at_call 15; with_reducible exact HC2.out _)))
                  refine wpQuiet_nil ?_
                  intro w7 hw7
                  obtain ⟨s, rfl⟩ := hw7
                  have HB2 := hid (HSX.out s)
                  clear P0 P1 P2 Q0 Q1 Q2 HSX
                  generalize s.out = w8 at *
                  have hs2 : ∀ s : Ci.Ext w8, RowKit.Below wf.heap.size wf s.out := fun s => HB2.out.trans (s.below.mono HB2.out.size)
                  have P2 := fun s : Ci.Ext w8 => ((hs2 s).cell (p := ⟨g, i * 3 + 2, none⟩) glt).trans p2
                  have Q2 := fun s : Ci.Ext w8 => ((hs2 s).cell (p := ⟨gl, ol + j * 3 + 2, none⟩) glb).trans q2
                  have HSX := hid hs2
                  clear hs2
                  go_wp2_with fail
                  refine Ci.wp_region_ext2 (by kernel_rfl) (by kernel_rfl) (fun hne hcell => ?_)
                  clear hcell
                  repeat (go_big_quiet_step (fail))
                  refine wpQuiet_nil ?_
                  intro w7 hw7
                  obtain ⟨s, rfl⟩ := hw7
                  have HB2 := hid (HSX.out s)
                  clear P2 Q2 HSX
                  generalize s.out = w9 at *
                  have hs2 : ∀ s : Ci.Ext w9, RowKit.Below wf.heap.size wf s.out := fun s => HB2.out.trans (s.below.mono HB2.out.size)
                  have P2 := fun s : Ci.Ext w9 => ((hs2 s).cell (p := ⟨g, i * 3 + 2, none⟩) glt).trans p2
                  have Q2 := fun s : Ci.Ext w9 => ((hs2 s).cell (p := ⟨gl, ol + j * 3 + 2, none⟩) glb).trans q2
                  have HSX := hid hs2
                  clear hs2
                  go_wp2_with fail
                  refine Ci.wp_region_ext2 (by kernel_rfl) (by kernel_rfl) (fun hne hcell => ?_)
                  clear hcell
                  repeat (go_big_quiet_step (fail))
                  refine wpQuiet_nil ?_
                  intro w7 hw7
                  obtain ⟨s, rfl⟩ := hw7
                  have HF2 := hid (HSX.out s)
                  clear P2 Q2 HSX
                  generalize s.out = w10 at *
                  go_wp2
                  go_round
                  case rel => exact ⟨j + 1, false, by omega, by simp, rfl, hid ⟨fun h => (by cases h), fun h => (HNE.out.1 h).elim (fun h => HTB.out.2 h) (fun h => absurd h HCE.out)⟩, HF2⟩
                  case measure => simp [intOf]; omega
              · skip
                go_wp2_with fail
                refine Ci.wp_region_ext2 (by kernel_rfl) (by kernel_rfl) (fun hne hcell => ?_)
                clear hcell
                repeat (go_big_quiet_step ((go_at_call 15; with_reducible exact HC2.out _)))
                refine wpQuiet_nil ?_
                intro w7 hw7
                obtain ⟨s, rfl⟩ := hw7
                have HB2 := hid (HSX.out s)
                clear P0 P1 P2 Q0 Q1 Q2 HSX
                generalize s.out = w8 at *
                have hs2 : ∀ s : Ci.Ext w8, RowKit.Below wf.heap.size wf s.out := fun s => HB2.out.trans (s.below.mono HB2.out.size)
                have P2 := fun s : Ci.Ext w8 => ((hs2 s).cell (p := ⟨g, i * 3 + 2, none⟩) glt).trans p2
                have Q2 := fun s : Ci.Ext w8 => ((hs2 s).cell (p := ⟨gl, ol + j * 3 + 2, none⟩) glb).trans q2
                have HSX := hid hs2
                clear hs2
                go_wp2_with fail
                refine Ci.wp_region_ext2 (by kernel_rfl) (by kernel_rfl) (fun hne hcell => ?_)
                clear hcell
                repeat (go_big_quiet_step (fail))
                refine wpQuiet_nil ?_
                intro w7 hw7
                obtain ⟨s, rfl⟩ := hw7
                have HB2 := hid (HSX.out s)
                clear P2 Q2 HSX
                generalize s.out = w9 at *
                have hs2 : ∀ s : Ci.Ext w9, RowKit.Below wf.heap.size wf s.out := fun s => HB2.out.trans (s.below.mono HB2.out.size)
                have P2 := fun s : Ci.Ext w9 => ((hs2 s).cell (p := ⟨g, i * 3 + 2, none⟩) glt).trans p2
                have Q2 := fun s : Ci.Ext w9 => ((hs2 s).cell (p := ⟨gl, ol + j * 3 + 2, none⟩) glb).trans q2
                have HSX := hid hs2
                clear hs2
                go_wp2_with fail
                refine Ci.wp_region_ext2 (by kernel_rfl) (by kernel_rfl) (fun hne hcell => ?_)
                clear hcell
                repeat (go_big_quiet_step (fail))
                refine wpQuiet_nil ?_
                intro w7 hw7
                obtain ⟨s, rfl⟩ := hw7
                have HF2 := hid (HSX.out s)
                clear P2 Q2 HSX
                generalize s.out = w10 at *
                go_wp2
                go_round
                case rel => exact ⟨j + 1, true, by omega, by simp, rfl, hid ⟨fun _ => HNE.out.2 (.inl (HTB.out.1 trivial)), fun _ => rfl⟩, HF2⟩
                case measure => simp [intOf]; omega
      case neg =>
        have h2 : (cp == ci0) = false := by simpa using hce
        have h3 : ¬ ci0 < cp := by omega
        have hd3 : decide (ci0 < cp) = false := decide_eq_false h3
        clear hcz hce hcc
        go_wp2_with fail
        refine Ci.wp_region_ext2 (by kernel_rfl) (by kernel_rfl) (fun hne hcell => ?_)
        clear hcell
        repeat (go_big_quiet_step ((go_at_call 15; with_reducible exact HC1.out _)))
        refine wpQuiet_nil ?_
        intro w7 hw7
        obtain ⟨s, rfl⟩ := hw7
        have HBS := hid (HSX.out s)
        clear HSX P0 P1 P2 Q0 Q1 Q2 HC1 hi1 hi2 hi3 hi4 hi5 hwi
        generalize s.out = w8 at *
        generalize hii : i' + 1 = i at *
        rw [show (i' : Int) + 1 = (i : Int) by omega]
        go_wp2
        go_loopw [12, 13] (fun v12 v13 wr2 => ∃ (j : Nat) (b : Bool), j ≤ nl ∧ v13 = .int .i64 j ∧ v12 = .bool b ∧ Hid (b = true ↔ ri ∈ l.take j) ∧ Hid (Below wf.heap.size wf wr2)) (fun _ v13 _ => nl - (intOf v13).toNat)
        case atStart => exact ⟨0, false, by omega, rfl, rfl, hid (by simp), HBS⟩
        case round =>
          obtain ⟨j, b, hj, rfl, rfl, HTB, HB2⟩ := hrel
          by_cases hjl : j < nl
          case neg =>
            obtain rfl : j = nl := by omega
            have hbt : b = true := HTB.out.2 (by rw [List.take_of_length_le (by rw [← HNL.out]; omega)]; exact HIN.out.1)
            subst hbt
            go_wp2
            go_round
            case rel => exact ⟨i + 1, by omega, by simp, HB2⟩
            case measure => simp [intOf]; omega
          case pos =>
            have hjl2 : (j : Int) < (nl : Int) := by omega
            obtain ⟨gl, ol, cl, el, glb, hcs⟩ := HRA.out.has (by rw [← HNL.out]; omega)
            injection el with el1 _ el2
            subst el1 el2
            obtain ⟨fj, q0, q1, q2, hja⟩ := hcs j (by rw [← HNL.out]; exact hjl)
            have HTK := hid (take_snoc l j (by rw [← HNL.out]; exact hjl))
            have hmem := getD_mem nilRd l j (by rw [← HNL.out]; exact hjl)
            clear hcs
            generalize hrj : l.getD j nilRd = rj at *
            clear hrj
            have HLE := hid fun (h : rj.v = ri.v) => HIN.out.2 rj hmem h
            have HJA := hid hja
            clear hmem hja
            have hs2 : ∀ s : Ci.Ext wr, RowKit.Below wf.heap.size wf s.out := fun s => HB2.out.trans (s.below.mono HB2.out.size)
            have P0 := fun s : Ci.Ext wr => ((hs2 s).cell (p := ⟨g, i * 3, none⟩) glt).trans p0
            have P1 := fun s : Ci.Ext wr => ((hs2 s).cell (p := ⟨g, i * 3 + 1, none⟩) glt).trans p1
            have P2 := fun s : Ci.Ext wr => ((hs2 s).cell (p := ⟨g, i * 3 + 2, none⟩) glt).trans p2
            have Q0 := fun s : Ci.Ext wr => ((hs2 s).cell (p := ⟨gl, ol + j * 3, none⟩) glb).trans q0
            have Q1 := fun s : Ci.Ext wr => ((hs2 s).cell (p := ⟨gl, ol + j * 3 + 1, none⟩) glb).trans q1
            have Q2 := fun s : Ci.Ext wr => ((hs2 s).cell (p := ⟨gl, ol + j * 3 + 2, none⟩) glb).trans q2
            have HSX := hid hs2
            have HC2 := hid fun s : Ci.Ext wr => (rcmp_any rj.v ri.v (.agg #[.int .i64 rj.v.kind, fj]) (.agg #[.int .i64 ri.v.kind, fi]) s.out ⟨fj, rfl, (HJA.out.on (hs2 s)).ib⟩ ⟨fi, rfl, (HIA.out.on (hs2 s)).ib⟩).mono (fun e w' h => (⟨h.1, Ci.Ext.to s h.2⟩ : e = .returned (.int .i64 (cmpV rj.v ri.v)) ∧ ∃ s' : Ci.Ext wr, w' = s'.out))
            clear hs2
            have HZ := hid (cmpV_iff rj.v ri.v)
            have HXT : Hid (rj = ri ↔ rj.v = ri.v ∧ rj.cost = ri.cost) := hid ⟨fun h => by rw [h]; exact ⟨rfl, rfl⟩, fun h => Rd.ext' h.1 h.2⟩
            obtain ⟨z, hz⟩ : ∃ z, z = cmpV rj.v ri.v := ⟨_, rfl⟩
            rw [← hz] at HC2 HZ
            clear hz
            generalize hkj : rj.v.kind = kj at *
            generalize hki : ri.v.kind = ki at *
            generalize hcj : rj.cost = cj at *
            generalize hci : ri.cost = ci at *
            clear hkj hki hcj hci
            by_cases hz : z = 0
            case neg =>
              have hz2 : (z == 0) = false := by simpa using hz
              have HNE : Hid (ri ∈ l.take (j + 1) ↔ ri ∈ l.take j) := hid (by
                rw [HTK.out, List.mem_append, List.mem_singleton]
                exact ⟨fun h => h.elim id (fun h => absurd (HZ.out.2 (HXT.out.1 h.symm).1) hz), .inl⟩)
              clear hz
              go_wp2_with fail
              refine Ci.wp_region_ext2 (by kernel_rfl) (by kernel_rfl) (fun hne hcell => ?_)
              clear hcell
              repeat (go_big_quiet_step ((go_at_call 15; with_reducible exact HC2.out _)))
              refine wpQuiet_nil ?_
              intro w7 hw7
              obtain ⟨s, rfl⟩ := hw7
              have HF2 := hid (HSX.out s)
              clear P0 P1 P2 Q0 Q1 Q2 HSX
              generalize s.out = w10 at *
              go_wp2
              go_round
              case rel => exact ⟨j + 1, b, by omega, by simp, rfl, hid (HTB.out.trans HNE.out.symm), HF2⟩
              case measure => simp [intOf]; omega
            case pos =>
              have hle := HLE.out (HZ.out.1 hz)
              have hge : ¬ cj < ci := by omega
              have HNE : Hid (ri ∈ l.take (j + 1) ↔ ri ∈ l.take j ∨ cj = ci) := hid (by
                rw [HTK.out, List.mem_append, List.mem_singleton]
                exact ⟨fun h => h.imp id (fun h => (HXT.out.1 h.symm).2), fun h => h.imp id (fun h => (HXT.out.2 ⟨HZ.out.1 hz, h⟩).symm)⟩)
              subst hz
              clear hle
              cases b
              · by_cases hce : cj = ci
                · have hce2 : (cj == ci) = true := by simpa using hce
                  have HCE := hid hce
                  clear hce
                  go_wp2_with fail
                  refine Ci.wp_region_ext2 (by kernel_rfl) (by kernel_rfl) (fun hne hcell => ?_)
                  clear hcell
                  repeat (go_big_quiet_step ((go_at_call 15; with_reducible exact HC2.out _)))
                  refine wpQuiet_nil ?_
                  intro w7 hw7
                  obtain ⟨s, rfl⟩ := hw7
                  have HB2 := hid (HSX.out s)
                  clear P0 P1 P2 Q0 Q1 Q2 HSX
                  generalize s.out = w8 at *
                  have hs2 : ∀ s : Ci.Ext w8, RowKit.Below wf.heap.size wf s.out := fun s => HB2.out.trans (s.below.mono HB2.out.size)
                  have P2 := fun s : Ci.Ext w8 => ((hs2 s).cell (p := ⟨g, i * 3 + 2, none⟩) glt).trans p2
                  have Q2 := fun s : Ci.Ext w8 => ((hs2 s).cell (p := ⟨gl, ol + j * 3 + 2, none⟩) glb).trans q2
                  have HSX := hid hs2
                  clear hs2
                  go_wp2_with fail
                  refine Ci.wp_region_ext2 (by kernel_rfl) (by kernel_rfl) (fun hne hcell => ?_)
                  clear hcell
                  repeat (go_big_quiet_step (fail))
                  refine wpQuiet_nil ?_
                  intro w7 hw7
                  obtain ⟨s, rfl⟩ := hw7
                  have HB2 := hid (HSX.out s)
                  clear P2 Q2 HSX
                  generalize s.out = w9 at *
                  have hs2 : ∀ s : Ci.Ext w9, RowKit.Below wf.heap.size wf s.out := fun s => HB2.out.trans (s.below.mono HB2.out.size)
                  have P2 := fun s : Ci.Ext w9 => ((hs2 s).cell (p := ⟨g, i * 3 + 2, none⟩) glt).trans p2
                  have Q2 := fun s : Ci.Ext w9 => ((hs2 s).cell (p := ⟨gl, ol + j * 3 + 2, none⟩) glb).trans q2
                  have HSX := hid hs2
                  clear hs2
                  go_wp2_with fail
                  refine Ci.wp_region_ext2 (by kernel_rfl) (by kernel_rfl) (fun hne hcell => ?_)
                  clear hcell
                  repeat (go_big_quiet_step (fail))
                  refine wpQuiet_nil ?_
                  intro w7 hw7
                  obtain ⟨s, rfl⟩ := hw7
                  have HF2 := hid (HSX.out s)
                  clear P2 Q2 HSX
                  generalize s.out = w10 at *
                  go_wp2
                  go_round
                  case rel => exact ⟨j + 1, true, by omega, by simp, rfl, hid ⟨fun _ => HNE.out.2 (.inr HCE.out), fun _ => rfl⟩, HF2⟩
                  case measure => simp [intOf]; omega
                · have hce2 : (cj == ci) = false := by simpa using hce
                  have HCE := hid hce
                  clear hce
                  go_wp2_with fail
                  refine Ci.wp_region_ext2 (by kernel_rfl) (by kernel_rfl) (fun hne hcell => ?_)
                  clear hcell
                  repeat (go_big_quiet_step ((go_at_call 15; with_reducible exact HC2.out _)))
                  refine wpQuiet_nil ?_
                  intro w7 hw7
                  obtain ⟨s, rfl⟩ := hw7
                  have HB2 := hid (HSX.out s)
                  clear P0 P1 P2 Q0 Q1 Q2 HSX
                  generalize s.out = w8 at *
                  have hs2 : ∀ s : Ci.Ext w8, RowKit.Below wf.heap.size wf s.out := fun s => HB2.out.trans (s.below.mono HB2.out.size)
                  have P2 := fun s : Ci.Ext w8 => ((hs2 s).cell (p := ⟨g, i * 3 + 2, none⟩) glt).trans p2
                  have Q2 := fun s : Ci.Ext w8 => ((hs2 s).cell (p := ⟨gl, ol + j * 3 + 2, none⟩) glb).trans q2
                  have HSX := hid hs2
                  clear hs2
                  go_wp2_with fail
                  refine Ci.wp_region_ext2 (by kernel_rfl) (by kernel_rfl) (fun hne hcell => ?_)
                  clear hcell
                  repeat (go_big_quiet_step (fail))
                  refine wpQuiet_nil ?_
                  intro w7 hw7
                  obtain ⟨s, rfl⟩ := hw7
                  have HB2 := hid (HSX.out s)
                  clear P2 Q2 HSX
                  generalize s.out = w9 at *
                  have hs2 : ∀ s : Ci.Ext w9, RowKit.Below wf.heap.size wf s.out := fun s => HB2.out.trans (s.below.mono HB2.out.size)
                  have P2 := fun s : Ci.Ext w9 => ((hs2 s).cell (p := ⟨g, i * 3 + 2, none⟩) glt).trans p2
                  have Q2 := fun s : Ci.Ext w9 => ((hs2 s).cell (p := ⟨gl, ol + j * 3 + 2, none⟩) glb).trans q2
                  have HSX := hid hs2
                  clear hs2
                  go_wp2_with fail
                  refine Ci.wp_region_ext2 (by kernel_rfl) (by kernel_rfl) (fun hne hcell => ?_)
                  clear hcell
                  repeat (go_big_quiet_step (fail))
                  refine wpQuiet_nil ?_
                  intro w7 hw7
                  obtain ⟨s, rfl⟩ := hw7
                  have HF2 := hid (HSX.out s)
                  clear P2 Q2 HSX
                  generalize s.out = w10 at *
                  go_wp2
                  go_round
                  case rel => exact ⟨j + 1, false, by omega, by simp, rfl, hid ⟨fun h => (by cases h), fun h => (HNE.out.1 h).elim (fun h => HTB.out.2 h) (fun h => absurd h HCE.out)⟩, HF2⟩
                  case measure => simp [intOf]; omega
              · skip
                go_wp2_with fail
                refine Ci.wp_region_ext2 (by kernel_rfl) (by kernel_rfl) (fun hne hcell => ?_)
                clear hcell
                repeat (go_big_quiet_step ((go_at_call 15; with_reducible exact HC2.out _)))
                refine wpQuiet_nil ?_
                intro w7 hw7
                obtain ⟨s, rfl⟩ := hw7
                have HB2 := hid (HSX.out s)
                clear P0 P1 P2 Q0 Q1 Q2 HSX
                generalize s.out = w8 at *
                have hs2 : ∀ s : Ci.Ext w8, RowKit.Below wf.heap.size wf s.out := fun s => HB2.out.trans (s.below.mono HB2.out.size)
                have P2 := fun s : Ci.Ext w8 => ((hs2 s).cell (p := ⟨g, i * 3 + 2, none⟩) glt).trans p2
                have Q2 := fun s : Ci.Ext w8 => ((hs2 s).cell (p := ⟨gl, ol + j * 3 + 2, none⟩) glb).trans q2
                have HSX := hid hs2
                clear hs2
                go_wp2_with fail
                refine Ci.wp_region_ext2 (by kernel_rfl) (by kernel_rfl) (fun hne hcell => ?_)
                clear hcell
                repeat (go_big_quiet_step (fail))
                refine wpQuiet_nil ?_
                intro w7 hw7
                obtain ⟨s, rfl⟩ := hw7
                have HB2 := hid (HSX.out s)
                clear P2 Q2 HSX
                generalize s.out = w9 at *
                have hs2 : ∀ s : Ci.Ext w9, RowKit.Below wf.heap.size wf s.out := fun s => HB2.out.trans (s.below.mono HB2.out.size)
                have P2 := fun s : Ci.Ext w9 => ((hs2 s).cell (p := ⟨g, i * 3 + 2, none⟩) glt).trans p2
                have Q2 := fun s : Ci.Ext w9 => ((hs2 s).cell (p := ⟨gl, ol + j * 3 + 2, none⟩) glb).trans q2
                have HSX := hid hs2
                clear hs2
                go_wp2_with fail
                refine Ci.wp_region_ext2 (by kernel_rfl) (by kernel_rfl) (fun hne hcell => ?_)
                clear hcell
                repeat (go_big_quiet_step (fail))
                refine wpQuiet_nil ?_
                intro w7 hw7
                obtain ⟨s, rfl⟩ := hw7
                have HF2 := hid (HSX.out s)
                clear P2 Q2 HSX
                generalize s.out = w10 at *
                go_wp2
                go_round
                case rel => exact ⟨j + 1, true, by omega, by simp, rfl, hid ⟨fun _ => HNE.out.2 (.inl (HTB.out.1 trivial)), fun _ => rfl⟩, HF2⟩
                case measure => simp [intOf]; omega

theorem own : ownKnob Tryd.prog.godebug = none := by kernel_rfl

theorem table {W : World} (h : laidMetH Tryd.prog Rows.rankOrderRow.laid W) : Tab W := by
  rw [MakeChecks.laidMetH_plain _ _ _ (by kernel_rfl)] at h
  exact tab_of_laid h

set_option maxRecDepth 100000 in
theorem lifted (os : Os) (started : os.Started) (H : Type) (enc : TypeId × Value → H) :
    ReturnsInHanded {} Tryd.checked os 5 .any (fun w args => (Rows.rankOrderSpec.pre enc Tryd.prog Tryd.f5 Rows.rankOrderRow.domain false w args ∧ laidMetH Tryd.prog Rows.rankOrderRow.laid w) ∧ sizedMet enc Tryd.prog Tryd.f5 (OpenSpec.ofChange Rows.rankOrderSpec) false w args)
      (Rows.rankOrderSpec.post enc Tryd.prog Tryd.f5 false true false false) := by
  refine returnsInHanded_of_change_and (C := Tryd.checked) (X := fun w _ => laidMetH Tryd.prog Rows.rankOrderRow.laid w) (fun _ _ _ hh h => h.of_heap hh) own started (by kernel_rfl) Tryd.func5
    (ChangeSpec.witness_shaped (enc := enc) (C := Tryd.checked) (os := os) (X := fun w _ => laidMetH Tryd.prog Rows.rankOrderRow.laid w) false (World.laidAll Tryd.prog os Rows.rankOrderRow.laid) #[.slice none 0 0, .int .i64 0] 8 (World.laidAll_os _ _ _)
      (World.shaped_of_ZipB (by kernel_rfl) (by kernel_rfl)) (by kernel_rfl) (by kernel_rfl) (by kernel_rfl)
      (by rw [MakeChecks.laidMetH_plain _ _ _ (by kernel_rfl)]; exact laidMet_laidAll _ (by kernel_rfl) (by kernel_rfl))) ?_
  intro W base args ds gs before hval0 hW _ _ hL _
  have hval : ∀ (j : Nat) t v, Tryd.f5.params[j]? = some t → args[j]? = some v → Value.okWide Tryd.prog W .any base t v := hval0
  have hW' := hW
  obtain ⟨p, q, hA0, hV, rfl, hfz, hnd⟩ := hW
  have hA : DataW.TrodAll enc Tryd.prog W 0 (fun _ => true) true Tryd.f5.params.toList args.toList ds p := hA0
  rw [Tryd.params5] at hA hval
  obtain ⟨v0, vs0, d0, ds0, p0, q0, hargs, rfl, rfl, h0, r0⟩ := trodAll_cons hA
  obtain ⟨v1, vs1, d1, ds1, p1, q1, rfl, rfl, rfl, h1, r1⟩ := trodAll_cons r0
  obtain ⟨rfl, rfl, rfl⟩ := trodAll_nil r1
  obtain rfl : args = #[v0, v1] := by cases args; simp_all
  obtain ⟨rfl, rfl⟩ := trodVars_none hV
  obtain ⟨x0, w0⟩ := ints_at (hval 0 22 v0 rfl rfl) h0
  have l0 : ∀ x ∈ p0, x.block < W.heap.size := fun x hx => hW'.lt x (by simp [hx])
  obtain ⟨a1, rfl, rfl, rfl, w1⟩ := open_int Tryd.underlying3 (hval 1 3 v1 rfl rfl) h1
  clear hA0 hval0
  refine (walk v0 x0 a1 W w0 w1 (table hL)).mono fun e W' ⟨he, bel⟩ => ?_
  subst he
  exact ⟨_, rfl, _, _, _, _, _, [], hW', trodAll_mk1 (shut_bool Tryd.underlying4 _), (trodAll_cons_mk (Below.trod (by kernel_rfl) (by kernel_rfl) (of_decide_eq_true (by kernel_rfl)) h0 bel l0) (trodAll_cons_mk (shut_int Tryd.underlying3 w1) trodAll_mk0)), rfl, bel.frame _, fun h => by cases h⟩

theorem row_holds : Rows.RankOrderSaid :=
  OpenClaim.holds_of_wide 5 Tryd.f5 rfl rfl rfl rfl rfl rfl rfl ⟨rfl, rfl, rfl, rfl, rfl⟩ rfl rfl rfl rfl rfl (by kernel_rfl) Tryd.func5 (by kernel_rfl)
    (of_decide_eq_true (by kernel_rfl)) (by unfold Func.isWrapper; first | (rw [if_pos (by decide +kernel)]; kernel_rfl) | (rw [if_neg (by decide +kernel)]; exact ⟨rfl, rfl⟩))
    (fun os started H enc _ => lifted os started H enc)

theorem rankOrder_holds : Rows.RankOrderCardSaid :=
  Claim7.holds_tied_plain_at .later [] _ _ _ _ row_holds (fun _ h => by cases h) (by kernel_rfl) (fun _ h => by cases h) rankOrder_row_tie rfl ⟨rfl, rfl⟩ (by kernel_rfl) rfl
    (fun f fn hf hfn => by
      obtain rfl : f = 5 := Option.some.inj ((show Tryd.prog.funcNamed "interlocutor/interlocutorlaw10.RankOrder" = some 5 by kernel_rfl).symm.trans hf) |>.symm
      obtain rfl : fn = Tryd.f5 := (Option.some.inj (Tryd.func5.symm.trans hfn)).symm
      exact ⟨by kernel_rfl, fun j t ht => by
        rw [Tryd.params5] at ht
        have hm : t ∈ [22, 3] := by simpa using Array.mem_of_getElem? ht
        have hall : ([22, 3].all fun u => !Tryd.prog.wantsStandIn u) = true := by kernel_rfl
        exact (show Tryd.prog.wantsStandIn t = false by simpa using List.all_eq_true.1 hall t hm)⟩)
    (by kernel_rfl)

end Go.Proofs.YtjocpbcmehicmaaDoor
