/- RankTurned answers true of any numbers, any order: readings in another order have the same best. The tables of the library are as listed. -/
import Derived.Test.YtjocpbcmehicmaaDoorCards
import Derived.Test.YtjocpbcmehicmaaDoorTie
import Derived.Test.YtjocpbcmehicmaaDoorSwap
import Derived.Test.YtjocpbcmehicmaaDoorSame
import Derived.Test.YtjocpbcmehicmaaDoorMath3
import Derived.ProofKit
import Derived.OpenShut
import Derived.Lay
import Derived.SevenTiedAt
import Derived.Stop.Joined
import Derived.Lib.LaidTab
import Derived.Deep.Cut
import Derived.Deep.CutBlock
namespace Go.Proofs.YtjocpbcmehicmaaDoor
open Go.ChangeShapes Go.WideShapes Go.ChangeAt Go.RowKit


theorem set_some {w : World} {g i k : Nat} {v x : Value} (h : w.cell? ⟨g, k, none⟩ = some x) : ∃ c, (w.setCell ⟨g, i, none⟩ v).cell? ⟨g, k, none⟩ = some c := by
  by_cases e : i = k
  · subst e
    exact ⟨v, World.cell?_setCell_same' _ _ _ (by rw [h]; rfl)⟩
  · refine ⟨x, ?_⟩
    rw [World.cell?_setCell_other (w := w) (v := v) (a := ⟨g, i, none⟩) (b := ⟨g, k, none⟩) (by intro he; injection he with _ he; exact e he)]
    exact h
theorem map_swap {ps : List (Value × Rd)} {a b : Nat} {p q : Value × Rd} (ha : ps[a]? = some p) (hb : ps[b]? = some q) (r : Rd) : r ∈ (swapL ps a b p q).map Prod.snd ↔ r ∈ ps.map Prod.snd := by
  simp only [List.mem_map, swap_mem ha hb]

set_option maxRecDepth 8000 in
set_option maxHeartbeats 8000000 in
theorem walk (v0 : Value) (ns : List Int) (v1 : Value) (ms : List Int) (a2 : Int) (W : World) (w0 : IX W v0 ns) (w1 : IX W v1 ms) (w2 : (Lit.int .i64 a2).wf = true) (hT : Tab W) :
    Calls Tryd.prog 6 #[v0, v1, .int .i64 a2] W fun e W' => e = .returned (.bool true) ∧ Below W.heap.size W W' := by
  obtain ⟨b0, b1⟩ := wf_bd w2
  obtain ⟨F, hF⟩ := mk_ex
  have HK := hid (known_any W hT)
  have HW := hid fun w => within_any a2 50 w (by decide) (by decide) b0 b1
  have hk : 0 ≤ a2 % 50 ∧ a2 % 50 < 50 := by omega
  generalize a2 % 50 = k at *
  have HM := hid fun w (hb : Below W.heap.size W w) => make_any F hF ns v0 40 (by decide) W w w0 hb
  have hshape : ∃ ad n cap, v0 = .slice ad n cap := by obtain ⟨ad, cap, e, _⟩ := w0; exact ⟨ad, _, cap, e⟩
  obtain ⟨ad, n0, cap, rfl⟩ := hshape
  obtain ⟨ad1, cap1, rfl, h1, h2, hcell, hrange⟩ := w1
  have HC := hid hcell
  have HRG := hid hrange
  obtain ⟨n1, hn1⟩ : ∃ n, n = ms.length := ⟨_, rfl⟩
  have HN := hid hn1
  have n63 : n1 ≤ 9223372036854775807 := by unfold maxLen at h2; omega
  rw [← hn1] at h1 ⊢
  clear w0 w2 hT hcell hrange hn1 h2
  go_enter Tryd.func6, Tryd.ntmps6
  go_wp2_with fail
  refine HK.out.mono ?_
  rintro e wb ⟨rfl, hb⟩
  have HB := hid hb
  clear hb
  go_wp2_with fail
  refine (HM.out wb HB.out).mono ?_
  rintro e wc ⟨u, rfl, ps, hps, hrw, hb⟩
  have HBC := hid (HB.out.trans (hb.mono HB.out.size))
  have HP := hid hrw
  have HPS := hid hps
  clear hps hrw hb
  go_wp2_with fail
  refine (HM.out wc HBC.out).mono ?_
  rintro e wd ⟨u2, rfl, qs, hqs, hrw, hb⟩
  have HBD := hid (HBC.out.trans (hb.mono HBC.out.size))
  have hl : ps.length ≤ 40 := by have := congrArg List.length HPS.out; rw [List.length_map, List.length_take] at this; omega
  have hl2 : qs.length ≤ 40 := by have := congrArg List.length hqs; rw [List.length_map, List.length_take] at this; omega
  have HR1 := hid ((HP.out.on hb).ra (by omega))
  have HRC := hid (HP.out.ra (by omega))
  have HBCD := hid hb
  have HPW := hid (HP.out.on hb)
  have HQW := hid hrw
  have HQS := hid hqs
  have HWC := hid HBC.out.size
  have HWW := hid (show wc.heap.size ≤ wd.heap.size from hb.size)
  have HPL : Hid (∀ b, u.ownBlock = some b → b < wc.heap.size) := hid (fun b e => (HP.out.row.lt b e).2)
  rw [HPS.out] at HR1 HRC
  generalize (ns.map F).take 40 = L at *
  clear hqs hrw hb HP
  rcases HQW.out.row.2 with ⟨e0, h0⟩ | ⟨g, capm, cur, e0, hgB, _, hcm, hcm2, _, _⟩
  case inl =>
    subst e0
    have hq0 : qs = [] := List.length_eq_zero_iff.1 h0
    have hL : L = [] := by rw [← HQS.out, hq0]; rfl
    subst hL
    clear h0 hq0
    have HL1 := hid HR1.out
    have HL2 : Hid (RA wd (.slice none 0 0) []) := hid ⟨none, 0, rfl, ⟨by decide, by decide, by decide⟩, .inl ⟨rfl, rfl, rfl⟩⟩
    obtain ⟨L, hLe⟩ : ∃ L : List Rd, L = [] := ⟨_, rfl⟩
    rw [← hLe] at HL1 HL2
    obtain ⟨L2, hLe2⟩ : ∃ L2 : List Rd, L2 = L := ⟨_, rfl⟩
    rw [← hLe2] at HL2
    have HSM : Hid (∀ r, r ∈ L ↔ r ∈ L2) := hid (by rw [hLe2]; intro r; exact Iff.rfl)
    clear hLe hLe2
    go_wp2
    go_loopw [9] (fun v wr => v = .int .i64 0 ∧ Hid (Below wd.heap.size wd wr)) (fun _ _ => 0)
    case atStart => exact ⟨rfl, hid (Below.refl _ _)⟩
    case round =>
      obtain ⟨rfl, HBR⟩ := hrel
      have HL1 := hid (HL1.out.on HBR.out)
      have HL2 := hid (HL2.out.on HBR.out)
      by_cases hn : (0 : Int) < (n1 : Int)
      · skip
        go_wp2_with fail
        refine (HW.out _).mono ?_
        rintro e wq ⟨rfl, hw⟩
        obtain rfl := hw.symm
        clear hw
        have HBE := hid (best_any L _ k wr HL1.out hk.1)
        go_wp2_with fail
        refine HBE.out.mono ?_
        rintro e w5 ⟨o1, va, hb1, rfl, hro, hb⟩
        have O1 := hid hb1
        have RA1 := hid hro
        have HL2 := hid (HL2.out.on hb)
        have HB5 := hid (HBR.out.trans (hb.mono HBR.out.size))
        clear hb1 hro hb HBE
        go_wp2_with fail
        refine (HW.out _).mono ?_
        rintro e wq ⟨rfl, hw⟩
        obtain rfl := hw.symm
        clear hw
        have HBE := hid (best_any L2 _ k w5 HL2.out hk.1)
        go_wp2_with fail
        refine HBE.out.mono ?_
        rintro e w6 ⟨o2, vb, hb2, rfl, hro, hb⟩
        obtain rfl : o2 = o1 := hb2.unique (O1.out.of_same HSM.out)
        have HSA := hid (same_any _ va vb w6 (RA1.out.ra.on hb) hro.ra)
        have HB6 := hid (HB5.out.trans (hb.mono HB5.out.size))
        generalize decide (k < (o2.length : Int)) = cut at *
        clear hb2 hro hb HBE
        go_wp2_with fail
        refine HSA.out.mono ?_
        rintro e w7 ⟨rfl, hb⟩
        have HB7 := hid (HBD.out.trans ((HB6.out.trans (hb.mono HB6.out.size)).mono HBD.out.size))
        clear hb
        go_wp2
        go_ret
        exact ⟨rfl, HB7.out⟩
      · skip
        go_wp2_with fail
        refine (HW.out _).mono ?_
        rintro e wq ⟨rfl, hw⟩
        obtain rfl := hw.symm
        clear hw
        have HBE := hid (best_any L _ k wr HL1.out hk.1)
        go_wp2_with fail
        refine HBE.out.mono ?_
        rintro e w5 ⟨o1, va, hb1, rfl, hro, hb⟩
        have O1 := hid hb1
        have RA1 := hid hro
        have HL2 := hid (HL2.out.on hb)
        have HB5 := hid (HBR.out.trans (hb.mono HBR.out.size))
        clear hb1 hro hb HBE
        go_wp2_with fail
        refine (HW.out _).mono ?_
        rintro e wq ⟨rfl, hw⟩
        obtain rfl := hw.symm
        clear hw
        have HBE := hid (best_any L2 _ k w5 HL2.out hk.1)
        go_wp2_with fail
        refine HBE.out.mono ?_
        rintro e w6 ⟨o2, vb, hb2, rfl, hro, hb⟩
        obtain rfl : o2 = o1 := hb2.unique (O1.out.of_same HSM.out)
        have HSA := hid (same_any _ va vb w6 (RA1.out.ra.on hb) hro.ra)
        have HB6 := hid (HB5.out.trans (hb.mono HB5.out.size))
        generalize decide (k < (o2.length : Int)) = cut at *
        clear hb2 hro hb HBE
        go_wp2_with fail
        refine HSA.out.mono ?_
        rintro e w7 ⟨rfl, hb⟩
        have HB7 := hid (HBD.out.trans ((HB6.out.trans (hb.mono HB6.out.size)).mono HBD.out.size))
        clear hb
        go_wp2
        go_ret
        exact ⟨rfl, HB7.out⟩
  case inr =>
    obtain ⟨n, hn⟩ : ∃ n, n = qs.length := ⟨_, rfl⟩
    subst e0
    have HGB := hid hgB
    have HRG0 : Hid (RG wc.heap.size wd g capm qs) := hid HQW.out
    have HM0 : Hid (∀ r, r ∈ qs.map Prod.snd ↔ r ∈ L) := hid (by rw [HQS.out]; intro r; exact Iff.rfl)
    rw [← hn] at hcm hl2 ⊢
    have HLN := hid hn.symm
    clear hgB hn HQS
    go_wp2
    go_loopw [9] (fun v wr => ∃ (j : Nat) (qs' : List (Value × Rd)), j ≤ n1 ∧ j ≤ 40 ∧ v = .int .i64 j ∧ Hid (qs'.length = n) ∧ Hid (∀ r, r ∈ qs'.map Prod.snd ↔ r ∈ L) ∧ Hid (RG wc.heap.size wr g capm qs') ∧ Hid (Below wc.heap.size wc wr)) (fun v _ => n1 - (intOf v).toNat)
    case atStart => exact ⟨0, qs, by omega, by omega, rfl, HLN, HM0, HRG0, HBCD⟩
    case round =>
      obtain ⟨j, qs', hj, hj40, rfl, HLL, HMM, HRR, HBR⟩ := hrel
      have TL : Hid (RA wr u L ∧ RA wr (.slice (some ⟨g, 0, none⟩) n capm) (qs'.map Prod.snd)) := hid ⟨HRC.out.on HBR.out, by have := HRR.out.ra (by rw [HLL.out]; omega); unfold RG at *; rw [HLL.out] at this; exact this⟩
      by_cases hgo : j < n1 ∧ j < 40 ∧ 0 < n
      case neg =>
        have HL1 := hid TL.out.1
        have HL2 := hid TL.out.2
        have HSM : Hid (∀ r, r ∈ L ↔ r ∈ qs'.map Prod.snd) := hid (fun r => (HMM.out r).symm)
        obtain ⟨L2, hL2⟩ : ∃ L2, L2 = qs'.map Prod.snd := ⟨_, rfl⟩
        rw [← hL2] at HL2 HSM
        clear hL2 TL HMM HRR
        by_cases hlt : j < n1
        case neg =>
          have hlt2 : ¬ (j : Int) < (n1 : Int) := by omega
          go_wp2_with fail
          refine (HW.out _).mono ?_
          rintro e wq ⟨rfl, hw⟩
          obtain rfl := hw.symm
          clear hw
          have HBE := hid (best_any L _ k wr HL1.out hk.1)
          go_wp2_with fail
          refine HBE.out.mono ?_
          rintro e w5 ⟨o1, va, hb1, rfl, hro, hb⟩
          have O1 := hid hb1
          have RA1 := hid hro
          have HL2 := hid (HL2.out.on hb)
          have HB5 := hid (HBR.out.trans (hb.mono HBR.out.size))
          clear hb1 hro hb HBE
          go_wp2_with fail
          refine (HW.out _).mono ?_
          rintro e wq ⟨rfl, hw⟩
          obtain rfl := hw.symm
          clear hw
          have HBE := hid (best_any L2 _ k w5 HL2.out hk.1)
          go_wp2_with fail
          refine HBE.out.mono ?_
          rintro e w6 ⟨o2, vb, hb2, rfl, hro, hb⟩
          obtain rfl : o2 = o1 := hb2.unique (O1.out.of_same HSM.out)
          have HSA := hid (same_any _ va vb w6 (RA1.out.ra.on hb) hro.ra)
          have HB6 := hid (HB5.out.trans (hb.mono HB5.out.size))
          generalize decide (k < (o2.length : Int)) = cut at *
          clear hb2 hro hb HBE
          go_wp2_with fail
          refine HSA.out.mono ?_
          rintro e w7 ⟨rfl, hb⟩
          have HB7 := hid (HBC.out.trans ((HB6.out.trans (hb.mono HB6.out.size)).mono HBC.out.size))
          clear hb
          go_wp2
          go_ret
          exact ⟨rfl, HB7.out⟩
        case pos =>
          have hlt2 : (j : Int) < (n1 : Int) := by omega
          by_cases hlt4 : j < 40
          case neg =>
            have hlt3 : ¬ (j : Int) < 40 := by omega
            go_wp2_with fail
            refine (HW.out _).mono ?_
            rintro e wq ⟨rfl, hw⟩
            obtain rfl := hw.symm
            clear hw
            have HBE := hid (best_any L _ k wr HL1.out hk.1)
            go_wp2_with fail
            refine HBE.out.mono ?_
            rintro e w5 ⟨o1, va, hb1, rfl, hro, hb⟩
            have O1 := hid hb1
            have RA1 := hid hro
            have HL2 := hid (HL2.out.on hb)
            have HB5 := hid (HBR.out.trans (hb.mono HBR.out.size))
            clear hb1 hro hb HBE
            go_wp2_with fail
            refine (HW.out _).mono ?_
            rintro e wq ⟨rfl, hw⟩
            obtain rfl := hw.symm
            clear hw
            have HBE := hid (best_any L2 _ k w5 HL2.out hk.1)
            go_wp2_with fail
            refine HBE.out.mono ?_
            rintro e w6 ⟨o2, vb, hb2, rfl, hro, hb⟩
            obtain rfl : o2 = o1 := hb2.unique (O1.out.of_same HSM.out)
            have HSA := hid (same_any _ va vb w6 (RA1.out.ra.on hb) hro.ra)
            have HB6 := hid (HB5.out.trans (hb.mono HB5.out.size))
            generalize decide (k < (o2.length : Int)) = cut at *
            clear hb2 hro hb HBE
            go_wp2_with fail
            refine HSA.out.mono ?_
            rintro e w7 ⟨rfl, hb⟩
            have HB7 := hid (HBC.out.trans ((HB6.out.trans (hb.mono HB6.out.size)).mono HBC.out.size))
            clear hb
            go_wp2
            go_ret
            exact ⟨rfl, HB7.out⟩
          case pos =>
            have hlt3 : (j : Int) < 40 := by omega
            have hn0 : ¬ (0 : Int) < (n : Int) := by omega
            go_wp2_with fail
            refine (HW.out _).mono ?_
            rintro e wq ⟨rfl, hw⟩
            obtain rfl := hw.symm
            clear hw
            have HBE := hid (best_any L _ k wr HL1.out hk.1)
            go_wp2_with fail
            refine HBE.out.mono ?_
            rintro e w5 ⟨o1, va, hb1, rfl, hro, hb⟩
            have O1 := hid hb1
            have RA1 := hid hro
            have HL2 := hid (HL2.out.on hb)
            have HB5 := hid (HBR.out.trans (hb.mono HBR.out.size))
            clear hb1 hro hb HBE
            go_wp2_with fail
            refine (HW.out _).mono ?_
            rintro e wq ⟨rfl, hw⟩
            obtain rfl := hw.symm
            clear hw
            have HBE := hid (best_any L2 _ k w5 HL2.out hk.1)
            go_wp2_with fail
            refine HBE.out.mono ?_
            rintro e w6 ⟨o2, vb, hb2, rfl, hro, hb⟩
            obtain rfl : o2 = o1 := hb2.unique (O1.out.of_same HSM.out)
            have HSA := hid (same_any _ va vb w6 (RA1.out.ra.on hb) hro.ra)
            have HB6 := hid (HB5.out.trans (hb.mono HB5.out.size))
            generalize decide (k < (o2.length : Int)) = cut at *
            clear hb2 hro hb HBE
            go_wp2_with fail
            refine HSA.out.mono ?_
            rintro e w7 ⟨rfl, hb⟩
            have HB7 := hid (HBC.out.trans ((HB6.out.trans (hb.mono HB6.out.size)).mono HBC.out.size))
            clear hb
            go_wp2
            go_ret
            exact ⟨rfl, HB7.out⟩
      case pos =>
        clear TL
        obtain ⟨hlt, hlt40, hn0⟩ := hgo
        have hlt2 : (j : Int) < (n1 : Int) := by omega
        have hlt3 : (j : Int) < 40 := by omega
        have hn2 : (0 : Int) < (n : Int) := by omega
        obtain ⟨b, o, e1, hbl, hcs⟩ := HC.out (by rw [← HN.out]; omega)
        subst e1
        have c0 := ((HBC.out.trans (HBR.out.mono HBC.out.size)).cell hbl).trans (hcs j (by rw [← HN.out]; exact hlt))
        clear hcs
        have hx := HRG.out _ (getD_mem 0 ms j (by rw [← HN.out]; exact hlt))
        generalize ms.getD j 0 = y at *
        have H1 := hid fun w => within_any y n w hn2 (by omega) hx.1 hx.2
        obtain ⟨bI, hbI, hbn⟩ : ∃ bI : Nat, y % (n : Int) = bI ∧ bI < n := by
          have h1 := Int.emod_nonneg y (show (n : Int) ≠ 0 by omega)
          have h2 := Int.emod_lt_of_pos y hn2
          exact ⟨(y % n).toNat, by omega, by omega⟩
        rw [hbI] at H1
        obtain ⟨aI, haI, han⟩ : ∃ aI : Nat, (j : Int) % (n : Int) = aI ∧ aI < n := by
          have h1 := Int.emod_nonneg (j : Int) (show (n : Int) ≠ 0 by omega)
          have h2 := Int.emod_lt_of_pos (j : Int) hn2
          exact ⟨((j : Int) % n).toNat, by omega, by omega⟩
        clear hx hbI
        go_wp2_with fail
        go_quiet ((go_at_call 17; exact (H1.out _).mono (fun e w' h => ⟨h.1, _, h.2⟩)))
        rw [haI]
        clear haI c0 H1
        have HR3 := hid (show RG wc.heap.size (wr.drewN nq) g capm qs' from RW.on HRR.out (below_drewN (Below.refl _ _) _))
        have HB3 := hid (below_drewN HBR.out nq)
        generalize wr.drewN nq = w3 at *
        obtain ⟨p, hp⟩ : ∃ p, qs'[aI]? = some p := ⟨_, List.getElem?_eq_getElem (by rw [HLL.out]; exact han)⟩
        obtain ⟨q, hq⟩ : ∃ q, qs'[bI]? = some q := ⟨_, List.getElem?_eq_getElem (by rw [HLL.out]; exact hbn)⟩
        obtain ⟨⟨x0, x1, x2⟩, fz⟩ := HR3.out.cells hp
        obtain ⟨⟨z0, z1, z2⟩, _⟩ := HR3.out.cells hq
        have HP2 := hid (HR3.out.put2 hp hq)
        have HMP := hid fun r => (map_swap hp hq r).trans (HMM.out r)
        have HLP := hid ((swapL_len qs' aI bI p q).trans HLL.out)
        obtain ⟨fp, cp, efp, _, _, _⟩ := (HR3.out.nums p (List.mem_of_getElem? hp)).1.ia.shape
        obtain ⟨fq, cq, efq, _, _, _⟩ := (HR3.out.nums q (List.mem_of_getElem? hq)).1.ia.shape
        rw [efp] at x1 HP2
        rw [efq] at z1 HP2
        generalize p.2.v.f.length = lp at *
        generalize q.2.v.f.length = lq at *
        generalize p.2.v.kind = kp at *
        generalize q.2.v.kind = kq at *
        generalize p.2.cost = cop at *
        generalize q.2.cost = coq at *
        have ha2 : (aI : Int) < (n : Int) := by omega
        have hb2 : (bI : Int) < (n : Int) := by omega
        have f0 := fz (aI * 3)
        have f1 := fz (aI * 3 + 1)
        have f2 := fz (aI * 3 + 2)
        have f3 := fz (bI * 3)
        have f4 := fz (bI * 3 + 1)
        have f5 := fz (bI * 3 + 2)
        obtain ⟨m0, r0⟩ := set_some (g := g) (i := aI * 3) (v := .int .i64 kq) z0
        obtain ⟨_, r1'⟩ := set_some (g := g) (i := aI * 3) (v := .int .i64 kq) z1
        obtain ⟨m1, r1⟩ := set_some (g := g) (i := aI * 3 + 1) (v := .slice fq lq cq) r1'
        obtain ⟨_, r2'⟩ := set_some (g := g) (i := aI * 3) (v := .int .i64 kq) z2
        obtain ⟨_, r2''⟩ := set_some (g := g) (i := aI * 3 + 1) (v := .slice fq lq cq) r2'
        obtain ⟨m2, r2⟩ := set_some (g := g) (i := aI * 3 + 2) (v := .int .i64 coq) r2''
        obtain ⟨m3, r3⟩ := set_some (g := g) (i := bI * 3) (v := .int .i64 kp) x0
        obtain ⟨_, r4'⟩ := set_some (g := g) (i := bI * 3) (v := .int .i64 kp) x1
        obtain ⟨m4, r4⟩ := set_some (g := g) (i := bI * 3 + 1) (v := .slice fp lp cp) r4'
        obtain ⟨_, r5'⟩ := set_some (g := g) (i := bI * 3) (v := .int .i64 kp) x2
        obtain ⟨_, r5''⟩ := set_some (g := g) (i := bI * 3 + 1) (v := .slice fp lp cp) r5'
        obtain ⟨m5, r5⟩ := set_some (g := g) (i := bI * 3 + 2) (v := .int .i64 cop) r5''
        clear r1' r2' r2'' r4' r5' r5''
        clear efp efq fz hp hq
        go_wp2_with fail
        go_region
        · have HN := hid (show RG wc.heap.size _ g capm (swapL qs' aI bI p q) from RW.on HP2.out (below_drewN (Below.refl _ _) 1))
          clear HP2
          go_wp2
          go_round
          case rel => exact ⟨j + 1, (swapL qs' aI bI p q), by omega, by omega, by simp, HLP, hid HMP.out, HN, hid ((((((((HB3.out.setCell (p := ⟨g, _, none⟩) HGB.out _).setCell (p := ⟨g, _, none⟩) HGB.out _).setCell (p := ⟨g, _, none⟩) HGB.out _).setCell (p := ⟨g, _, none⟩) HGB.out _).setCell (p := ⟨g, _, none⟩) HGB.out _).setCell (p := ⟨g, _, none⟩) HGB.out _).drew))⟩
          case measure => simp [intOf]; omega

theorem own : ownKnob Tryd.prog.godebug = none := by kernel_rfl

theorem table {W : World} (h : laidMetH Tryd.prog Rows.rankTurnedRow.laid W) : Tab W := by
  rw [MakeChecks.laidMetH_plain _ _ _ (by kernel_rfl)] at h
  exact tab_of_laid h

set_option maxRecDepth 100000 in
theorem lifted (os : Os) (started : os.Started) (H : Type) (enc : TypeId × Value → H) :
    ReturnsInHanded {} Tryd.checked os 6 .any (fun w args => (Rows.rankTurnedSpec.pre enc Tryd.prog Tryd.f6 Rows.rankTurnedRow.domain false w args ∧ laidMetH Tryd.prog Rows.rankTurnedRow.laid w) ∧ sizedMet enc Tryd.prog Tryd.f6 (OpenSpec.ofChange Rows.rankTurnedSpec) false w args)
      (Rows.rankTurnedSpec.post enc Tryd.prog Tryd.f6 false true false false) := by
  refine returnsInHanded_of_change_and (C := Tryd.checked) (X := fun w _ => laidMetH Tryd.prog Rows.rankTurnedRow.laid w) (fun _ _ _ hh h => h.of_heap hh) own started (by kernel_rfl) Tryd.func6
    (ChangeSpec.witness_shaped (enc := enc) (C := Tryd.checked) (os := os) (X := fun w _ => laidMetH Tryd.prog Rows.rankTurnedRow.laid w) false (World.laidAll Tryd.prog os Rows.rankTurnedRow.laid) #[.slice none 0 0, .slice none 0 0, .int .i64 0] 8 (World.laidAll_os _ _ _)
      (World.shaped_of_ZipB (by kernel_rfl) (by kernel_rfl)) (by kernel_rfl) (by kernel_rfl) (by kernel_rfl)
      (by rw [MakeChecks.laidMetH_plain _ _ _ (by kernel_rfl)]; exact laidMet_laidAll _ (by kernel_rfl) (by kernel_rfl))) ?_
  intro W base args ds gs before hval0 hW _ _ hL _
  have hval : ∀ (j : Nat) t v, Tryd.f6.params[j]? = some t → args[j]? = some v → Value.okWide Tryd.prog W .any base t v := hval0
  have hW' := hW
  obtain ⟨p, q, hA0, hV, rfl, hfz, hnd⟩ := hW
  have hA : DataW.TrodAll enc Tryd.prog W 0 (fun _ => true) true Tryd.f6.params.toList args.toList ds p := hA0
  rw [Tryd.params6] at hA hval
  obtain ⟨v0, vs0, d0, ds0, p0, q0, hargs, rfl, rfl, h0, r0⟩ := trodAll_cons hA
  obtain ⟨v1, vs1, d1, ds1, p1, q1, rfl, rfl, rfl, h1, r1⟩ := trodAll_cons r0
  obtain ⟨v2, vs2, d2, ds2, p2, q2, rfl, rfl, rfl, h2, r2⟩ := trodAll_cons r1
  obtain ⟨rfl, rfl, rfl⟩ := trodAll_nil r2
  obtain rfl : args = #[v0, v1, v2] := by cases args; simp_all
  obtain ⟨rfl, rfl⟩ := trodVars_none hV
  obtain ⟨x0, w0⟩ := ints_at (hval 0 22 v0 rfl rfl) h0
  have l0 : ∀ x ∈ p0, x.block < W.heap.size := fun x hx => hW'.lt x (by simp [hx])
  obtain ⟨x1, w1⟩ := ints_at (hval 1 22 v1 rfl rfl) h1
  have l1 : ∀ x ∈ p1, x.block < W.heap.size := fun x hx => hW'.lt x (by simp [hx])
  obtain ⟨a2, rfl, rfl, rfl, w2⟩ := open_int Tryd.underlying3 (hval 2 3 v2 rfl rfl) h2
  clear hA0 hval0
  refine (walk v0 x0 v1 x1 a2 W w0 w1 w2 (table hL)).mono fun e W' ⟨he, bel⟩ => ?_
  subst he
  exact ⟨_, rfl, _, _, _, _, _, [], hW', trodAll_mk1 (shut_bool Tryd.underlying4 _), (trodAll_cons_mk (Below.trod (by kernel_rfl) (by kernel_rfl) (of_decide_eq_true (by kernel_rfl)) h0 bel l0) (trodAll_cons_mk (Below.trod (by kernel_rfl) (by kernel_rfl) (of_decide_eq_true (by kernel_rfl)) h1 bel l1) (trodAll_cons_mk (shut_int Tryd.underlying3 w2) trodAll_mk0))), rfl, bel.frame _, fun h => by cases h⟩

theorem row_holds : Rows.RankTurnedSaid :=
  OpenClaim.holds_of_wide 6 Tryd.f6 rfl rfl rfl rfl rfl rfl rfl ⟨rfl, rfl, rfl, rfl, rfl⟩ rfl rfl rfl rfl rfl (by kernel_rfl) Tryd.func6 (by kernel_rfl)
    (of_decide_eq_true (by kernel_rfl)) (by unfold Func.isWrapper; first | (rw [if_pos (by decide +kernel)]; kernel_rfl) | (rw [if_neg (by decide +kernel)]; exact ⟨rfl, rfl⟩))
    (fun os started H enc _ => lifted os started H enc)

theorem rankTurned_holds : Rows.RankTurnedCardSaid :=
  Claim7.holds_tied_plain_at .later [] _ _ _ _ row_holds (fun _ h => by cases h) (by kernel_rfl) (fun _ h => by cases h) rankTurned_row_tie rfl ⟨rfl, rfl⟩ (by kernel_rfl) rfl
    (fun f fn hf hfn => by
      obtain rfl : f = 6 := Option.some.inj ((show Tryd.prog.funcNamed "interlocutor/interlocutorlaw10.RankTurned" = some 6 by kernel_rfl).symm.trans hf) |>.symm
      obtain rfl : fn = Tryd.f6 := (Option.some.inj (Tryd.func6.symm.trans hfn)).symm
      exact ⟨by kernel_rfl, fun j t ht => by
        rw [Tryd.params6] at ht
        have hm : t ∈ [22, 22, 3] := by simpa using Array.mem_of_getElem? ht
        have hall : ([22, 22, 3].all fun u => !Tryd.prog.wantsStandIn u) = true := by kernel_rfl
        exact (show Tryd.prog.wantsStandIn t = false by simpa using List.all_eq_true.1 hall t hm)⟩)
    (by kernel_rfl)

end Go.Proofs.YtjocpbcmehicmaaDoor
