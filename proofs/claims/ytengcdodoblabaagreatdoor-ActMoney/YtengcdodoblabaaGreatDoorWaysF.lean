/- What each action makes, to the last: groups of digits. -/
import Derived.Test.YtengcdodoblabaaGreatDoorWays
import Derived.RegionDies
namespace Go.Proofs.YtengcdodoblabaaGreatDoor
open Go.RowKit
section
variable {p : Value} {W0 : World} {g : Nat} {op : Int} {r : Mom}
def grpL : List Val → Int → Int → Option Val
  | [], all, _ => some ⟨7, [all, 0]⟩
  | c :: cs, all, d => (takC 1 c).bind fun f => if f.getD 1 0 = 3 then if d + 3 ≤ 18 then if inB (f.getD 0 0) 0 999 = true then grpL cs (all * 1000 + f.getD 0 0) (d + 3) else none else none else none
def groupsO : List Val → Option Val
  | [] => none
  | c :: cs => (takC 1 c).bind fun f => if inB (f.getD 1 0) 1 3 = true then if inB (f.getD 0 0) 0 999 = true then grpL cs (f.getD 0 0) (f.getD 1 0) else none else none

theorem grouped_yes (a z : Int) (w : World) (h : inB z 0 999 = true) (h0 : 0 ≤ a) (h1 : a ≤ 1000000000000000) :
    Calls Tryz.prog 85 #[.int .i64 a, .int .i64 z] w fun e w' => e = .returned (.int .i64 (a * 1000 + z)) ∧ w' = w := by
  have HW := hid (within_any z 0 999)
  rw [h] at HW
  obtain ⟨q1, q2⟩ := inB_iff.1 h
  clear h
  go_enter Tryz.func85, Tryz.ntmps85
  go_wp2_with fail
  refine (HW.out _).mono ?_
  rintro e w1 ⟨rfl, rfl⟩
  go_wp2_with fail
  refine (need_yes _).mono ?_
  rintro e w1 ⟨rfl, rfl⟩
  go_wp2
  go_ret
  exact ⟨rfl, rfl⟩
theorem grouped_no (a z : Int) (w : World) (h : inB z 0 999 = false) (hT : Tabs p w) :
    Calls Tryz.prog 85 #[.int .i64 a, .int .i64 z] w fun e w' => e = .panicked (boom p) ∧ w' = w := by
  have HW := hid (within_any z 0 999)
  rw [h] at HW
  have HT := hid hT
  clear h hT
  go_enter Tryz.func85, Tryz.ntmps85
  go_wp2_with fail
  refine (HW.out _).mono ?_
  rintro e w1 ⟨rfl, rfl⟩
  go_wp2_with fail
  refine (need_no p _ HT.out).mono ?_
  rintro e w1 ⟨rfl, rfl⟩
  go_wp2
  exact ⟨rfl, rfl, rfl⟩

theorem ten3 (j : Nat) : De.Dc.ten (3 * (j + 1)) = 1000 * De.Dc.ten (3 * j) := by
  rw [show 3 * (j + 1) = (3 * j + 2) + 1 by omega, De.Dc.tenS, De.Dc.tenS, De.Dc.tenS]; omega
theorem ten_small (j : Nat) (h : j ≤ 4) : De.Dc.ten (3 * (j + 1)) ≤ 1000000000000000 := by
  have : j = 0 ∨ j = 1 ∨ j = 2 ∨ j = 3 ∨ j = 4 := by omega
  rcases this with rfl | rfl | rfl | rfl | rfl <;> decide

set_option maxRecDepth 8000 in
set_option maxHeartbeats 4000000 in
theorem groups_any (c : Val) (cs0 : List Val) (w : World) (h : DD p W0 g op r (c :: cs0) w) :
    Calls Tryz.prog 46 #[.pointer (some ⟨g, 0, none⟩)] w (Ret p W0 g op r w (NV w.heap.size) ((groupsO (c :: cs0)).map (fun z => (z, [])))) := by
  have A0 := hid (At.start h)
  have H1 := hid (tak_any 1 c cs0 _ A0.out.dd)
  generalize hoo : (groupsO (c :: cs0)).map (fun z => (z, ([] : List Val))) = oo
  have HE : Hid (oo = _) := hid hoo.symm
  unfold groupsO at HE
  clear h hoo
  go_enter Tryz.func46, Tryz.ntmps46
  go_wp2_with fail
  refine H1.out.mono ?_
  intro e w1 hr
  cases h1 : takC 1 c with
  | none =>
    obtain rfl := hr.of_none (by rw [h1]; rfl)
    have A1 := hid (A0.out.no (V := NV w.heap.size) hr.grown (HE.out.trans (by rw [h1]; rfl)))
    clear hr H1 h1 HE A0
    go_wp2
    exact ⟨rfl, A1.out⟩
  | some x1 =>
    obtain ⟨v1, rfl, hv, hd⟩ := hr.of_some (by rw [h1]; rfl)
    have hl1 := takC_len h1
    rw [show fieldsL.getD (Int.toNat 1) 0 = 2 by decide] at hl1
    obtain ⟨m1, s1, rfl⟩ := len2 (f := x1) (by omega)
    have V1 := hid hv
    obtain ⟨b1, o1, cap1, rfl, hcl1, hcm1, hbl1⟩ := hv.has2
    have A1 := hid (A0.out.step hr.grown hd)
    have HE := hid (HE.out.trans (by rw [h1]; rfl : _ = Option.map (fun z => (z, ([] : List Val))) (if inB s1 1 3 = true then if inB m1 0 999 = true then grpL cs0 m1 s1 else none else none)))
    have e0 := (V1.out.on A1.out.dd.base).cell0
    have e1 := (V1.out.on A1.out.dd.base).cell1
    have HW := hid (within_any s1 1 3)
    clear hr hd H1 h1 A0 hv hl1
    cases hi : inB s1 1 3 with
    | false =>
      rw [hi] at HW HE
      clear hi
      go_wp2_with fail
      refine (HW.out _).mono ?_
      rintro e wn ⟨rfl, hw⟩
      obtain rfl := hw.symm
      clear hw
      go_wp2_with fail
      refine (need_no p _ A1.out.dd.tabs).mono ?_
      rintro e wn ⟨rfl, hw⟩
      obtain rfl := hw.symm
      go_wp2
      exact ⟨rfl, A1.out.no (World.grownBy.refl _ _) HE.out⟩
    | true =>
      rw [hi] at HW HE
      rw [if_pos rfl] at HE
      obtain ⟨q1, q2⟩ := inB_iff.1 hi
      clear hi
      go_wp2_with fail
      refine (HW.out _).mono ?_
      rintro e wn ⟨rfl, hw⟩
      obtain rfl := hw.symm
      clear hw
      go_wp2_with fail
      refine (need_yes _).mono ?_
      rintro e wn ⟨rfl, hw⟩
      obtain rfl := hw.symm
      clear hw
      have AD := hid (A1.out.up (Below.refl _ _).drew)
      cases hj : inB m1 0 999 with
      | false =>
        rw [hj] at HE
        have HG := hid fun w hT => grouped_no (p := p) 0 m1 w hj hT
        clear hj
        go_wp2
        go_region_dies
        all_goals
          go_at_call 85
          refine (HG.out _ AD.out.dd.tabs).mono ?_
          rintro e wn ⟨rfl, hw⟩
          obtain rfl := hw.symm
          exact ⟨rfl, AD.out.no (World.grownBy.refl _ _) HE.out⟩
      | true =>
        rw [hj] at HE
        rw [if_pos rfl] at HE
        have HG := hid fun w => grouped_yes 0 m1 w hj (by decide) (by decide)
        obtain ⟨q3, q4⟩ := inB_iff.1 hj
        rw [show (0 : Int) * 1000 + m1 = m1 by omega] at HG
        clear hj
        go_wp2
        apply key_cut
        case rest =>
          intro key
          go_region_with (go_at_call 85; refine (HG.out _).mono ?_; rintro e wn ⟨rfl, hw⟩; obtain rfl := hw.symm; clear hw)
          all_goals exact key
        clear e0 e1 HW A1
        go_wp2
        go_simp
        go_loopw [4, 5] (fun v4 v5 wr => ∃ (all : Int) (j : Nat) (cs : List Val), v4 = .int .i64 all ∧ v5 = .int .i64 (s1 + 3 * (j : Int)) ∧ 0 ≤ all ∧ Hid (all < De.Dc.ten (3 * (j + 1))) ∧ s1 + 3 * (j : Int) ≤ 18 ∧ Hid (At p W0 g op r cs w wr) ∧ Hid (oo = (grpL cs all (s1 + 3 * (j : Int))).map (fun z => (z, ([] : List Val))))) (fun _ v5 _ => 18 - (intOf v5).toNat)
        case atStart => exact ⟨m1, 0, cs0, rfl, by simp, q3, hid (by have : De.Dc.ten (3 * (0 + 1)) = 1000 := by decide
                                                                     omega), by omega, AD, hid (by simpa using HE.out)⟩
        case round =>
          obtain ⟨all, j, cs, rfl, rfl, hall, hten, hd18, HA, HE⟩ := hrel
          cases cs with
          | nil =>
            obtain ⟨adp, capp, dp⟩ := HA.out.dd.places
            rw [show ([] : List Val).length = 0 from rfl] at dp
            have HE := hid (show oo = some (⟨7, [all, 0]⟩, []) from HE.out)
            have HO : Hid (oo = some (⟨7, [all, 0]⟩, [])) := hid (HE.out.trans rfl)
            have hs := HA.out.size
            have HN : Hid (∀ w', Below (wr.alloc (.cells #[.int .i64 (all), .int .i64 (0)] 3)).heap.size (wr.alloc (.cells #[.int .i64 (all), .int .i64 (0)] 3)) w' → NV (w.heap.size + 1) w' (.agg #[.int .i64 7, .slice (some ⟨wr.heap.size, 0, none⟩) 2 2]) ⟨7, [all, 0]⟩) := hid fun w' hb => ⟨_, rfl, NA.lit (t := 3) [all, 0] (by omega) (by simp) hb⟩
            clear HE  hs
            have dpx := dp
            go_wp2_with fail
            refine (value_any _ _ _ _ _).mono ?_
            rintro e wv ⟨rfl, hb⟩
            have AV := hid ((HA.out.up (up_alloc _ _)).up hb)
            have Y := hid (AV.out.yes (HN.out wv hb) HO.out)
            have c0 := AV.out.c0
            have c1 := AV.out.c1
            have f0 := AV.out.fz 0
            have f1 := AV.out.fz 1
            clear hb HN AV HA
            go_wp2
            refine bodyPost_ret (v := .agg #[.int .i64 7, .slice (some ⟨wr.heap.size, 0, none⟩) 2 2]) (results_cell_row rfl _ _ w.heap.size 27 _ (0, 0) _ rfl Y.out.1 Tryz.underlying27 rfl (by kernel_rfl)) rfl Y.out.2
          | cons c1 cs1 =>
            obtain ⟨adp, capp, dp⟩ := HA.out.dd.places
            rw [show (c1 :: cs1).length = cs1.length + 1 from rfl] at dp
            have hnl : cs1.length ≤ 1000000 := HA.out.dd.few
            have H2 := hid (tak_any 1 c1 cs1 _ HA.out.dd)
            have HE := hid (show oo = Option.map (fun z => (z, ([] : List Val))) ((takC 1 c1).bind fun f => if f.getD 1 0 = 3 then if s1 + 3 * (j : Int) + 3 ≤ 18 then if inB (f.getD 0 0) 0 999 = true then grpL cs1 (all * 1000 + f.getD 0 0) (s1 + 3 * (j : Int) + 3) else none else none else none) from HE.out)
            generalize cs1.length = ncs at *
            go_wp2_with fail
            refine H2.out.mono ?_
            intro e w2 hr
            cases h2 : takC 1 c1 with
            | none =>
              obtain rfl := hr.of_none (by rw [h2]; rfl)
              have AX := hid (HA.out.no (V := NV w.heap.size) hr.grown (HE.out.trans (by rw [h2]; rfl)))
              clear hr H2 h2 HE HA
              go_wp2
              exact ⟨rfl, AX.out⟩
            | some x2 =>
              obtain ⟨v2, rfl, hv, hd⟩ := hr.of_some (by rw [h2]; rfl)
              have hl2 := takC_len h2
              rw [show fieldsL.getD (Int.toNat 1) 0 = 2 by decide] at hl2
              obtain ⟨m2, s2, rfl⟩ := len2 (f := x2) (by omega)
              have V2 := hid hv
              obtain ⟨b2, o2, cap2, rfl, hcl2, hcm2, hbl2⟩ := hv.has2
              have A2 := hid (HA.out.step hr.grown hd)
              have HE := hid (HE.out.trans (by rw [h2]; rfl : _ = Option.map (fun z => (z, ([] : List Val))) (if s2 = 3 then if s1 + 3 * (j : Int) + 3 ≤ 18 then if inB m2 0 999 = true then grpL cs1 (all * 1000 + m2) (s1 + 3 * (j : Int) + 3) else none else none else none)))
              have e0 := (V2.out.on A2.out.dd.base).cell0
              have e1 := (V2.out.on A2.out.dd.base).cell1
              clear hr hd H2 h2 HA hv hl2 dp
              by_cases hs2 : s2 = 3
              case neg =>
                rw [if_neg hs2] at HE
                have hg2 : (s2 == 3) = false := by simpa using hs2
                go_wp2_with fail
                refine (need_no' p _ A2.out.dd.tabs (by first | rfl | (simp only [decide_eq_false_iff_not]; omega))).mono ?_
                rintro e wn ⟨rfl, hw⟩
                obtain rfl := hw.symm
                go_wp2
                exact ⟨rfl, A2.out.no (World.grownBy.refl _ _) HE.out⟩
              case pos =>
                rw [if_pos hs2] at HE
                subst hs2
                by_cases hd2 : s1 + 3 * (j : Int) + 3 ≤ 18
                case neg =>
                  rw [if_neg hd2] at HE
                  go_wp2_with fail
                  refine (need_no' p _ A2.out.dd.tabs (by first | rfl | (simp only [decide_eq_false_iff_not]; omega))).mono ?_
                  rintro e wn ⟨rfl, hw⟩
                  obtain rfl := hw.symm
                  go_wp2
                  exact ⟨rfl, A2.out.no (World.grownBy.refl _ _) HE.out⟩
                case pos =>
                  rw [if_pos hd2] at HE
                  have hj4 : j ≤ 4 := by omega
                  have ht5 := ten_small j hj4
                  have ht3 := ten3 (j + 1)
                  go_wp2_with fail
                  refine (need_yes' _ (by first | rfl | (simp only [decide_eq_true_eq]; omega))).mono ?_
                  rintro e wn ⟨rfl, hw⟩
                  obtain rfl := hw.symm
                  clear hw
                  cases hm2 : inB m2 0 999 with
                  | false =>
                    rw [hm2] at HE
                    have HG := hid fun w hT => grouped_no (p := p) all m2 w hm2 hT
                    clear hm2
                    go_wp2_with fail
                    refine (HG.out _ A2.out.dd.tabs).mono ?_
                    rintro e wn ⟨rfl, hw⟩
                    obtain rfl := hw.symm
                    go_wp2
                    exact ⟨rfl, A2.out.no (World.grownBy.refl _ _) HE.out⟩
                  | true =>
                    rw [hm2] at HE
                    rw [if_pos rfl] at HE
                    obtain ⟨q5, q6⟩ := inB_iff.1 hm2
                    have HG := hid (grouped_yes all m2 w2 hm2 hall (by have := hten.out; omega))
                    have HT := hid (show all * 1000 + m2 < De.Dc.ten (3 * (j + 1 + 1)) by have := hten.out; omega)
                    have hall2 : 0 ≤ all * 1000 + m2 := by omega
                    clear hm2 ht3 ht5 hten
                    go_wp2_with fail
                    refine HG.out.mono ?_
                    rintro e wn ⟨rfl, hw⟩
                    obtain rfl := hw.symm
                    clear hw
                    generalize hall3 : all * 1000 + m2 = all2 at *
                    clear hall3
                    go_wp2
                    go_round
                    case rel => exact ⟨all2, j + 1, cs1, rfl, by congr 1; omega, hall2, HT, by omega, A2, hid (by rw [show s1 + 3 * ((j + 1 : Nat) : Int) = s1 + 3 * (j : Int) + 3 by omega]; exact HE.out)⟩
                    case measure => simp [intOf]; omega
end
end Go.Proofs.YtengcdodoblabaaGreatDoor
