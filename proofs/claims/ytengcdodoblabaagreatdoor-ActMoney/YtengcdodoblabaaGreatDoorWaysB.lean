/- What each action makes, going on: what is reckoned. -/
import Derived.Test.YtengcdodoblabaaGreatDoorWays
namespace Go.Proofs.YtengcdodoblabaaGreatDoor
open Go.RowKit
section
variable {p : Value} {W0 : World} {g : Nat} {op : Int} {r : Mom}

def negO (a : Val) : Option Val := (takC 7 a).bind fun f => some ⟨7, [-(f.getD 0 0), f.getD 1 0]⟩
def sumO (a b : Val) : Option Val := (takC 9 a).bind fun f => (takC 9 b).bind fun h => some ⟨9, [f.getD 0 0 + h.getD 0 0]⟩
def half2O (a b : Val) : Option Val := (numC a).bind fun h => (wordC b).bind fun k => if inB h 1 12 = true then if inB k 0 1 = true then some ⟨5, [h % 12 + 12 * k, 0, 0]⟩ else none else none
def half3O (a b c : Val) : Option Val := (numC a).bind fun h => (numC b).bind fun m => (wordC c).bind fun k => if inB h 1 12 = true then if inB k 0 1 = true then some ⟨5, [h % 12 + 12 * k, m, 0]⟩ else none else none

set_option maxRecDepth 8000 in
set_option maxHeartbeats 2000000 in
theorem neg_any (a : Val) (w : World) (h : DD p W0 g op r [a] w) :
    Calls Tryz.prog 47 #[.pointer (some ⟨g, 0, none⟩)] w (Ret p W0 g op r w (NV w.heap.size) ((negO a).map (fun z => (z, [])))) := by
  have A0 := hid (At.start h)
  have H1 := hid (tak_any 7 a [] _ A0.out.dd)
  generalize hoo : (negO a).map (fun z => (z, ([] : List Val))) = oo
  have HE : Hid (oo = _) := hid hoo.symm
  unfold negO at HE
  clear h hoo
  go_enter Tryz.func47, Tryz.ntmps47
  go_wp2_with fail
  refine H1.out.mono ?_
  intro e w1 hr
  cases h1 : takC 7 a with
  | none =>
    obtain rfl := hr.of_none (by rw [h1]; rfl)
    have A1 := hid (A0.out.no (V := NV w.heap.size) hr.grown (HE.out.trans (by rw [h1]; rfl)))
    clear hr H1 h1 HE A0
    go_wp2
    exact ⟨rfl, A1.out⟩
  | some x1 =>
    obtain ⟨v1, rfl, hv, hd⟩ := hr.of_some (by rw [h1]; rfl)
    have hl1 := takC_len h1
    rw [show fieldsL.getD (Int.toNat 7) 0 = 2 by decide] at hl1
    obtain ⟨m1, s1, rfl⟩ := len2 (f := x1) (by omega)
    clear hl1
    have V1 := hid hv
    obtain ⟨b1, o1, cap1, rfl, hcl1, hcm1, hbl1⟩ := hv.has2
    have A1 := hid (A0.out.step hr.grown hd)
    have K1 := hid h1
    clear hr hd H1 h1 A0 hv
    obtain ⟨q1, q2, q3, q4⟩ := takC_dec K1.out
    have e0 := (V1.out.on A1.out.dd.base).cell0
    have e1 := (V1.out.on A1.out.dd.base).cell1
    have HO : Hid (oo = some (⟨7, [-m1, s1]⟩, [])) := hid (HE.out.trans (by rw [K1.out]; rfl))
    have hs := A1.out.size
    have AD := hid ((A1.out.up (up_alloc _ (.cells #[.int .i64 (-m1), .int .i64 (s1)] 3))).up (Below.refl _ _).drew)
    have HN : Hid (∀ w', Below (w1.alloc (.cells #[.int .i64 (-m1), .int .i64 (s1)] 3)).drew.heap.size (w1.alloc (.cells #[.int .i64 (-m1), .int .i64 (s1)] 3)).drew w' → NV (w.heap.size + 1) w' (.agg #[.int .i64 (7), .slice (some ⟨w1.heap.size, 0, none⟩) 2 2]) ⟨7, [-m1, s1]⟩) := hid fun w' hb => ⟨_, rfl, NA.lit (t := 3) [-m1, s1] (by omega) (by simp) (up_trans (Below.refl _ _).drew hb)⟩
    clear HE A1 K1 hs
    have hws : IntKind.i64.wrap (-m1) = -m1 := by rw [IntKind.wrap_i64]; omega
    go_wp2
    go_region_with (go_at_call 32; refine (value_any _ _ _ _ _).mono ?_; rintro e wv ⟨rfl, hb⟩; have AV := hid (AD.out.up hb); have Y := hid (AV.out.yes (HN.out wv hb) HO.out); have c0 := AV.out.c0; have c1 := AV.out.c1; have f0 := AV.out.fz 0; have f1 := AV.out.fz 1; clear hb)
    all_goals
      go_wp2
      refine bodyPost_ret (v := .agg #[.int .i64 7, .slice (some ⟨w1.heap.size, 0, none⟩) 2 2]) (results_cell_row rfl _ _ w.heap.size 27 _ (0, 0) _ rfl Y.out.1 Tryz.underlying27 rfl (by kernel_rfl)) rfl Y.out.2

set_option maxRecDepth 8000 in
set_option maxHeartbeats 2000000 in
theorem sum_any (a b : Val) (w : World) (h : DD p W0 g op r [a, b] w) :
    Calls Tryz.prog 50 #[.pointer (some ⟨g, 0, none⟩)] w (Ret p W0 g op r w (NV w.heap.size) ((sumO a b).map (fun z => (z, [])))) := by
  have A0 := hid (At.start h)
  have H1 := hid (tak_any 9 a [b] _ A0.out.dd)
  generalize hoo : (sumO a b).map (fun z => (z, ([] : List Val))) = oo
  have HE : Hid (oo = _) := hid hoo.symm
  unfold sumO at HE
  clear h hoo
  go_enter Tryz.func50, Tryz.ntmps50
  go_wp2_with fail
  refine H1.out.mono ?_
  intro e w1 hr
  cases h1 : takC 9 a with
  | none =>
    obtain rfl := hr.of_none (by rw [h1]; rfl)
    have A1 := hid (A0.out.no (V := NV w.heap.size) hr.grown (HE.out.trans (by rw [h1]; rfl)))
    clear hr H1 h1 HE A0
    go_wp2
    exact ⟨rfl, A1.out⟩
  | some x1 =>
    obtain ⟨v1, rfl, hv, hd⟩ := hr.of_some (by rw [h1]; rfl)
    have hl1 := takC_len h1
    rw [show fieldsL.getD (Int.toNat 9) 0 = 1 by decide] at hl1
    obtain ⟨m1, rfl⟩ := len1 (f := x1) (by omega)
    clear hl1
    have V1 := hid hv
    obtain ⟨b1, o1, cap1, rfl, hcl1, hcm1, hbl1⟩ := hv.has1
    have A1 := hid (A0.out.step hr.grown hd)
    have K1 := hid h1
    clear hr hd H1 h1 A0 hv
    have H2 := hid (tak_any 9 b [] _ A1.out.dd)
    go_wp2_with fail
    refine H2.out.mono ?_
    intro e w2 hr
    cases h2 : takC 9 b with
    | none =>
      obtain rfl := hr.of_none (by rw [h2]; rfl)
      have A2 := hid (A1.out.no (V := NV w.heap.size) hr.grown (HE.out.trans (by rw [K1.out, h2]; rfl)))
      clear hr H2 h2 HE A1
      go_wp2
      exact ⟨rfl, A2.out⟩
    | some x2 =>
      obtain ⟨v2, rfl, hv, hd⟩ := hr.of_some (by rw [h2]; rfl)
      have hl2 := takC_len h2
      rw [show fieldsL.getD (Int.toNat 9) 0 = 1 by decide] at hl2
      obtain ⟨m2, rfl⟩ := len1 (f := x2) (by omega)
      clear hl2
      have V2 := hid hv
      obtain ⟨b2, o2, cap2, rfl, hcl2, hcm2, hbl2⟩ := hv.has1
      have A2 := hid (A1.out.step hr.grown hd)
      have K2 := hid h2
      clear hr hd H2 h2 A1 hv
      obtain ⟨q1, q2⟩ := takC_dur K1.out
      obtain ⟨q3, q4⟩ := takC_dur K2.out
      have e0 := (V1.out.on A2.out.dd.base).cell0
      have e1 := (V2.out.on A2.out.dd.base).cell0
      have HO : Hid (oo = some (⟨9, [m1 + m2]⟩, [])) := hid (HE.out.trans (by rw [K1.out, K2.out]; rfl))
      have hs := A2.out.size
      have AD := hid ((A2.out.up (up_alloc _ (.cells #[.int .i64 (m1 + m2)] 3))).up (Below.refl _ _).drew)
      have HN : Hid (∀ w', Below (w2.alloc (.cells #[.int .i64 (m1 + m2)] 3)).drew.heap.size (w2.alloc (.cells #[.int .i64 (m1 + m2)] 3)).drew w' → NV (w.heap.size + 1) w' (.agg #[.int .i64 (9), .slice (some ⟨w2.heap.size, 0, none⟩) 1 1]) ⟨9, [m1 + m2]⟩) := hid fun w' hb => ⟨_, rfl, NA.lit (t := 3) [m1 + m2] (by omega) (by simp) (up_trans (Below.refl _ _).drew hb)⟩
      clear HE A2 K1 K2 hs
      have hws : IntKind.i64.wrap (m1 + m2) = m1 + m2 := by rw [IntKind.wrap_i64]; omega
      go_wp2
      go_region_with (go_at_call 32; refine (value_any _ _ _ _ _).mono ?_; rintro e wv ⟨rfl, hb⟩; have AV := hid (AD.out.up hb); have Y := hid (AV.out.yes (HN.out wv hb) HO.out); have c0 := AV.out.c0; have c1 := AV.out.c1; have f0 := AV.out.fz 0; have f1 := AV.out.fz 1; clear hb)
      all_goals
        go_wp2
        refine bodyPost_ret (v := .agg #[.int .i64 9, .slice (some ⟨w2.heap.size, 0, none⟩) 1 1]) (results_cell_row rfl _ _ w.heap.size 27 _ (0, 0) _ rfl Y.out.1 Tryz.underlying27 rfl (by kernel_rfl)) rfl Y.out.2

set_option maxRecDepth 8000 in
set_option maxHeartbeats 2000000 in
theorem half2_any (a b : Val) (w : World) (h : DD p W0 g op r [a, b] w) :
    Calls Tryz.prog 40 #[.pointer (some ⟨g, 0, none⟩)] w (Ret p W0 g op r w (NV w.heap.size) ((half2O a b).map (fun z => (z, [])))) := by
  have A0 := hid (At.start h)
  have H1 := hid (num_any a [b] _ A0.out.dd)
  generalize hoo : (half2O a b).map (fun z => (z, ([] : List Val))) = oo
  have HE : Hid (oo = _) := hid hoo.symm
  unfold half2O at HE
  clear h hoo
  go_enter Tryz.func40, Tryz.ntmps40
  go_wp2_with fail
  refine H1.out.mono ?_
  intro e w1 hr
  cases h1 : numC a with
  | none =>
    obtain rfl := hr.of_none (by rw [h1]; rfl)
    have A1 := hid (A0.out.no (V := NV w.heap.size) hr.grown (HE.out.trans (by rw [h1]; rfl)))
    clear hr H1 h1 HE A0
    go_wp2
    exact ⟨rfl, A1.out⟩
  | some x1 =>
    obtain ⟨v1, rfl, hv, hd⟩ := hr.of_some (by rw [h1]; rfl)
    unfold IntV at hv; subst hv
    have A1 := hid (A0.out.step hr.grown hd)
    have K1 := hid h1
    clear hr hd H1 h1 A0
    obtain ⟨adp, capp, dp⟩ := A1.out.dd.places
    rw [show ([b] : List Val).length = 1 from rfl] at dp
    have H2 := hid (wrd_any b [] _ A1.out.dd)
    go_wp2_with fail
    refine H2.out.mono ?_
    intro e w2 hr
    cases h2 : wordC b with
    | none =>
      obtain rfl := hr.of_none (by rw [h2]; rfl)
      have A2 := hid (A1.out.no (V := NV w.heap.size) hr.grown (HE.out.trans (by rw [K1.out, h2]; rfl)))
      clear hr H2 h2 HE A1
      go_wp2
      exact ⟨rfl, A2.out⟩
    | some x2 =>
      obtain ⟨v2, rfl, hv, hd⟩ := hr.of_some (by rw [h2]; rfl)
      unfold IntV at hv; subst hv
      have A2 := hid (A1.out.step hr.grown hd)
      have K2 := hid h2
      clear hr hd H2 h2 A1
      have HE := hid (HE.out.trans (by rw [K1.out, K2.out]; rfl : _ = Option.map (fun z => (z, ([] : List Val))) (if inB x1 1 12 = true then if inB x2 0 1 = true then some ⟨5, [x1 % 12 + 12 * x2, 0, 0]⟩ else none else none)))
      clear dp
      clear K1 K2
      have HA := hid (within_any x1 1 12)
      have HB := hid (within_any x2 0 1)
      cases hi : inB x1 1 12 with
      | false =>
        rw [hi] at HA HE
        clear hi
        go_wp2_with fail
        refine (HA.out _).mono ?_
        rintro e wn ⟨rfl, hw⟩
        obtain rfl := hw.symm
        clear hw
        go_wp2_with fail
        refine (need_no' p _ A2.out.dd.tabs (by first | rfl | (simp only [decide_eq_false_iff_not]; omega))).mono ?_
        rintro e wn ⟨rfl, hw⟩
        obtain rfl := hw.symm
        go_wp2
        exact ⟨rfl, A2.out.no (World.grownBy.refl _ _) HE.out⟩
      | true =>
        rw [hi] at HA HE
        obtain ⟨q1, q2⟩ := inB_iff.1 hi
        clear hi
        cases hj : inB x2 0 1 with
        | false =>
          rw [hj] at HB HE
          clear hj
          go_wp2_with fail
          refine (HA.out _).mono ?_
          rintro e wn ⟨rfl, hw⟩
          obtain rfl := hw.symm
          clear hw
          go_wp2_with fail
          refine (HB.out _).mono ?_
          rintro e wn ⟨rfl, hw⟩
          obtain rfl := hw.symm
          clear hw
          go_wp2_with fail
          refine (need_no' p _ A2.out.dd.tabs (by first | rfl | (simp only [decide_eq_false_iff_not]; omega))).mono ?_
          rintro e wn ⟨rfl, hw⟩
          obtain rfl := hw.symm
          go_wp2
          exact ⟨rfl, A2.out.no (World.grownBy.refl _ _) HE.out⟩
        | true =>
          rw [hj] at HB HE
          obtain ⟨q3, q4⟩ := inB_iff.1 hj
          clear hj
          go_wp2_with fail
          refine (HA.out _).mono ?_
          rintro e wn ⟨rfl, hw⟩
          obtain rfl := hw.symm
          clear hw
          go_wp2_with fail
          refine (HB.out _).mono ?_
          rintro e wn ⟨rfl, hw⟩
          obtain rfl := hw.symm
          clear hw
          go_wp2_with fail
          refine (need_yes' _ (by first | rfl | (simp only [decide_eq_true_eq]; omega))).mono ?_
          rintro e wn ⟨rfl, hw⟩
          obtain rfl := hw.symm
          clear hw
          have HO : Hid (oo = some (⟨5, [x1 % 12 + 12 * x2, 0, 0]⟩, [])) := hid (HE.out.trans rfl)
          have hs := A2.out.size
          have HN : Hid (∀ w', Below (w2.alloc (.cells #[.int .i64 (x1 % 12 + 12 * x2), .int .i64 (0), .int .i64 (0)] 3)).heap.size (w2.alloc (.cells #[.int .i64 (x1 % 12 + 12 * x2), .int .i64 (0), .int .i64 (0)] 3)) w' → NV (w.heap.size + 1) w' (.agg #[.int .i64 5, .slice (some ⟨w2.heap.size, 0, none⟩) 3 3]) ⟨5, [x1 % 12 + 12 * x2, 0, 0]⟩) := hid fun w' hb => ⟨_, rfl, NA.lit (t := 3) [x1 % 12 + 12 * x2, 0, 0] (by omega) (by simp) hb⟩
          clear HE  hs
          go_wp2_with fail
          refine (value_any _ _ _ _ _).mono ?_
          rintro e wv ⟨rfl, hb⟩
          have AV := hid ((A2.out.up (up_alloc _ _)).up hb)
          have Y := hid (AV.out.yes (HN.out wv hb) HO.out)
          have c0 := AV.out.c0
          have c1 := AV.out.c1
          have f0 := AV.out.fz 0
          have f1 := AV.out.fz 1
          clear hb HN AV A2
          go_wp2
          refine bodyPost_ret (v := .agg #[.int .i64 5, .slice (some ⟨w2.heap.size, 0, none⟩) 3 3]) (results_cell_row rfl _ _ w.heap.size 27 _ (0, 0) _ rfl Y.out.1 Tryz.underlying27 rfl (by kernel_rfl)) rfl Y.out.2

set_option maxRecDepth 8000 in
set_option maxHeartbeats 2000000 in
theorem half3_any (a b c : Val) (w : World) (h : DD p W0 g op r [a, b, c] w) :
    Calls Tryz.prog 40 #[.pointer (some ⟨g, 0, none⟩)] w (Ret p W0 g op r w (NV w.heap.size) ((half3O a b c).map (fun z => (z, [])))) := by
  have A0 := hid (At.start h)
  have H1 := hid (num_any a [b, c] _ A0.out.dd)
  generalize hoo : (half3O a b c).map (fun z => (z, ([] : List Val))) = oo
  have HE : Hid (oo = _) := hid hoo.symm
  unfold half3O at HE
  clear h hoo
  go_enter Tryz.func40, Tryz.ntmps40
  go_wp2_with fail
  refine H1.out.mono ?_
  intro e w1 hr
  cases h1 : numC a with
  | none =>
    obtain rfl := hr.of_none (by rw [h1]; rfl)
    have A1 := hid (A0.out.no (V := NV w.heap.size) hr.grown (HE.out.trans (by rw [h1]; rfl)))
    clear hr H1 h1 HE A0
    go_wp2
    exact ⟨rfl, A1.out⟩
  | some x1 =>
    obtain ⟨v1, rfl, hv, hd⟩ := hr.of_some (by rw [h1]; rfl)
    unfold IntV at hv; subst hv
    have A1 := hid (A0.out.step hr.grown hd)
    have K1 := hid h1
    clear hr hd H1 h1 A0
    obtain ⟨adp, capp, dp⟩ := A1.out.dd.places
    rw [show ([b, c] : List Val).length = 2 from rfl] at dp
    have H2 := hid (num_any b [c] _ A1.out.dd)
    go_wp2_with fail
    refine H2.out.mono ?_
    intro e w2 hr
    cases h2 : numC b with
    | none =>
      obtain rfl := hr.of_none (by rw [h2]; rfl)
      have A2 := hid (A1.out.no (V := NV w.heap.size) hr.grown (HE.out.trans (by rw [K1.out, h2]; rfl)))
      clear hr H2 h2 HE A1
      go_wp2
      exact ⟨rfl, A2.out⟩
    | some x2 =>
      obtain ⟨v2, rfl, hv, hd⟩ := hr.of_some (by rw [h2]; rfl)
      unfold IntV at hv; subst hv
      have A2 := hid (A1.out.step hr.grown hd)
      have K2 := hid h2
      clear hr hd H2 h2 A1
      clear dp
      have H3 := hid (wrd_any c [] _ A2.out.dd)
      go_wp2_with fail
      refine H3.out.mono ?_
      intro e w3 hr
      cases h3 : wordC c with
      | none =>
        obtain rfl := hr.of_none (by rw [h3]; rfl)
        have A3 := hid (A2.out.no (V := NV w.heap.size) hr.grown (HE.out.trans (by rw [K1.out, K2.out, h3]; rfl)))
        clear hr H3 h3 HE A2
        go_wp2
        exact ⟨rfl, A3.out⟩
      | some x3 =>
        obtain ⟨v3, rfl, hv, hd⟩ := hr.of_some (by rw [h3]; rfl)
        unfold IntV at hv; subst hv
        have A3 := hid (A2.out.step hr.grown hd)
        have K3 := hid h3
        clear hr hd H3 h3 A2
        have HE := hid (HE.out.trans (by rw [K1.out, K2.out, K3.out]; rfl : _ = Option.map (fun z => (z, ([] : List Val))) (if inB x1 1 12 = true then if inB x3 0 1 = true then some ⟨5, [x1 % 12 + 12 * x3, x2, 0]⟩ else none else none)))
        clear K1 K2 K3
        have HA := hid (within_any x1 1 12)
        have HB := hid (within_any x3 0 1)
        cases hi : inB x1 1 12 with
        | false =>
          rw [hi] at HA HE
          clear hi
          go_wp2_with fail
          refine (HA.out _).mono ?_
          rintro e wn ⟨rfl, hw⟩
          obtain rfl := hw.symm
          clear hw
          go_wp2_with fail
          refine (need_no' p _ A3.out.dd.tabs (by first | rfl | (simp only [decide_eq_false_iff_not]; omega))).mono ?_
          rintro e wn ⟨rfl, hw⟩
          obtain rfl := hw.symm
          go_wp2
          exact ⟨rfl, A3.out.no (World.grownBy.refl _ _) HE.out⟩
        | true =>
          rw [hi] at HA HE
          obtain ⟨q1, q2⟩ := inB_iff.1 hi
          clear hi
          cases hj : inB x3 0 1 with
          | false =>
            rw [hj] at HB HE
            clear hj
            go_wp2_with fail
            refine (HA.out _).mono ?_
            rintro e wn ⟨rfl, hw⟩
            obtain rfl := hw.symm
            clear hw
            go_wp2_with fail
            refine (HB.out _).mono ?_
            rintro e wn ⟨rfl, hw⟩
            obtain rfl := hw.symm
            clear hw
            go_wp2_with fail
            refine (need_no' p _ A3.out.dd.tabs (by first | rfl | (simp only [decide_eq_false_iff_not]; omega))).mono ?_
            rintro e wn ⟨rfl, hw⟩
            obtain rfl := hw.symm
            go_wp2
            exact ⟨rfl, A3.out.no (World.grownBy.refl _ _) HE.out⟩
          | true =>
            rw [hj] at HB HE
            obtain ⟨q3, q4⟩ := inB_iff.1 hj
            clear hj
            go_wp2_with fail
            refine (HA.out _).mono ?_
            rintro e wn ⟨rfl, hw⟩
            obtain rfl := hw.symm
            clear hw
            go_wp2_with fail
            refine (HB.out _).mono ?_
            rintro e wn ⟨rfl, hw⟩
            obtain rfl := hw.symm
            clear hw
            go_wp2_with fail
            refine (need_yes' _ (by first | rfl | (simp only [decide_eq_true_eq]; omega))).mono ?_
            rintro e wn ⟨rfl, hw⟩
            obtain rfl := hw.symm
            clear hw
            have HO : Hid (oo = some (⟨5, [x1 % 12 + 12 * x3, x2, 0]⟩, [])) := hid (HE.out.trans rfl)
            have hs := A3.out.size
            have HN : Hid (∀ w', Below (w3.alloc (.cells #[.int .i64 (x1 % 12 + 12 * x3), .int .i64 (x2), .int .i64 (0)] 3)).heap.size (w3.alloc (.cells #[.int .i64 (x1 % 12 + 12 * x3), .int .i64 (x2), .int .i64 (0)] 3)) w' → NV (w.heap.size + 1) w' (.agg #[.int .i64 5, .slice (some ⟨w3.heap.size, 0, none⟩) 3 3]) ⟨5, [x1 % 12 + 12 * x3, x2, 0]⟩) := hid fun w' hb => ⟨_, rfl, NA.lit (t := 3) [x1 % 12 + 12 * x3, x2, 0] (by omega) (by simp) hb⟩
            clear HE  hs
            go_wp2_with fail
            refine (value_any _ _ _ _ _).mono ?_
            rintro e wv ⟨rfl, hb⟩
            have AV := hid ((A3.out.up (up_alloc _ _)).up hb)
            have Y := hid (AV.out.yes (HN.out wv hb) HO.out)
            have c0 := AV.out.c0
            have c1 := AV.out.c1
            have f0 := AV.out.fz 0
            have f1 := AV.out.fz 1
            clear hb HN AV A3
            go_wp2
            refine bodyPost_ret (v := .agg #[.int .i64 5, .slice (some ⟨w3.heap.size, 0, none⟩) 3 3]) (results_cell_row rfl _ _ w.heap.size 27 _ (0, 0) _ rfl Y.out.1 Tryz.underlying27 rfl (by kernel_rfl)) rfl Y.out.2

end
end Go.Proofs.YtengcdodoblabaaGreatDoor
