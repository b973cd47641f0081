/- What each action makes, going on: durations, money, points, days on from the reference. -/
import Derived.Test.YtengcdodoblabaaGreatDoorWays
namespace Go.Proofs.YtengcdodoblabaaGreatDoor
open Go.RowKit
section
variable {p : Value} {W0 : World} {g : Nat} {op : Int} {r : Mom}

def durO (a b : Val) : Option Val := (cntC a).bind fun n => (wordC b).bind fun u => if 0 ≤ n then if 1 ≤ u then if n ≤ 9007199254740991 / u then some ⟨9, [n * u]⟩ else none else none else none
def moneyO (a b : Val) : Option Val := (wordC a).bind fun c => (takC 7 b).bind fun f => if 0 ≤ c then (De.Dc.scaled (f.getD 0 0) (f.getD 1 0).toNat (c % 10).toNat).bind fun n => some ⟨8, [c, n]⟩ else none
def pointO (a b : Val) : Option Val := (numC a).bind fun x => (takC 1 b).bind fun f => some ⟨7, [(De.Dc.norm (x * De.Dc.ten (f.getD 1 0).toNat + f.getD 0 0) (f.getD 1 0).toNat).1, ((De.Dc.norm (x * De.Dc.ten (f.getD 1 0).toNat + f.getD 0 0) (f.getD 1 0).toNat).2 : Int)]⟩
/-- What stands ahead of a point and behind it is a decimal. -/
def Joins (a b : Val) : Prop := ∀ x m s, numC a = some x → takC 1 b = some [m, s] → 0 ≤ x ∧ 0 ≤ m ∧ 0 ≤ s ∧ s ≤ 18 ∧ m < De.Dc.ten s.toNat ∧ x * De.Dc.ten s.toNat < 1000000000000000000

/-- The reference is a moment. -/
def RR (r : Mom) : Prop := Ci.rtB r.y r.m r.d r.h r.i r.s = true
theorem RR.bd {r : Mom} (h : RR r) : Ci.Civ.vld r.y r.m r.d = true ∧ 1 ≤ r.y ∧ r.y ≤ 9999 := by
  unfold RR Ci.rtB Ci.dayB at h
  simp only [Bool.and_eq_true] at h
  obtain ⟨a1, a2⟩ := (show Ci.inB r.y 1 9999 = true ↔ 1 ≤ r.y ∧ r.y ≤ 9999 by unfold Ci.inB; simp).1 h.1.1
  exact ⟨h.1.2, a1, a2⟩
def onO (r : Mom) (mo da : Int) : Option Val := if Ci.addOk r.y r.m r.d mo da = true then some ⟨4, [Ci.Civ.cY (Ci.addK r.y r.m r.d mo da), Ci.Civ.cM (Ci.addK r.y r.m r.d mo da), Ci.Civ.cD (Ci.addK r.y r.m r.d mo da)]⟩ else none

set_option maxRecDepth 8000 in
set_option maxHeartbeats 2000000 in
theorem dur_any (a b : Val) (w : World) (h : DD p W0 g op r [a, b] w) :
    Calls Tryz.prog 49 #[.pointer (some ⟨g, 0, none⟩)] w (Ret p W0 g op r w (NV w.heap.size) ((durO a b).map (fun z => (z, [])))) := by
  have A0 := hid (At.start h)
  have H1 := hid (cnt_any a [b] _ A0.out.dd)
  generalize hoo : (durO a b).map (fun z => (z, ([] : List Val))) = oo
  have HE : Hid (oo = _) := hid hoo.symm
  unfold durO at HE
  clear h hoo
  go_enter Tryz.func49, Tryz.ntmps49
  go_wp2_with fail
  refine H1.out.mono ?_
  intro e w1 hr
  cases h1 : cntC a with
  | none =>
    obtain rfl := hr.of_none (by rw [h1]; rfl)
    have A1 := hid (A0.out.no (V := NV w.heap.size) hr.grown (HE.out.trans (by rw [h1]; rfl)))
    clear hr H1 h1 HE A0
    go_wp2
    exact ⟨rfl, A1.out⟩
  | some x1 =>
    obtain ⟨v1, rfl, hv, hd⟩ := hr.of_some (by rw [h1]; rfl)
    unfold IntV at hv; subst hv
    have A1 := hid (A0.out.step hr.grown hd)
    have K1 := hid h1
    clear hr hd H1 h1 A0
    have H2 := hid (wrd_any b [] _ A1.out.dd)
    go_wp2_with fail
    refine H2.out.mono ?_
    intro e w2 hr
    cases h2 : wordC b with
    | none =>
      obtain rfl := hr.of_none (by rw [h2]; rfl)
      have A2 := hid (A1.out.no (V := NV w.heap.size) hr.grown (HE.out.trans (by rw [K1.out, h2]; rfl)))
      clear hr H2 h2 HE A1
      go_wp2
      exact ⟨rfl, A2.out⟩
    | some x2 =>
      obtain ⟨v2, rfl, hv, hd⟩ := hr.of_some (by rw [h2]; rfl)
      unfold IntV at hv; subst hv
      have A2 := hid (A1.out.step hr.grown hd)
      have K2 := hid h2
      clear hr hd H2 h2 A1
      have HE := hid (HE.out.trans (by rw [K1.out, K2.out]; rfl : _ = Option.map (fun z => (z, ([] : List Val))) (if 0 ≤ x1 then if 1 ≤ x2 then if x1 ≤ 9007199254740991 / x2 then some ⟨9, [x1 * x2]⟩ else none else none else none)))
      clear K1 K2
      by_cases hq : 0 ≤ x1
      case neg =>
        rw [if_neg hq] at HE
        have hlt : x1 < 0 := by omega
        go_wp2_with fail
        refine (need_no' p _ A2.out.dd.tabs (by first | rfl | (simp only [decide_eq_false_iff_not]; omega))).mono ?_
        rintro e wn ⟨rfl, hw⟩
        obtain rfl := hw.symm
        go_wp2
        exact ⟨rfl, A2.out.no (World.grownBy.refl _ _) HE.out⟩
      case pos =>
        rw [if_pos hq] at HE
        have hq1 := hq
        clear hq
        by_cases hq : 1 ≤ x2
        case neg =>
          rw [if_neg hq] at HE
          have hlt : x2 < 1 := by omega
          go_wp2_with fail
          refine (need_no' p _ A2.out.dd.tabs (by first | rfl | (simp only [decide_eq_false_iff_not]; omega))).mono ?_
          rintro e wn ⟨rfl, hw⟩
          obtain rfl := hw.symm
          go_wp2
          exact ⟨rfl, A2.out.no (World.grownBy.refl _ _) HE.out⟩
        case pos =>
          have hx2 : x2 ≠ 0 := by omega
          have hdv : Int.tdiv 9007199254740991 x2 = 9007199254740991 / x2 := Int.tdiv_eq_ediv_of_nonneg (by decide)
          have hd0 : 0 ≤ 9007199254740991 / x2 := Int.ediv_nonneg (by decide) (by omega)
          have hd1 : 9007199254740991 / x2 ≤ 9007199254740991 := Int.ediv_le_self _ (by decide)
          rw [if_pos hq] at HE
          have hq2 := hq
          clear hq
          by_cases hq : x1 ≤ 9007199254740991 / x2
          case neg =>
            rw [if_neg hq] at HE
            have hlt : 9007199254740991 / x2 < x1 := by omega
            go_wp2_with fail
            refine (need_no' p _ A2.out.dd.tabs (by first | rfl | (simp only [decide_eq_false_iff_not]; omega))).mono ?_
            rintro e wn ⟨rfl, hw⟩
            obtain rfl := hw.symm
            go_wp2
            exact ⟨rfl, A2.out.no (World.grownBy.refl _ _) HE.out⟩
          case pos =>
            rw [if_pos hq] at HE
            have hm1 : x1 * x2 ≤ 9007199254740991 := Int.le_trans (Int.mul_le_mul_of_nonneg_right hq (by omega)) (Int.ediv_mul_le _ hx2)
            have hm0 : 0 ≤ x1 * x2 := Int.mul_nonneg (by omega) (by omega)
            go_wp2_with fail
            refine (need_yes' _ (by first | rfl | (simp only [decide_eq_true_eq]; omega))).mono ?_
            rintro e wn ⟨rfl, hw⟩
            obtain rfl := hw.symm
            clear hw
            clear hdv hd0 hd1 hq hx2
            have HO : Hid (oo = some (⟨9, [x1 * x2]⟩, [])) := hid (HE.out.trans rfl)
            have hs := A2.out.size
            have HN : Hid (∀ w', Below (w2.alloc (.cells #[.int .i64 (x1 * x2)] 3)).heap.size (w2.alloc (.cells #[.int .i64 (x1 * x2)] 3)) w' → NV (w.heap.size + 1) w' (.agg #[.int .i64 9, .slice (some ⟨w2.heap.size, 0, none⟩) 1 1]) ⟨9, [x1 * x2]⟩) := hid fun w' hb => ⟨_, rfl, NA.lit (t := 3) [x1 * x2] (by omega) (by simp) hb⟩
            clear HE  hs
            go_wp2_with fail
            refine (value_any _ _ _ _ _).mono ?_
            rintro e wv ⟨rfl, hb⟩
            have AV := hid ((A2.out.up (up_alloc _ _)).up hb)
            have Y := hid (AV.out.yes (HN.out wv hb) HO.out)
            have c0 := AV.out.c0
            have c1 := AV.out.c1
            have f0 := AV.out.fz 0
            have f1 := AV.out.fz 1
            clear hb HN AV A2
            go_wp2
            refine bodyPost_ret (v := .agg #[.int .i64 9, .slice (some ⟨w2.heap.size, 0, none⟩) 1 1]) (results_cell_row rfl _ _ w.heap.size 27 _ (0, 0) _ rfl Y.out.1 Tryz.underlying27 rfl (by kernel_rfl)) rfl Y.out.2

set_option maxRecDepth 8000 in
set_option maxHeartbeats 2000000 in
theorem money_any (a b : Val) (w : World) (h : DD p W0 g op r [a, b] w) :
    Calls Tryz.prog 48 #[.pointer (some ⟨g, 0, none⟩)] w (Ret p W0 g op r w (NV w.heap.size) ((moneyO a b).map (fun z => (z, [])))) := by
  have A0 := hid (At.start h)
  have H1 := hid (wrd_any a [b] _ A0.out.dd)
  generalize hoo : (moneyO a b).map (fun z => (z, ([] : List Val))) = oo
  have HE : Hid (oo = _) := hid hoo.symm
  unfold moneyO at HE
  clear h hoo
  go_enter Tryz.func48, Tryz.ntmps48
  go_wp2_with fail
  refine H1.out.mono ?_
  intro e w1 hr
  cases h1 : wordC a with
  | none =>
    obtain rfl := hr.of_none (by rw [h1]; rfl)
    have A1 := hid (A0.out.no (V := NV w.heap.size) hr.grown (HE.out.trans (by rw [h1]; rfl)))
    clear hr H1 h1 HE A0
    go_wp2
    exact ⟨rfl, A1.out⟩
  | some x1 =>
    obtain ⟨v1, rfl, hv, hd⟩ := hr.of_some (by rw [h1]; rfl)
    unfold IntV at hv; subst hv
    have A1 := hid (A0.out.step hr.grown hd)
    have K1 := hid h1
    clear hr hd H1 h1 A0
    have H2 := hid (tak_any 7 b [] _ A1.out.dd)
    go_wp2_with fail
    refine H2.out.mono ?_
    intro e w2 hr
    cases h2 : takC 7 b with
    | none =>
      obtain rfl := hr.of_none (by rw [h2]; rfl)
      have A2 := hid (A1.out.no (V := NV w.heap.size) hr.grown (HE.out.trans (by rw [K1.out, h2]; rfl)))
      clear hr H2 h2 HE A1
      go_wp2
      exact ⟨rfl, A2.out⟩
    | some x2 =>
      obtain ⟨v2, rfl, hv, hd⟩ := hr.of_some (by rw [h2]; rfl)
      have hl2 := takC_len h2
      rw [show fieldsL.getD (Int.toNat 7) 0 = 2 by decide] at hl2
      obtain ⟨m2, s2, rfl⟩ := len2 (f := x2) (by omega)
      clear hl2
      have V2 := hid hv
      obtain ⟨b2, o2, cap2, rfl, hcl2, hcm2, hbl2⟩ := hv.has2
      have A2 := hid (A1.out.step hr.grown hd)
      have K2 := hid h2
      clear hr hd H2 h2 A1 hv
      obtain ⟨q1, q2, q3, q4⟩ := takC_dec K2.out
      have e0 := (V2.out.on A2.out.dd.base).cell0
      have e1 := (V2.out.on A2.out.dd.base).cell1
      have HE := hid (HE.out.trans (by rw [K1.out, K2.out]; rfl : _ = Option.map (fun z => (z, ([] : List Val))) (if 0 ≤ x1 then (De.Dc.scaled m2 s2.toNat (x1 % 10).toNat).bind fun n => some ⟨8, [x1, n]⟩ else none)))
      clear K1 K2
      by_cases hq : 0 ≤ x1
      case neg =>
        rw [if_neg hq] at HE
        have hlt : x1 < 0 := by omega
        go_wp2_with fail
        refine (need_no' p _ A2.out.dd.tabs (by first | rfl | (simp only [decide_eq_false_iff_not]; omega))).mono ?_
        rintro e wn ⟨rfl, hw⟩
        obtain rfl := hw.symm
        go_wp2
        exact ⟨rfl, A2.out.no (World.grownBy.refl _ _) HE.out⟩
      case pos =>
        rw [if_pos hq] at HE
        obtain ⟨t, rfl⟩ := Int.eq_ofNat_of_zero_le q3
        obtain ⟨k, hk⟩ := Int.eq_ofNat_of_zero_le (show 0 ≤ x1 % 10 by omega)
        have htm : x1.tmod 10 = x1 % 10 := Int.tmod_eq_emod_of_nonneg hq
        have HS := hid fun w => De.scaled_any m2 t k w (by omega) (by omega) (by omega) (by omega)
        rw [Int.toNat_natCast, hk, Int.toNat_natCast] at HE
        rw [← hk] at HS
        clear hk
        cases hs : De.Dc.scaled m2 t k with
        | none =>
          rw [hs] at HS HE
          unfold De.scV at HS
          clear hs
          go_wp2_with fail
          refine (need_yes' _ (by first | rfl | (simp only [decide_eq_true_eq]; omega))).mono ?_
          rintro e wn ⟨rfl, hw⟩
          obtain rfl := hw.symm
          clear hw
          go_wp2
          go_region_with (go_at_call 86; refine (HS.out _).mono ?_; rintro e w3 ⟨rfl, hb⟩; have A3 := hid ((A2.out.up (Below.refl _ _).drew).up hb); clear hb)
          all_goals
            go_wp2_with fail
            refine (need_no' p _ A3.out.dd.tabs (by first | rfl | (simp only [decide_eq_false_iff_not]; omega))).mono ?_
            rintro e wn ⟨rfl, hw⟩
            obtain rfl := hw.symm
            go_wp2
            exact ⟨rfl, A3.out.no (World.grownBy.refl _ _) HE.out⟩
        | some n =>
          rw [hs] at HS HE
          unfold De.scV at HS
          clear hs
          go_wp2_with fail
          refine (need_yes' _ (by first | rfl | (simp only [decide_eq_true_eq]; omega))).mono ?_
          rintro e wn ⟨rfl, hw⟩
          obtain rfl := hw.symm
          clear hw
          go_wp2
          go_region_with (go_at_call 86; refine (HS.out _).mono ?_; rintro e w3 ⟨rfl, hb⟩; have A3 := hid ((A2.out.up (Below.refl _ _).drew).up hb); clear hb)
          all_goals
            have HE := hid (HE.out : oo = some (⟨8, [x1, n]⟩, []))
            go_wp2_with fail
            refine (need_yes' _ (by first | rfl | (simp only [decide_eq_true_eq]; omega))).mono ?_
            rintro e wn ⟨rfl, hw⟩
            obtain rfl := hw.symm
            clear hw
            have HO : Hid (oo = some (⟨8, [x1, n]⟩, [])) := hid (HE.out.trans rfl)
            have hs := A3.out.size
            have HN : Hid (∀ w', Below (w3.alloc (.cells #[.int .i64 (x1), .int .i64 (n)] 3)).heap.size (w3.alloc (.cells #[.int .i64 (x1), .int .i64 (n)] 3)) w' → NV (w.heap.size + 1) w' (.agg #[.int .i64 8, .slice (some ⟨w3.heap.size, 0, none⟩) 2 2]) ⟨8, [x1, n]⟩) := hid fun w' hb => ⟨_, rfl, NA.lit (t := 3) [x1, n] (by omega) (by simp) hb⟩
            clear HE  hs
            go_wp2_with fail
            refine (value_any _ _ _ _ _).mono ?_
            rintro e wv ⟨rfl, hb⟩
            have AV := hid ((A3.out.up (up_alloc _ _)).up hb)
            have Y := hid (AV.out.yes (HN.out wv hb) HO.out)
            have c0 := AV.out.c0
            have c1 := AV.out.c1
            have f0 := AV.out.fz 0
            have f1 := AV.out.fz 1
            clear hb HN AV A3
            go_wp2
            refine bodyPost_ret (v := .agg #[.int .i64 8, .slice (some ⟨w3.heap.size, 0, none⟩) 2 2]) (results_cell_row rfl _ _ w.heap.size 27 _ (0, 0) _ rfl Y.out.1 Tryz.underlying27 rfl (by kernel_rfl)) rfl Y.out.2

set_option maxRecDepth 8000 in
set_option maxHeartbeats 2000000 in
theorem point_any (a b : Val) (w : World) (h : DD p W0 g op r [a, b] w) (hj : Joins a b) :
    Calls Tryz.prog 45 #[.pointer (some ⟨g, 0, none⟩)] w (Ret p W0 g op r w (NV w.heap.size) ((pointO a b).map (fun z => (z, [])))) := by
  have A0 := hid (At.start h)
  have H1 := hid (num_any a [b] _ A0.out.dd)
  generalize hoo : (pointO a b).map (fun z => (z, ([] : List Val))) = oo
  have HE : Hid (oo = _) := hid hoo.symm
  unfold pointO at HE
  clear h hoo
  go_enter Tryz.func45, Tryz.ntmps45
  go_wp2_with fail
  refine H1.out.mono ?_
  intro e w1 hr
  cases h1 : numC a with
  | none =>
    obtain rfl := hr.of_none (by rw [h1]; rfl)
    have A1 := hid (A0.out.no (V := NV w.heap.size) hr.grown (HE.out.trans (by rw [h1]; rfl)))
    clear hr H1 h1 HE A0
    go_wp2
    exact ⟨rfl, A1.out⟩
  | some x1 =>
    obtain ⟨v1, rfl, hv, hd⟩ := hr.of_some (by rw [h1]; rfl)
    unfold IntV at hv; subst hv
    have A1 := hid (A0.out.step hr.grown hd)
    have K1 := hid h1
    clear hr hd H1 h1 A0
    have H2 := hid (tak_any 1 b [] _ A1.out.dd)
    go_wp2_with fail
    refine H2.out.mono ?_
    intro e w2 hr
    cases h2 : takC 1 b with
    | none =>
      obtain rfl := hr.of_none (by rw [h2]; rfl)
      have A2 := hid (A1.out.no (V := NV w.heap.size) hr.grown (HE.out.trans (by rw [K1.out, h2]; rfl)))
      clear hr H2 h2 HE A1
      go_wp2
      exact ⟨rfl, A2.out⟩
    | some x2 =>
      obtain ⟨v2, rfl, hv, hd⟩ := hr.of_some (by rw [h2]; rfl)
      have hl2 := takC_len h2
      rw [show fieldsL.getD (Int.toNat 1) 0 = 2 by decide] at hl2
      obtain ⟨m2, s2, rfl⟩ := len2 (f := x2) (by omega)
      clear hl2
      have V2 := hid hv
      obtain ⟨b2, o2, cap2, rfl, hcl2, hcm2, hbl2⟩ := hv.has2
      have A2 := hid (A1.out.step hr.grown hd)
      have K2 := hid h2
      clear hr hd H2 h2 A1 hv
      obtain ⟨q1, q2, q3, q4, q5, q6⟩ := hj _ _ _ K1.out K2.out
      have e0 := (V2.out.on A2.out.dd.base).cell0
      have e1 := (V2.out.on A2.out.dd.base).cell1
      have HE := hid (HE.out.trans (by rw [K1.out, K2.out]; rfl : _ = some (⟨7, [(De.Dc.norm (x1 * De.Dc.ten s2.toNat + m2) s2.toNat).1, ((De.Dc.norm (x1 * De.Dc.ten s2.toNat + m2) s2.toNat).2 : Int)]⟩, [])))
      clear K1 K2 hj
      obtain ⟨t, rfl⟩ := Int.eq_ofNat_of_zero_le q3
      rw [Int.toNat_natCast] at *
      have HS := hid fun w => De.join_any x1 m2 t w q1 q2 q5 q6 (by omega)
      generalize (De.Dc.norm (x1 * De.Dc.ten t + m2) t).1 = y1 at *
      generalize ((De.Dc.norm (x1 * De.Dc.ten t + m2) t).2 : Int) = y2 at *
      clear q5 q6
      go_wp2
      go_region_with (go_at_call 84; refine (HS.out _).mono ?_; rintro e w3 ⟨rfl, hb⟩; have A3 := hid ((A2.out.up (Below.refl _ _).drew).up hb); clear hb)
      all_goals
        go_wp2_with fail
        refine (need_yes' _ (by first | rfl | (simp only [decide_eq_true_eq]; omega))).mono ?_
        rintro e wn ⟨rfl, hw⟩
        obtain rfl := hw.symm
        clear hw
        have HO : Hid (oo = some (⟨7, [y1, y2]⟩, [])) := hid (HE.out.trans rfl)
        have hs := A3.out.size
        have HN : Hid (∀ w', Below (w3.alloc (.cells #[.int .i64 (y1), .int .i64 (y2)] 3)).heap.size (w3.alloc (.cells #[.int .i64 (y1), .int .i64 (y2)] 3)) w' → NV (w.heap.size + 1) w' (.agg #[.int .i64 7, .slice (some ⟨w3.heap.size, 0, none⟩) 2 2]) ⟨7, [y1, y2]⟩) := hid fun w' hb => ⟨_, rfl, NA.lit (t := 3) [y1, y2] (by omega) (by simp) hb⟩
        clear HE  hs
        go_wp2_with fail
        refine (value_any _ _ _ _ _).mono ?_
        rintro e wv ⟨rfl, hb⟩
        have AV := hid ((A3.out.up (up_alloc _ _)).up hb)
        have Y := hid (AV.out.yes (HN.out wv hb) HO.out)
        have c0 := AV.out.c0
        have c1 := AV.out.c1
        have f0 := AV.out.fz 0
        have f1 := AV.out.fz 1
        clear hb HN AV A3
        go_wp2
        refine bodyPost_ret (v := .agg #[.int .i64 7, .slice (some ⟨w3.heap.size, 0, none⟩) 2 2]) (results_cell_row rfl _ _ w.heap.size 27 _ (0, 0) _ rfl Y.out.1 Tryz.underlying27 rfl (by kernel_rfl)) rfl Y.out.2

set_option maxRecDepth 8000 in
set_option maxHeartbeats 2000000 in
theorem on_any (mo da : Int) (cs : List Val) (w : World) (h : DD p W0 g op r cs w) (hr : RR r) :
    Calls Tryz.prog 82 #[.pointer (some ⟨g, 0, none⟩), .int .i64 mo, .int .i64 da] w (Ret p W0 g op r w (NV w.heap.size) ((onO r mo da).map (fun z => (z, cs)))) := by
  have A0 := hid (At.start h)
  obtain ⟨hv, y0, y1⟩ := hr.bd
  have HR : Hid (∀ w, Calls Tryz.prog 69 #[.agg #[.int .i64 r.y, .int .i64 r.m, .int .i64 r.d, .int .i64 r.h, .int .i64 r.i, .int .i64 r.s]] w fun e w' => e = .returned (.bool true) ∧ Below w.heap.size w w') := hid fun w => by
    have := Ci.right_any r.y r.m r.d r.h r.i r.s w
    rwa [show Ci.rtB r.y r.m r.d r.h r.i r.s = true from hr] at this
  have HA := hid fun w => Ci.add_any r.y r.m r.d mo da w hv y0 y1
  unfold Ci.addV at HA
  generalize hoo : (onO r mo da).map (fun z => (z, cs)) = oo
  have HE : Hid (oo = _) := hid hoo.symm
  unfold onO at HE
  generalize Ci.Civ.cY (Ci.addK r.y r.m r.d mo da) = x1 at *
  generalize Ci.Civ.cM (Ci.addK r.y r.m r.d mo da) = x2 at *
  generalize Ci.Civ.cD (Ci.addK r.y r.m r.d mo da) = x3 at *
  obtain ⟨_, d3, d4, d5, d6, d7, d8⟩ := A0.out.dd.cells
  clear h hoo hr hv y0 y1
  cases hf : Ci.addOk r.y r.m r.d mo da with
  | false =>
    rw [hf] at HA HE
    clear hf
    rw [if_neg (by decide)] at HA HE
    unfold Ci.tup at HA
    go_enter Tryz.func82, Tryz.ntmps82
    go_wp2_with fail
    refine (HR.out _).mono ?_
    rintro e w1 ⟨rfl, hb⟩
    have A1 := hid (A0.out.up hb)
    obtain ⟨_, d3, d4, d5, d6, d7, d8⟩ := A1.out.dd.cells
    clear hb
    go_wp2_with fail
    refine (need_yes _).mono ?_
    rintro e wn ⟨rfl, hw⟩
    obtain rfl := hw.symm
    clear hw
    go_wp2
    have hgl := A1.out.dd.lt
    refine Ci.wp_region_ext2 (by kernel_rfl) (by kernel_rfl) (fun hne hcell => ?_)
    repeat (go_big_quiet_step ((go_at_call 104; exact (HA.out _).mono (fun e w' h => ⟨h.1, Ci.Ext.to _ h.2⟩))))
    refine wpQuiet_nil ?_
    rintro _ ⟨s, rfl⟩
    have A2 := hid (A1.out.up s.below)
    clear hne hcell
    generalize s.out = w2 at *
    go_wp2_with fail
    refine (need_no' p _ A2.out.dd.tabs (by first | rfl | (simp only [decide_eq_false_iff_not]; omega))).mono ?_
    rintro e wn ⟨rfl, hw⟩
    obtain rfl := hw.symm
    go_wp2
    exact ⟨rfl, A2.out.no (World.grownBy.refl _ _) HE.out⟩
  | true =>
    rw [hf] at HA HE
    clear hf
    rw [if_pos rfl] at HA HE
    unfold Ci.tup at HA
    go_enter Tryz.func82, Tryz.ntmps82
    go_wp2_with fail
    refine (HR.out _).mono ?_
    rintro e w1 ⟨rfl, hb⟩
    have A1 := hid (A0.out.up hb)
    obtain ⟨_, d3, d4, d5, d6, d7, d8⟩ := A1.out.dd.cells
    clear hb
    go_wp2_with fail
    refine (need_yes _).mono ?_
    rintro e wn ⟨rfl, hw⟩
    obtain rfl := hw.symm
    clear hw
    go_wp2
    have hgl := A1.out.dd.lt
    refine Ci.wp_region_ext2 (by kernel_rfl) (by kernel_rfl) (fun hne hcell => ?_)
    repeat (go_big_quiet_step ((go_at_call 104; exact (HA.out _).mono (fun e w' h => ⟨h.1, Ci.Ext.to _ h.2⟩))))
    refine wpQuiet_nil ?_
    rintro _ ⟨s, rfl⟩
    have A2 := hid (A1.out.up s.below)
    clear hne hcell
    generalize s.out = w2 at *
    go_wp2_with fail
    refine (need_yes' _ (by first | rfl | (simp only [decide_eq_true_eq]; omega))).mono ?_
    rintro e wn ⟨rfl, hw⟩
    obtain rfl := hw.symm
    clear hw
    have HO : Hid (oo = some (⟨4, [x1, x2, x3]⟩, cs)) := hid (HE.out.trans rfl)
    have hs := A2.out.size
    have HN : Hid (∀ w', Below (w2.alloc (.cells #[.int .i64 (x1), .int .i64 (x2), .int .i64 (x3)] 3)).heap.size (w2.alloc (.cells #[.int .i64 (x1), .int .i64 (x2), .int .i64 (x3)] 3)) w' → NV (w.heap.size + 1) w' (.agg #[.int .i64 4, .slice (some ⟨w2.heap.size, 0, none⟩) 3 3]) ⟨4, [x1, x2, x3]⟩) := hid fun w' hb => ⟨_, rfl, NA.lit (t := 3) [x1, x2, x3] (by omega) (by simp) hb⟩
    clear HE  hs
    go_wp2_with fail
    refine (value_any _ _ _ _ _).mono ?_
    rintro e wv ⟨rfl, hb⟩
    have AV := hid ((A2.out.up (up_alloc _ _)).up hb)
    have Y := hid (AV.out.yes (HN.out wv hb) HO.out)
    have c0 := AV.out.c0
    have c1 := AV.out.c1
    have f0 := AV.out.fz 0
    have f1 := AV.out.fz 1
    clear hb HN AV A2
    go_wp2
    refine bodyPost_ret (v := .agg #[.int .i64 4, .slice (some ⟨w2.heap.size, 0, none⟩) 3 3]) (results_cell_row rfl _ _ w.heap.size 27 _ (0, 0) _ rfl Y.out.1 Tryz.underlying27 rfl (by kernel_rfl)) rfl Y.out.2

end
end Go.Proofs.YtengcdodoblabaaGreatDoor
