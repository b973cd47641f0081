/- law8's own: numbers within bounds, references, values compared, signs. -/
import Derived.Test.YtengcdodoblabaaGreatDoorMade
namespace Go.Proofs.YtengcdodoblabaaGreatDoor
open Go.RowKit

theorem emod_of_tmod (a n : Int) (h : 0 < n) : a % n = if a.tmod n < 0 then a.tmod n + n else a.tmod n := by
  have e : a.tmod n + n * a.tdiv n = a := Int.tmod_add_mul_tdiv a n
  have h2 := Int.tmod_lt_of_pos a h
  have h3 := Int.tmod_lt_of_pos (-a) h
  rw [Int.neg_tmod] at h3
  have e2 : a % n = a.tmod n % n := by conv => lhs; rw [← e]
                                       rw [Int.add_mul_emod_self_left]
  rw [e2]
  split
  · rw [← Int.add_emod_right, Int.emod_eq_of_lt (by omega) (by omega)]
  · exact Int.emod_eq_of_lt (by omega) (by omega)

set_option maxHeartbeats 1000000 in
theorem lwithin_any (a n : Int) (w : World) (h : 0 < n) (h1 : n ≤ 9223372036854775807) (_ha : -9223372036854775808 ≤ a) (_hb : a ≤ 9223372036854775807) :
    Calls Tryz.prog 7 #[.int .i64 a, .int .i64 n] w fun e w' => e = .returned (.int .i64 (a % n)) ∧ w' = w := by
  have HE := hid (emod_of_tmod a n h)
  have h2 := Int.tmod_lt_of_pos a h
  have h3 := Int.tmod_lt_of_pos (-a) h
  rw [Int.neg_tmod] at h3
  have hn0 : n ≠ 0 := by omega
  by_cases hk : a.tmod n < 0
  case pos =>
    have HE := hid (HE.out.trans (if_pos hk))
    generalize a % n = z at *
    go_enter Tryz.func7, Tryz.ntmps7
    go_wp2
    go_ret
    exact ⟨ret_int HE.out.symm, rfl⟩
  case neg =>
    have HE := hid (HE.out.trans (if_neg hk))
    generalize a % n = z at *
    go_enter Tryz.func7, Tryz.ntmps7
    go_wp2
    go_ret
    exact ⟨ret_int HE.out.symm, rfl⟩

/-- A moment by a number. -/
def refM (n : Int) : Mom := ⟨Ci.dayY n false, Ci.dayM n, Ci.dayD n false, n.tdiv 7 % 24, n.tdiv 11 % 60, n.tdiv 13 % 60⟩
theorem refM_right (n : Int) : RR (refM n) := by
  unfold RR Ci.rtB Ci.dayB Ci.clockB refM
  dsimp only
  have h1 := Ci.day_vld n false
  obtain ⟨h2, h3⟩ := Ci.dayY_narrow n
  have e : ∀ a b c : Int, a ≤ b → b ≤ c → Ci.inB b a c = true := fun a b c h h' => by unfold Ci.inB; simp [h, h']
  rw [h1, e 1 _ 9999 h2 h3, e 0 _ 23 (by omega) (by omega), e 0 _ 59 (by omega) (by omega), e 0 _ 59 (by omega) (by omega)]
  rfl
theorem refM_y (n : Int) : 1 ≤ (refM n).y ∧ (refM n).y ≤ 9999 := Ci.dayY_narrow n

theorem td7 (n : Int) (h0 : -9223372036854775808 ≤ n) (h1 : n ≤ 9223372036854775807) : -9223372036854775808 ≤ n.tdiv 7 ∧ n.tdiv 7 ≤ 9223372036854775807 := by
  by_cases h : 0 ≤ n
  · rw [Int.tdiv_eq_ediv_of_nonneg h]; omega
  · have e : n.tdiv 7 = -((-n).tdiv 7) := by rw [Int.neg_tdiv]; omega
    rw [e, Int.tdiv_eq_ediv_of_nonneg (by omega)]; omega
theorem td11 (n : Int) (h0 : -9223372036854775808 ≤ n) (h1 : n ≤ 9223372036854775807) : -9223372036854775808 ≤ n.tdiv 11 ∧ n.tdiv 11 ≤ 9223372036854775807 := by
  by_cases h : 0 ≤ n
  · rw [Int.tdiv_eq_ediv_of_nonneg h]; omega
  · have e : n.tdiv 11 = -((-n).tdiv 11) := by rw [Int.neg_tdiv]; omega
    rw [e, Int.tdiv_eq_ediv_of_nonneg (by omega)]; omega
theorem td13 (n : Int) (h0 : -9223372036854775808 ≤ n) (h1 : n ≤ 9223372036854775807) : -9223372036854775808 ≤ n.tdiv 13 ∧ n.tdiv 13 ≤ 9223372036854775807 := by
  by_cases h : 0 ≤ n
  · rw [Int.tdiv_eq_ediv_of_nonneg h]; omega
  · have e : n.tdiv 13 = -((-n).tdiv 13) := by rw [Int.neg_tdiv]; omega
    rw [e, Int.tdiv_eq_ediv_of_nonneg (by omega)]; omega

set_option maxRecDepth 8000 in
set_option maxHeartbeats 1000000 in
theorem ref_any (n : Int) (w : World) (h0 : -9223372036854775808 ≤ n) (h1 : n ≤ 9223372036854775807) :
    Calls Tryz.prog 10 #[.int .i64 n] w fun e w' => e = .returned (momV (refM n)) ∧ Below w.heap.size w w' := by
  have HD := hid fun w => Ci.day_any n false w h0 h1
  obtain ⟨b1, b2⟩ := td7 n h0 h1
  obtain ⟨b3, b4⟩ := td11 n h0 h1
  obtain ⟨b5, b6⟩ := td13 n h0 h1
  have W1 := hid fun w => lwithin_any (n.tdiv 7) 24 w (by decide) (by decide) b1 b2
  have W2 := hid fun w => lwithin_any (n.tdiv 11) 60 w (by decide) (by decide) b3 b4
  have W3 := hid fun w => lwithin_any (n.tdiv 13) 60 w (by decide) (by decide) b5 b6
  unfold momV refM
  generalize n.tdiv 7 % 24 = x4 at *
  generalize n.tdiv 11 % 60 = x5 at *
  generalize n.tdiv 13 % 60 = x6 at *
  generalize Ci.dayY n false = x1 at *
  generalize Ci.dayM n = x2 at *
  generalize Ci.dayD n false = x3 at *
  go_enter Tryz.func10, Tryz.ntmps10
  go_wp2_with fail
  refine (HD.out _).mono ?_
  rintro e wn ⟨rfl, hw⟩
  obtain rfl := hw.symm
  clear hw
  go_wp2_with fail
  refine (W1.out _).mono ?_
  rintro e wn ⟨rfl, hw⟩
  obtain rfl := hw.symm
  clear hw
  go_wp2_with fail
  refine (W2.out _).mono ?_
  rintro e wn ⟨rfl, hw⟩
  obtain rfl := hw.symm
  clear hw
  go_wp2_with fail
  refine (W3.out _).mono ?_
  rintro e wn ⟨rfl, hw⟩
  obtain rfl := hw.symm
  clear hw
  go_wp2
  refine bodyPost_ret (v := .agg #[.int .i64 x1, .int .i64 x2, .int .i64 x3, .int .i64 x4, .int .i64 x5, .int .i64 x6]) (results_cell_row rfl _ _ w.heap.size 32 _ (0, 0) _ rfl (new_row w _) Tryz.underlying32 rfl (by kernel_rfl)) rfl ⟨rfl, up_alloc _ _⟩

theorem order_any (a b : Int) (w : World) :
    Calls Tryz.prog 25 #[.int .i64 a, .int .i64 b] w fun e w' => e = .returned (.int .i64 (De.Dc.ord a b)) ∧ w' = w := by
  unfold De.Dc.ord
  by_cases h1 : a < b
  · rw [if_pos h1]
    go_enter Tryz.func25, Tryz.ntmps25
    go_wp2
    go_ret
    exact ⟨rfl, rfl⟩
  · rw [if_neg h1]
    by_cases h2 : b < a
    · rw [if_pos h2]
      go_enter Tryz.func25, Tryz.ntmps25
      go_wp2
      go_ret
      exact ⟨rfl, rfl⟩
    · rw [if_neg h2]
      go_enter Tryz.func25, Tryz.ntmps25
      go_wp2
      go_ret
      exact ⟨rfl, rfl⟩

/-- How two values are held. -/
def cmpV (x y : Val) : Int := if De.Dc.ord x.kind y.kind = 0 then (if De.Dc.ord (x.f.length : Int) (y.f.length : Int) = 0 then cmpL x.f y.f else De.Dc.ord (x.f.length : Int) (y.f.length : Int)) else De.Dc.ord x.kind y.kind
theorem ord_eq {a b : Int} (h : De.Dc.ord a b = 0) : a = b := by
  unfold De.Dc.ord at h
  by_cases h1 : a < b
  · rw [if_pos h1] at h; cases h
  · rw [if_neg h1] at h
    by_cases h2 : b < a
    · rw [if_pos h2] at h; cases h
    · omega
theorem cmpL_self : ∀ l : List Int, cmpL l l = 0
  | [] => rfl
  | a :: l => by unfold cmpL; rw [if_pos (De.Dc.ord_self a)]; exact cmpL_self l
theorem cmpL_eq : ∀ l k : List Int, cmpL l k = 0 → l = k
  | [], [], _ => rfl
  | [], _ :: _, h => by cases h
  | _ :: _, [], h => by cases h
  | a :: l, b :: k, h => by
    unfold cmpL at h
    by_cases h1 : De.Dc.ord a b = 0
    · rw [if_pos h1] at h; rw [ord_eq h1, cmpL_eq l k h]
    · rw [if_neg h1] at h; exact absurd h h1
theorem cmpV_self (x : Val) : cmpV x x = 0 := by unfold cmpV; rw [if_pos (De.Dc.ord_self _), if_pos (De.Dc.ord_self _), cmpL_self]
theorem cmpV_eq {x y : Val} (h : cmpV x y = 0) : x = y := by
  unfold cmpV at h
  by_cases h1 : De.Dc.ord x.kind y.kind = 0
  · rw [if_pos h1] at h
    by_cases h2 : De.Dc.ord (x.f.length : Int) (y.f.length : Int) = 0
    · rw [if_pos h2] at h
      obtain ⟨k, f⟩ := x
      obtain ⟨k', f'⟩ := y
      have := cmpL_eq _ _ h
      have := ord_eq h1
      dsimp only at *
      subst_vars
      rfl
    · rw [if_neg h2] at h; exact absurd h h2
  · rw [if_neg h1] at h; exact absurd h h1
theorem cmpV_iff (x y : Val) : cmpV x y = 0 ↔ x = y := ⟨cmpV_eq, fun h => by rw [h]; exact cmpV_self y⟩

set_option maxRecDepth 8000 in
set_option maxHeartbeats 2000000 in
theorem rcmp_any (x y : Val) (v u : Value) (w : World) (hv : VA w v x) (hu : VA w u y) :
    Calls Tryz.prog 13 #[v, u] w fun e w' => e = .returned (.int .i64 (cmpV x y)) ∧ Below w.heap.size w w' := by
  obtain ⟨kx, fx⟩ := x
  obtain ⟨ky, fy⟩ := y
  obtain ⟨fv, rfl, hf⟩ := hv
  obtain ⟨fu, rfl, hg⟩ := hu
  have HF := hid hf
  have HG := hid hg
  obtain ⟨ad, cap, rfl, a1, a2, a3⟩ := hf.shape
  obtain ⟨ad2, cap2, rfl, b1, b2, b3⟩ := hg.shape
  dsimp only at *
  have HLx := hid (rfl : fx.length = fx.length)
  have HLy := hid (rfl : fy.length = fy.length)
  have HE : Hid (cmpV ⟨kx, fx⟩ ⟨ky, fy⟩ = if De.Dc.ord kx ky = 0 then (if De.Dc.ord (fx.length : Int) (fy.length : Int) = 0 then cmpL fx fy else De.Dc.ord (fx.length : Int) (fy.length : Int)) else De.Dc.ord kx ky) := hid rfl
  generalize cmpV ⟨kx, fx⟩ ⟨ky, fy⟩ = res at *
  obtain ⟨w2, hw2⟩ : ∃ w2, w2 = (w.alloc (.cells #[.int .i64 kx, .slice ad fx.length cap] 27)).alloc (.cells #[.int .i64 ky, .slice ad2 fy.length cap2] 27) := ⟨_, rfl⟩
  have HB := hid (show Below w.heap.size w w2 by rw [hw2]; exact up_trans (up_alloc _ _) (up_alloc _ _))
  have X0 := hid (show w2.heap[w.heap.size]? = some (.cells #[.int .i64 kx, .slice ad fx.length cap] 27 (0, 0)) by rw [hw2, Below.heap_alloc _ _ _ (by simp)]; exact new_row _ _)
  have X1 := hid (show w2.heap[w.heap.size + 1]? = some (.cells #[.int .i64 ky, .slice ad2 fy.length cap2] 27 (0, 0)) by rw [hw2]; exact heap_alloc2_new _ _ _)
  have hs2 : w2.heap.size = w.heap.size + 2 := by rw [hw2]; simp
  have HO1 := hid fun w => order_any kx ky w
  have HO2 := hid fun w => order_any (fx.length : Int) (fy.length : Int) w
  clear hf hg
  generalize hnx : fx.length = nx at *
  generalize hny : fy.length = ny at *
  go_enter Tryz.func13, Tryz.ntmps13
  go_wp2_with fail
  refine (HO1.out _).mono ?_
  rintro e wn ⟨rfl, hw⟩
  obtain rfl := hw.symm
  clear hw
  by_cases h1 : De.Dc.ord kx ky = 0
  case neg =>
    have HE := hid (HE.out.trans (if_neg h1))
    have h2 : (De.Dc.ord kx ky != 0) = true := by simpa using h1
    generalize De.Dc.ord kx ky = z at *
    rw [← hw2]
    clear hw2 hnx hny HLx HLy h1
    go_wp2
    go_ret
    exact ⟨ret_int HE.out.symm, HB.out⟩
  case pos =>
    have HE := hid (HE.out.trans (if_pos h1))
    rw [h1]
    go_wp2_with fail
    refine (HO2.out _).mono ?_
    rintro e wn ⟨rfl, hw⟩
    obtain rfl := hw.symm
    clear hw
    by_cases h3 : De.Dc.ord (nx : Int) (ny : Int) = 0
    case neg =>
      have HE := hid (HE.out.trans (if_neg h3))
      have h2 : (De.Dc.ord (nx : Int) (ny : Int) != 0) = true := by simpa using h3
      generalize De.Dc.ord (nx : Int) (ny : Int) = z at *
      rw [← hw2]
      clear hw2 hnx hny HLx HLy h1 h3
      go_wp2
      go_ret
      exact ⟨ret_int HE.out.symm, HB.out⟩
    case pos =>
      have HE3 := hid (HE.out.trans (if_pos h3))
      rw [h3]
      have hnn : nx = ny := by have := ord_eq h3; omega
      subst hnn
      rw [← hw2]
      have HNX := hid hnx
      have HNY := hid hny
      clear hw2 hnx hny HLx HLy h1 h3 HO1 HO2
      go_wp2
      go_loopw [7] (fun v7 wr => ∃ j : Nat, j ≤ nx ∧ v7 = .int .i64 j ∧ Hid (cmpL (fx.drop j) (fy.drop j) = cmpL fx fy) ∧ Hid (Below w2.heap.size w2 wr)) (fun v7 _ => nx - (intOf v7).toNat)
      case atStart => exact ⟨0, by omega, rfl, hid (by simp), hid (Below.refl _ _)⟩
      case round =>
        obtain ⟨j, hj, rfl, he, HBr⟩ := hrel
        have hX0 := (HBr.out.block w.heap.size (by omega)).trans X0.out
        have hX1 := (HBr.out.block (w.heap.size + 1) (by omega)).trans X1.out
        have c1 := cell_of_row (o := 1) hX0
        have c3 := cell_of_row (o := 1) hX1
        simp only [List.getElem?_toArray, List.getElem?_cons_zero, List.getElem?_cons_succ] at c1 c3
        by_cases hlt3 : j < nx
        case pos =>
          have hlt4 : (j : Int) < (nx : Int) := by omega
          obtain ⟨gb, go, gcap, e1, _, _, _, hcs⟩ := ((HF.out.on HB.out).on HBr.out).has (by rw [HNX.out]; omega)
          obtain ⟨gb2, go2, gcap2, e2, _, _, _, hcs2⟩ := ((HG.out.on HB.out).on HBr.out).has (by rw [HNY.out]; omega)
          rw [HNX.out] at e1
          rw [HNY.out] at e2
          have d0 := hcs j (by rw [HNX.out]; exact hlt3)
          have d1 := hcs2 j (by rw [HNY.out]; exact hlt3)
          injection e1 with e1a e1b e1c
          injection e2 with e2a e2b e2c
          rw [e1a] at c1
          rw [e2a] at c3
          have HS : Hid (cmpL fx fy = if De.Dc.ord (fx.getD j 0) (fy.getD j 0) = 0 then cmpL (fx.drop (j + 1)) (fy.drop (j + 1)) else De.Dc.ord (fx.getD j 0) (fy.getD j 0)) := hid (by rw [← he.out, getD_drop fx j (by rw [HNX.out]; exact hlt3), getD_drop fy j (by rw [HNY.out]; exact hlt3)]; rfl)
          have HC := hid (order_any (fx.getD j 0) (fy.getD j 0))
          generalize fx.getD j 0 = a at *
          generalize fy.getD j 0 = b at *
          clear hcs hcs2 e1a e1b e1c e2a e2b e2c hX0 hX1
          by_cases hz : De.Dc.ord a b = 0
          case pos =>
            have HZ := hid (HS.out.trans (if_pos hz))
            rw [hz] at HC
            clear hz HS
            go_wp2
            go_quiet ((go_at_call 25; exact (HC.out _).mono (fun e w' h => ⟨h.1, _, h.2⟩)))
            go_wp2
            go_round
            case rel => exact ⟨j + 1, by omega, by simp, hid HZ.out.symm, hid (below_drewN HBr.out _)⟩
            case measure => simp [intOf]; omega
          case neg =>
            have HZ := hid (HS.out.trans (if_neg hz))
            have hz2 : (De.Dc.ord a b != 0) = true := by simpa using hz
            generalize De.Dc.ord a b = z at *
            clear hz HS
            go_wp2
            go_quiet ((go_at_call 25; exact (HC.out _).mono (fun e w' h => ⟨h.1, _, h.2⟩)))
            go_wp2
            go_ret
            exact ⟨ret_int (HE3.out.trans HZ.out).symm, HB.out.trans ((below_drewN HBr.out _).mono HB.out.size)⟩
        case neg =>
          obtain rfl : j = nx := by omega
          have HZ : Hid (cmpL fx fy = 0) := hid (by rw [← he.out, List.drop_eq_nil_of_le (by rw [HNX.out]; omega), List.drop_eq_nil_of_le (by rw [HNY.out]; omega)]; rfl)
          go_wp2
          go_ret
          exact ⟨ret_int (HE3.out.trans HZ.out).symm, HB.out.trans (HBr.out.mono HB.out.size)⟩
end Go.Proofs.YtengcdodoblabaaGreatDoor
