/- What the reference's functions on one sign answer: what it is made alike to, its bytes, a digit's bytes. -/
import Derived.Test.YtannndpamhgknaaGreatDoorXFo0
namespace Go.Proofs.YtannndpamhgknaaGreatDoor.Fo
open Go.RowKit

theorem rin_any (r a b : Int) (w : World) : Calls Tryz.prog 99 #[.int .i64 r, .int .i64 a, .int .i64 b] w fun e w' => e = .returned (.bool (decide (a ≤ r ∧ r ≤ b))) ∧ w' = w := by
  by_cases h1 : a ≤ r
  · by_cases h2 : r ≤ b
    · rw [decide_eq_true (And.intro h1 h2)]
      go_enter Tryz.func99, Tryz.ntmps99
      go_wp2
      go_ret
      exact ⟨rfl, rfl⟩
    · rw [decide_eq_false (fun h => h2 h.2)]
      go_enter Tryz.func99, Tryz.ntmps99
      go_wp2
      go_ret
      exact ⟨rfl, rfl⟩
  · rw [decide_eq_false (fun h => h1 h.1)]
    go_enter Tryz.func99, Tryz.ntmps99
    go_wp2
    go_ret
    exact ⟨rfl, rfl⟩

theorem rblank_any (r : Int) (w : World) : Calls Tryz.prog 100 #[.int .i64 r] w fun e w' => e = .returned (.bool (decide (r = 9 ∨ r = 160 ∨ ((8192 : Int) ≤ r ∧ r ≤ 8202) ∨ r = 8239 ∨ r = 8287 ∨ r = 12288))) ∧ w' = w := by
  have H := hid (fun a b => rin_any r a b w)
  rcases (show (r = 9) ∨ (¬ (r = 9) ∧ r = 160) ∨ (¬ (r = 9) ∧ ¬ (r = 160) ∧ ((8192 : Int) ≤ r ∧ r ≤ 8202)) ∨ (¬ (r = 9) ∧ ¬ (r = 160) ∧ ¬ (((8192 : Int) ≤ r ∧ r ≤ 8202)) ∧ r = 8239) ∨ (¬ (r = 9) ∧ ¬ (r = 160) ∧ ¬ (((8192 : Int) ≤ r ∧ r ≤ 8202)) ∧ ¬ (r = 8239) ∧ r = 8287) ∨ (¬ (r = 9) ∧ ¬ (r = 160) ∧ ¬ (((8192 : Int) ≤ r ∧ r ≤ 8202)) ∧ ¬ (r = 8239) ∧ ¬ (r = 8287) ∧ r = 12288) ∨ (¬ (r = 9) ∧ ¬ (r = 160) ∧ ¬ (((8192 : Int) ≤ r ∧ r ≤ 8202)) ∧ ¬ (r = 8239) ∧ ¬ (r = 8287) ∧ ¬ (r = 12288)) by omega) with c | c | c | c | c | c | c
  · rw [decide_eq_true (show r = 9 ∨ r = 160 ∨ ((8192 : Int) ≤ r ∧ r ≤ 8202) ∨ r = 8239 ∨ r = 8287 ∨ r = 12288 by omega)]
    obtain rfl : r = 9 := by omega
    clear c
    go_enter Tryz.func100, Tryz.ntmps100
    go_wp2
    go_ret
    exact ⟨rfl, rfl⟩
  · rw [decide_eq_true (show r = 9 ∨ r = 160 ∨ ((8192 : Int) ≤ r ∧ r ≤ 8202) ∨ r = 8239 ∨ r = 8287 ∨ r = 12288 by omega)]
    obtain rfl : r = 160 := by omega
    clear c
    go_enter Tryz.func100, Tryz.ntmps100
    go_wp2
    go_ret
    exact ⟨rfl, rfl⟩
  · rw [decide_eq_true (show r = 9 ∨ r = 160 ∨ ((8192 : Int) ≤ r ∧ r ≤ 8202) ∨ r = 8239 ∨ r = 8287 ∨ r = 12288 by omega)]
    have b0 : (r == 9) = false := by simp; omega
    have b1 : (r == 160) = false := by simp; omega
    go_enter Tryz.func100, Tryz.ntmps100
    go_wp2_with fail
    refine (H.out 8192 8202).mono ?_
    rintro e w1 ⟨rfl, rfl⟩
    rw [decide_eq_true (show ((8192 : Int) ≤ r ∧ r ≤ 8202) by omega)]
    go_wp2
    go_ret
    exact ⟨rfl, rfl⟩
  · rw [decide_eq_true (show r = 9 ∨ r = 160 ∨ ((8192 : Int) ≤ r ∧ r ≤ 8202) ∨ r = 8239 ∨ r = 8287 ∨ r = 12288 by omega)]
    obtain rfl : r = 8239 := by omega
    clear c
    go_enter Tryz.func100, Tryz.ntmps100
    go_wp2_with fail
    refine (H.out 8192 8202).mono ?_
    rintro e w1 ⟨rfl, rfl⟩
    rw [decide_eq_false (show ¬ (((8192 : Int) ≤ 8239 ∧ (8239 : Int) ≤ 8202)) by omega)]
    go_wp2
    go_ret
    exact ⟨rfl, rfl⟩
  · rw [decide_eq_true (show r = 9 ∨ r = 160 ∨ ((8192 : Int) ≤ r ∧ r ≤ 8202) ∨ r = 8239 ∨ r = 8287 ∨ r = 12288 by omega)]
    obtain rfl : r = 8287 := by omega
    clear c
    go_enter Tryz.func100, Tryz.ntmps100
    go_wp2_with fail
    refine (H.out 8192 8202).mono ?_
    rintro e w1 ⟨rfl, rfl⟩
    rw [decide_eq_false (show ¬ (((8192 : Int) ≤ 8287 ∧ (8287 : Int) ≤ 8202)) by omega)]
    go_wp2
    go_ret
    exact ⟨rfl, rfl⟩
  · rw [decide_eq_true (show r = 9 ∨ r = 160 ∨ ((8192 : Int) ≤ r ∧ r ≤ 8202) ∨ r = 8239 ∨ r = 8287 ∨ r = 12288 by omega)]
    obtain rfl : r = 12288 := by omega
    clear c
    go_enter Tryz.func100, Tryz.ntmps100
    go_wp2_with fail
    refine (H.out 8192 8202).mono ?_
    rintro e w1 ⟨rfl, rfl⟩
    rw [decide_eq_false (show ¬ (((8192 : Int) ≤ 12288 ∧ (12288 : Int) ≤ 8202)) by omega)]
    go_wp2
    go_ret
    exact ⟨rfl, rfl⟩
  · rw [decide_eq_false (show ¬ (r = 9 ∨ r = 160 ∨ ((8192 : Int) ≤ r ∧ r ≤ 8202) ∨ r = 8239 ∨ r = 8287 ∨ r = 12288) by omega)]
    have b0 : (r == 9) = false := by simp; omega
    have b1 : (r == 160) = false := by simp; omega
    have b3 : (r == 8239) = false := by simp; omega
    have b4 : (r == 8287) = false := by simp; omega
    have b5 : (r == 12288) = false := by simp; omega
    go_enter Tryz.func100, Tryz.ntmps100
    go_wp2_with fail
    refine (H.out 8192 8202).mono ?_
    rintro e w1 ⟨rfl, rfl⟩
    rw [decide_eq_false (show ¬ (((8192 : Int) ≤ r ∧ r ≤ 8202)) by omega)]
    go_wp2
    go_ret
    exact ⟨rfl, rfl⟩

theorem rdash_any (r : Int) (w : World) : Calls Tryz.prog 101 #[.int .i64 r] w fun e w' => e = .returned (.bool (decide (((8208 : Int) ≤ r ∧ r ≤ 8213) ∨ r = 8722))) ∧ w' = w := by
  have H := hid (fun a b => rin_any r a b w)
  rcases (show (((8208 : Int) ≤ r ∧ r ≤ 8213)) ∨ (¬ (((8208 : Int) ≤ r ∧ r ≤ 8213)) ∧ r = 8722) ∨ (¬ (((8208 : Int) ≤ r ∧ r ≤ 8213)) ∧ ¬ (r = 8722)) by omega) with c | c | c
  · rw [decide_eq_true (show ((8208 : Int) ≤ r ∧ r ≤ 8213) ∨ r = 8722 by omega)]
    go_enter Tryz.func101, Tryz.ntmps101
    go_wp2_with fail
    refine (H.out 8208 8213).mono ?_
    rintro e w1 ⟨rfl, rfl⟩
    rw [decide_eq_true (show ((8208 : Int) ≤ r ∧ r ≤ 8213) by omega)]
    go_wp2
    go_ret
    exact ⟨rfl, rfl⟩
  · rw [decide_eq_true (show ((8208 : Int) ≤ r ∧ r ≤ 8213) ∨ r = 8722 by omega)]
    obtain rfl : r = 8722 := by omega
    clear c
    go_enter Tryz.func101, Tryz.ntmps101
    go_wp2_with fail
    refine (H.out 8208 8213).mono ?_
    rintro e w1 ⟨rfl, rfl⟩
    rw [decide_eq_false (show ¬ (((8208 : Int) ≤ 8722 ∧ (8722 : Int) ≤ 8213)) by omega)]
    go_wp2
    go_ret
    exact ⟨rfl, rfl⟩
  · rw [decide_eq_false (show ¬ (((8208 : Int) ≤ r ∧ r ≤ 8213) ∨ r = 8722) by omega)]
    have b1 : (r == 8722) = false := by simp; omega
    go_enter Tryz.func101, Tryz.ntmps101
    go_wp2_with fail
    refine (H.out 8208 8213).mono ?_
    rintro e w1 ⟨rfl, rfl⟩
    rw [decide_eq_false (show ¬ (((8208 : Int) ≤ r ∧ r ≤ 8213)) by omega)]
    go_wp2
    go_ret
    exact ⟨rfl, rfl⟩

theorem rquote_any (r : Int) (w : World) : Calls Tryz.prog 102 #[.int .i64 r] w fun e w' => e = .returned (.bool (decide (r = 8216 ∨ r = 8217 ∨ r = 700))) ∧ w' = w := by
  have H := hid (fun a b => rin_any r a b w)
  rcases (show (r = 8216) ∨ (¬ (r = 8216) ∧ r = 8217) ∨ (¬ (r = 8216) ∧ ¬ (r = 8217) ∧ r = 700) ∨ (¬ (r = 8216) ∧ ¬ (r = 8217) ∧ ¬ (r = 700)) by omega) with c | c | c | c
  · rw [decide_eq_true (show r = 8216 ∨ r = 8217 ∨ r = 700 by omega)]
    obtain rfl : r = 8216 := by omega
    clear c
    go_enter Tryz.func102, Tryz.ntmps102
    go_wp2
    go_ret
    exact ⟨rfl, rfl⟩
  · rw [decide_eq_true (show r = 8216 ∨ r = 8217 ∨ r = 700 by omega)]
    obtain rfl : r = 8217 := by omega
    clear c
    go_enter Tryz.func102, Tryz.ntmps102
    go_wp2
    go_ret
    exact ⟨rfl, rfl⟩
  · rw [decide_eq_true (show r = 8216 ∨ r = 8217 ∨ r = 700 by omega)]
    obtain rfl : r = 700 := by omega
    clear c
    go_enter Tryz.func102, Tryz.ntmps102
    go_wp2
    go_ret
    exact ⟨rfl, rfl⟩
  · rw [decide_eq_false (show ¬ (r = 8216 ∨ r = 8217 ∨ r = 700) by omega)]
    have b0 : (r == 8216) = false := by simp; omega
    have b1 : (r == 8217) = false := by simp; omega
    have b2 : (r == 700) = false := by simp; omega
    go_enter Tryz.func102, Tryz.ntmps102
    go_wp2
    go_ret
    exact ⟨rfl, rfl⟩

def rdig (r : Int) : Int := if 1632 ≤ r ∧ r ≤ 1641 then r - 1632 else if 1776 ≤ r ∧ r ≤ 1785 then r - 1776 else if 2406 ≤ r ∧ r ≤ 2415 then r - 2406 else -1
theorem rdigit_any (r : Int) (h0 : -9223372036854775808 ≤ r) (h1 : r ≤ 9223372036854775807) (w : World) : Calls Tryz.prog 103 #[.int .i64 r] w fun e w' => e = .returned (.int .i64 (rdig r)) ∧ w' = w := by
  have H := hid (fun a b => rin_any r a b w)
  rcases (show ((1632 : Int) ≤ r ∧ r ≤ 1641) ∨ (¬ ((1632 : Int) ≤ r ∧ r ≤ 1641) ∧ (1776 : Int) ≤ r ∧ r ≤ 1785) ∨ (¬ ((1632 : Int) ≤ r ∧ r ≤ 1641) ∧ ¬ ((1776 : Int) ≤ r ∧ r ≤ 1785) ∧ (2406 : Int) ≤ r ∧ r ≤ 2415) ∨ (¬ ((1632 : Int) ≤ r ∧ r ≤ 1641) ∧ ¬ ((1776 : Int) ≤ r ∧ r ≤ 1785) ∧ ¬ ((2406 : Int) ≤ r ∧ r ≤ 2415)) by omega) with c | c | c | c
  · rw [show rdig r = r - 1632 from by unfold rdig; omega]
    go_enter Tryz.func103, Tryz.ntmps103
    go_wp2_with fail
    refine (H.out 1632 1641).mono ?_
    rintro e w1 ⟨rfl, rfl⟩
    rw [decide_eq_true (show (1632 : Int) ≤ r ∧ r ≤ 1641 by omega)]
    go_wp2
    go_ret
    exact ⟨rfl, rfl⟩
  · rw [show rdig r = r - 1776 from by unfold rdig; omega]
    go_enter Tryz.func103, Tryz.ntmps103
    go_wp2_with fail
    refine (H.out 1632 1641).mono ?_
    rintro e w1 ⟨rfl, rfl⟩
    rw [decide_eq_false (show ¬ ((1632 : Int) ≤ r ∧ r ≤ 1641) by omega)]
    go_wp2_with fail
    refine (H.out 1776 1785).mono ?_
    rintro e w1 ⟨rfl, rfl⟩
    rw [decide_eq_true (show (1776 : Int) ≤ r ∧ r ≤ 1785 by omega)]
    go_wp2
    go_ret
    exact ⟨rfl, rfl⟩
  · rw [show rdig r = r - 2406 from by unfold rdig; omega]
    go_enter Tryz.func103, Tryz.ntmps103
    go_wp2_with fail
    refine (H.out 1632 1641).mono ?_
    rintro e w1 ⟨rfl, rfl⟩
    rw [decide_eq_false (show ¬ ((1632 : Int) ≤ r ∧ r ≤ 1641) by omega)]
    go_wp2_with fail
    refine (H.out 1776 1785).mono ?_
    rintro e w1 ⟨rfl, rfl⟩
    rw [decide_eq_false (show ¬ ((1776 : Int) ≤ r ∧ r ≤ 1785) by omega)]
    go_wp2_with fail
    refine (H.out 2406 2415).mono ?_
    rintro e w1 ⟨rfl, rfl⟩
    rw [decide_eq_true (show (2406 : Int) ≤ r ∧ r ≤ 2415 by omega)]
    go_wp2
    go_ret
    exact ⟨rfl, rfl⟩
  · rw [show rdig r = -1 from by unfold rdig; omega]
    go_enter Tryz.func103, Tryz.ntmps103
    go_wp2_with fail
    refine (H.out 1632 1641).mono ?_
    rintro e w1 ⟨rfl, rfl⟩
    rw [decide_eq_false (show ¬ ((1632 : Int) ≤ r ∧ r ≤ 1641) by omega)]
    go_wp2_with fail
    refine (H.out 1776 1785).mono ?_
    rintro e w1 ⟨rfl, rfl⟩
    rw [decide_eq_false (show ¬ ((1776 : Int) ≤ r ∧ r ≤ 1785) by omega)]
    go_wp2_with fail
    refine (H.out 2406 2415).mono ?_
    rintro e w1 ⟨rfl, rfl⟩
    rw [decide_eq_false (show ¬ ((2406 : Int) ≤ r ∧ r ≤ 2415) by omega)]
    go_wp2
    go_ret
    exact ⟨rfl, rfl⟩

theorem rrune_nblank0 (v : Int) (w : World) (h0 : -9223372036854775808 ≤ v) (h1 : v ≤ 9223372036854775807) (c : v = 9 ∨ v = 160 ∨ ((8192 : Int) ≤ v ∧ v ≤ 8202) ∨ v = 8239 ∨ v = 8287 ∨ v = 12288) (hn : ¬ (65281 ≤ v ∧ v ≤ 65374)) :
    Calls Tryz.prog 69 #[.int .i64 v] w fun e w' => e = .returned (.int .i64 (32)) ∧ w' = w := by
  have HI := hid (fun a b w => rin_any v a b w)
  have HB := hid (fun w => rblank_any v w)
  have HD := hid (fun w => rdash_any v w)
  have HQ := hid (fun w => rquote_any v w)
  have HG := hid (fun w => rdigit_any v (by omega) (by omega) w)
  go_enter Tryz.func69, Tryz.ntmps69
  go_wp2_with fail
  refine (HI.out 65281 65374 _).mono ?_
  rintro e w1 ⟨rfl, rfl⟩
  rw [decide_eq_false (show ¬ ((65281 : Int) ≤ v ∧ v ≤ 65374) by omega)]
  go_wp2_with fail
  refine (HB.out _).mono ?_
  rintro e w1 ⟨rfl, rfl⟩
  rw [decide_eq_true (show v = 9 ∨ v = 160 ∨ ((8192 : Int) ≤ v ∧ v ≤ 8202) ∨ v = 8239 ∨ v = 8287 ∨ v = 12288 by omega)]
  go_wp2
  go_ret
  exact ⟨rfl, rfl⟩

theorem rrune_ndash0 (v : Int) (w : World) (h0 : -9223372036854775808 ≤ v) (h1 : v ≤ 9223372036854775807) (c : ((8208 : Int) ≤ v ∧ v ≤ 8213) ∨ v = 8722) (hn : ¬ (65281 ≤ v ∧ v ≤ 65374)) :
    Calls Tryz.prog 69 #[.int .i64 v] w fun e w' => e = .returned (.int .i64 (45)) ∧ w' = w := by
  have HI := hid (fun a b w => rin_any v a b w)
  have HB := hid (fun w => rblank_any v w)
  have HD := hid (fun w => rdash_any v w)
  have HQ := hid (fun w => rquote_any v w)
  have HG := hid (fun w => rdigit_any v (by omega) (by omega) w)
  go_enter Tryz.func69, Tryz.ntmps69
  go_wp2_with fail
  refine (HI.out 65281 65374 _).mono ?_
  rintro e w1 ⟨rfl, rfl⟩
  rw [decide_eq_false (show ¬ ((65281 : Int) ≤ v ∧ v ≤ 65374) by omega)]
  go_wp2_with fail
  refine (HB.out _).mono ?_
  rintro e w1 ⟨rfl, rfl⟩
  rw [decide_eq_false (show ¬ (v = 9 ∨ v = 160 ∨ ((8192 : Int) ≤ v ∧ v ≤ 8202) ∨ v = 8239 ∨ v = 8287 ∨ v = 12288) by omega)]
  go_wp2_with fail
  refine (HD.out _).mono ?_
  rintro e w1 ⟨rfl, rfl⟩
  rw [decide_eq_true (show ((8208 : Int) ≤ v ∧ v ≤ 8213) ∨ v = 8722 by omega)]
  go_wp2
  go_ret
  exact ⟨rfl, rfl⟩

theorem rrune_nquote0 (v : Int) (w : World) (h0 : -9223372036854775808 ≤ v) (h1 : v ≤ 9223372036854775807) (c : v = 8216 ∨ v = 8217 ∨ v = 700) (hn : ¬ (65281 ≤ v ∧ v ≤ 65374)) :
    Calls Tryz.prog 69 #[.int .i64 v] w fun e w' => e = .returned (.int .i64 (39)) ∧ w' = w := by
  have HI := hid (fun a b w => rin_any v a b w)
  have HB := hid (fun w => rblank_any v w)
  have HD := hid (fun w => rdash_any v w)
  have HQ := hid (fun w => rquote_any v w)
  have HG := hid (fun w => rdigit_any v (by omega) (by omega) w)
  go_enter Tryz.func69, Tryz.ntmps69
  go_wp2_with fail
  refine (HI.out 65281 65374 _).mono ?_
  rintro e w1 ⟨rfl, rfl⟩
  rw [decide_eq_false (show ¬ ((65281 : Int) ≤ v ∧ v ≤ 65374) by omega)]
  go_wp2_with fail
  refine (HB.out _).mono ?_
  rintro e w1 ⟨rfl, rfl⟩
  rw [decide_eq_false (show ¬ (v = 9 ∨ v = 160 ∨ ((8192 : Int) ≤ v ∧ v ≤ 8202) ∨ v = 8239 ∨ v = 8287 ∨ v = 12288) by omega)]
  go_wp2_with fail
  refine (HD.out _).mono ?_
  rintro e w1 ⟨rfl, rfl⟩
  rw [decide_eq_false (show ¬ (((8208 : Int) ≤ v ∧ v ≤ 8213) ∨ v = 8722) by omega)]
  go_wp2_with fail
  refine (HQ.out _).mono ?_
  rintro e w1 ⟨rfl, rfl⟩
  rw [decide_eq_true (show v = 8216 ∨ v = 8217 ∨ v = 700 by omega)]
  go_wp2
  go_ret
  exact ⟨rfl, rfl⟩

theorem rrune_ndigit0 (v : Int) (w : World) (h0 : -9223372036854775808 ≤ v) (h1 : v ≤ 9223372036854775807) (c : ((1632 ≤ v ∧ v ≤ 1641) ∨ (1776 ≤ v ∧ v ≤ 1785) ∨ (2406 ≤ v ∧ v ≤ 2415))) (hn : ¬ (65281 ≤ v ∧ v ≤ 65374)) :
    Calls Tryz.prog 69 #[.int .i64 v] w fun e w' => e = .returned (.int .i64 (48 + rdig v)) ∧ w' = w := by
  have HI := hid (fun a b w => rin_any v a b w)
  have HB := hid (fun w => rblank_any v w)
  have HD := hid (fun w => rdash_any v w)
  have HQ := hid (fun w => rquote_any v w)
  have HG := hid (fun w => rdigit_any v (by omega) (by omega) w)
  have hd : 0 ≤ rdig v ∧ rdig v ≤ 9 := by unfold rdig; omega
  generalize rdig v = q at *
  go_enter Tryz.func69, Tryz.ntmps69
  go_wp2_with fail
  refine (HI.out 65281 65374 _).mono ?_
  rintro e w1 ⟨rfl, rfl⟩
  rw [decide_eq_false (show ¬ ((65281 : Int) ≤ v ∧ v ≤ 65374) by omega)]
  go_wp2_with fail
  refine (HB.out _).mono ?_
  rintro e w1 ⟨rfl, rfl⟩
  rw [decide_eq_false (show ¬ (v = 9 ∨ v = 160 ∨ ((8192 : Int) ≤ v ∧ v ≤ 8202) ∨ v = 8239 ∨ v = 8287 ∨ v = 12288) by omega)]
  go_wp2_with fail
  refine (HD.out _).mono ?_
  rintro e w1 ⟨rfl, rfl⟩
  rw [decide_eq_false (show ¬ (((8208 : Int) ≤ v ∧ v ≤ 8213) ∨ v = 8722) by omega)]
  go_wp2_with fail
  refine (HQ.out _).mono ?_
  rintro e w1 ⟨rfl, rfl⟩
  rw [decide_eq_false (show ¬ (v = 8216 ∨ v = 8217 ∨ v = 700) by omega)]
  go_wp2_with fail
  refine (HG.out _).mono ?_
  rintro e w1 ⟨rfl, rfl⟩
  go_wp2_with fail
  refine (HG.out _).mono ?_
  rintro e w1 ⟨rfl, rfl⟩
  go_wp2
  go_ret
  exact ⟨rfl, rfl⟩

theorem rrune_ncap0 (v : Int) (w : World) (h0 : -9223372036854775808 ≤ v) (h1 : v ≤ 9223372036854775807) (c : (65 ≤ v ∧ v ≤ 90)) (hn : ¬ (65281 ≤ v ∧ v ≤ 65374)) :
    Calls Tryz.prog 69 #[.int .i64 v] w fun e w' => e = .returned (.int .i64 (v + 32)) ∧ w' = w := by
  have HI := hid (fun a b w => rin_any v a b w)
  have HB := hid (fun w => rblank_any v w)
  have HD := hid (fun w => rdash_any v w)
  have HQ := hid (fun w => rquote_any v w)
  have HG := hid (fun w => rdigit_any v (by omega) (by omega) w)
  have hd : rdig v = -1 := by unfold rdig; omega
  rw [hd] at HG
  clear hd
  have n1 : (v == 215) = false := by simp; omega
  have n2 : (v == 930) = false := by simp; omega
  have n3 : v ≠ 215 := by omega
  have n4 : v ≠ 930 := by omega
  go_enter Tryz.func69, Tryz.ntmps69
  go_wp2_with fail
  refine (HI.out 65281 65374 _).mono ?_
  rintro e w1 ⟨rfl, rfl⟩
  rw [decide_eq_false (show ¬ ((65281 : Int) ≤ v ∧ v ≤ 65374) by omega)]
  go_wp2_with fail
  refine (HB.out _).mono ?_
  rintro e w1 ⟨rfl, rfl⟩
  rw [decide_eq_false (show ¬ (v = 9 ∨ v = 160 ∨ ((8192 : Int) ≤ v ∧ v ≤ 8202) ∨ v = 8239 ∨ v = 8287 ∨ v = 12288) by omega)]
  go_wp2_with fail
  refine (HD.out _).mono ?_
  rintro e w1 ⟨rfl, rfl⟩
  rw [decide_eq_false (show ¬ (((8208 : Int) ≤ v ∧ v ≤ 8213) ∨ v = 8722) by omega)]
  go_wp2_with fail
  refine (HQ.out _).mono ?_
  rintro e w1 ⟨rfl, rfl⟩
  rw [decide_eq_false (show ¬ (v = 8216 ∨ v = 8217 ∨ v = 700) by omega)]
  go_wp2_with fail
  refine (HG.out _).mono ?_
  rintro e w1 ⟨rfl, rfl⟩
  go_wp2_with fail
  refine (HI.out 65 90 _).mono ?_
  rintro e w1 ⟨rfl, rfl⟩
  rw [decide_eq_true (show ((65 : Int) ≤ v ∧ v ≤ 90) by omega)]
  go_wp2
  go_ret
  exact ⟨rfl, rfl⟩

theorem rrune_ncap1 (v : Int) (w : World) (h0 : -9223372036854775808 ≤ v) (h1 : v ≤ 9223372036854775807) (c : (192 ≤ v ∧ v ≤ 222 ∧ v ≠ 215)) (hn : ¬ (65281 ≤ v ∧ v ≤ 65374)) :
    Calls Tryz.prog 69 #[.int .i64 v] w fun e w' => e = .returned (.int .i64 (v + 32)) ∧ w' = w := by
  have HI := hid (fun a b w => rin_any v a b w)
  have HB := hid (fun w => rblank_any v w)
  have HD := hid (fun w => rdash_any v w)
  have HQ := hid (fun w => rquote_any v w)
  have HG := hid (fun w => rdigit_any v (by omega) (by omega) w)
  have hd : rdig v = -1 := by unfold rdig; omega
  rw [hd] at HG
  clear hd
  have n1 : (v == 215) = false := by simp; omega
  have n2 : (v == 930) = false := by simp; omega
  have n3 : v ≠ 215 := by omega
  have n4 : v ≠ 930 := by omega
  go_enter Tryz.func69, Tryz.ntmps69
  go_wp2_with fail
  refine (HI.out 65281 65374 _).mono ?_
  rintro e w1 ⟨rfl, rfl⟩
  rw [decide_eq_false (show ¬ ((65281 : Int) ≤ v ∧ v ≤ 65374) by omega)]
  go_wp2_with fail
  refine (HB.out _).mono ?_
  rintro e w1 ⟨rfl, rfl⟩
  rw [decide_eq_false (show ¬ (v = 9 ∨ v = 160 ∨ ((8192 : Int) ≤ v ∧ v ≤ 8202) ∨ v = 8239 ∨ v = 8287 ∨ v = 12288) by omega)]
  go_wp2_with fail
  refine (HD.out _).mono ?_
  rintro e w1 ⟨rfl, rfl⟩
  rw [decide_eq_false (show ¬ (((8208 : Int) ≤ v ∧ v ≤ 8213) ∨ v = 8722) by omega)]
  go_wp2_with fail
  refine (HQ.out _).mono ?_
  rintro e w1 ⟨rfl, rfl⟩
  rw [decide_eq_false (show ¬ (v = 8216 ∨ v = 8217 ∨ v = 700) by omega)]
  go_wp2_with fail
  refine (HG.out _).mono ?_
  rintro e w1 ⟨rfl, rfl⟩
  go_wp2_with fail
  refine (HI.out 65 90 _).mono ?_
  rintro e w1 ⟨rfl, rfl⟩
  rw [decide_eq_false (show ¬ ((65 : Int) ≤ v ∧ v ≤ 90) by omega)]
  go_wp2_with fail
  refine (HI.out 192 222 _).mono ?_
  rintro e w1 ⟨rfl, rfl⟩
  rw [decide_eq_true (show ((192 : Int) ≤ v ∧ v ≤ 222) by omega)]
  go_wp2
  go_ret
  exact ⟨rfl, rfl⟩

theorem rrune_ncap2 (v : Int) (w : World) (h0 : -9223372036854775808 ≤ v) (h1 : v ≤ 9223372036854775807) (c : (913 ≤ v ∧ v ≤ 937 ∧ v ≠ 930)) (hn : ¬ (65281 ≤ v ∧ v ≤ 65374)) :
    Calls Tryz.prog 69 #[.int .i64 v] w fun e w' => e = .returned (.int .i64 (v + 32)) ∧ w' = w := by
  have HI := hid (fun a b w => rin_any v a b w)
  have HB := hid (fun w => rblank_any v w)
  have HD := hid (fun w => rdash_any v w)
  have HQ := hid (fun w => rquote_any v w)
  have HG := hid (fun w => rdigit_any v (by omega) (by omega) w)
  have hd : rdig v = -1 := by unfold rdig; omega
  rw [hd] at HG
  clear hd
  have n1 : (v == 215) = false := by simp; omega
  have n2 : (v == 930) = false := by simp; omega
  have n3 : v ≠ 215 := by omega
  have n4 : v ≠ 930 := by omega
  go_enter Tryz.func69, Tryz.ntmps69
  go_wp2_with fail
  refine (HI.out 65281 65374 _).mono ?_
  rintro e w1 ⟨rfl, rfl⟩
  rw [decide_eq_false (show ¬ ((65281 : Int) ≤ v ∧ v ≤ 65374) by omega)]
  go_wp2_with fail
  refine (HB.out _).mono ?_
  rintro e w1 ⟨rfl, rfl⟩
  rw [decide_eq_false (show ¬ (v = 9 ∨ v = 160 ∨ ((8192 : Int) ≤ v ∧ v ≤ 8202) ∨ v = 8239 ∨ v = 8287 ∨ v = 12288) by omega)]
  go_wp2_with fail
  refine (HD.out _).mono ?_
  rintro e w1 ⟨rfl, rfl⟩
  rw [decide_eq_false (show ¬ (((8208 : Int) ≤ v ∧ v ≤ 8213) ∨ v = 8722) by omega)]
  go_wp2_with fail
  refine (HQ.out _).mono ?_
  rintro e w1 ⟨rfl, rfl⟩
  rw [decide_eq_false (show ¬ (v = 8216 ∨ v = 8217 ∨ v = 700) by omega)]
  go_wp2_with fail
  refine (HG.out _).mono ?_
  rintro e w1 ⟨rfl, rfl⟩
  go_wp2_with fail
  refine (HI.out 65 90 _).mono ?_
  rintro e w1 ⟨rfl, rfl⟩
  rw [decide_eq_false (show ¬ ((65 : Int) ≤ v ∧ v ≤ 90) by omega)]
  go_wp2_with fail
  refine (HI.out 192 222 _).mono ?_
  rintro e w1 ⟨rfl, rfl⟩
  rw [decide_eq_false (show ¬ ((192 : Int) ≤ v ∧ v ≤ 222) by omega)]
  go_wp2_with fail
  refine (HI.out 913 937 _).mono ?_
  rintro e w1 ⟨rfl, rfl⟩
  rw [decide_eq_true (show ((913 : Int) ≤ v ∧ v ≤ 937) by omega)]
  go_wp2
  go_ret
  exact ⟨rfl, rfl⟩

theorem rrune_ncap3 (v : Int) (w : World) (h0 : -9223372036854775808 ≤ v) (h1 : v ≤ 9223372036854775807) (c : (1040 ≤ v ∧ v ≤ 1071)) (hn : ¬ (65281 ≤ v ∧ v ≤ 65374)) :
    Calls Tryz.prog 69 #[.int .i64 v] w fun e w' => e = .returned (.int .i64 (v + 32)) ∧ w' = w := by
  have HI := hid (fun a b w => rin_any v a b w)
  have HB := hid (fun w => rblank_any v w)
  have HD := hid (fun w => rdash_any v w)
  have HQ := hid (fun w => rquote_any v w)
  have HG := hid (fun w => rdigit_any v (by omega) (by omega) w)
  have hd : rdig v = -1 := by unfold rdig; omega
  rw [hd] at HG
  clear hd
  have n1 : (v == 215) = false := by simp; omega
  have n2 : (v == 930) = false := by simp; omega
  have n3 : v ≠ 215 := by omega
  have n4 : v ≠ 930 := by omega
  go_enter Tryz.func69, Tryz.ntmps69
  go_wp2_with fail
  refine (HI.out 65281 65374 _).mono ?_
  rintro e w1 ⟨rfl, rfl⟩
  rw [decide_eq_false (show ¬ ((65281 : Int) ≤ v ∧ v ≤ 65374) by omega)]
  go_wp2_with fail
  refine (HB.out _).mono ?_
  rintro e w1 ⟨rfl, rfl⟩
  rw [decide_eq_false (show ¬ (v = 9 ∨ v = 160 ∨ ((8192 : Int) ≤ v ∧ v ≤ 8202) ∨ v = 8239 ∨ v = 8287 ∨ v = 12288) by omega)]
  go_wp2_with fail
  refine (HD.out _).mono ?_
  rintro e w1 ⟨rfl, rfl⟩
  rw [decide_eq_false (show ¬ (((8208 : Int) ≤ v ∧ v ≤ 8213) ∨ v = 8722) by omega)]
  go_wp2_with fail
  refine (HQ.out _).mono ?_
  rintro e w1 ⟨rfl, rfl⟩
  rw [decide_eq_false (show ¬ (v = 8216 ∨ v = 8217 ∨ v = 700) by omega)]
  go_wp2_with fail
  refine (HG.out _).mono ?_
  rintro e w1 ⟨rfl, rfl⟩
  go_wp2_with fail
  refine (HI.out 65 90 _).mono ?_
  rintro e w1 ⟨rfl, rfl⟩
  rw [decide_eq_false (show ¬ ((65 : Int) ≤ v ∧ v ≤ 90) by omega)]
  go_wp2_with fail
  refine (HI.out 192 222 _).mono ?_
  rintro e w1 ⟨rfl, rfl⟩
  rw [decide_eq_false (show ¬ ((192 : Int) ≤ v ∧ v ≤ 222) by omega)]
  go_wp2_with fail
  refine (HI.out 913 937 _).mono ?_
  rintro e w1 ⟨rfl, rfl⟩
  rw [decide_eq_false (show ¬ ((913 : Int) ≤ v ∧ v ≤ 937) by omega)]
  go_wp2_with fail
  refine (HI.out 1040 1071 _).mono ?_
  rintro e w1 ⟨rfl, rfl⟩
  rw [decide_eq_true (show ((1040 : Int) ≤ v ∧ v ≤ 1071) by omega)]
  go_wp2
  go_ret
  exact ⟨rfl, rfl⟩

theorem rrune_neighty0 (v : Int) (w : World) (h0 : -9223372036854775808 ≤ v) (h1 : v ≤ 9223372036854775807) (c : (1024 ≤ v ∧ v ≤ 1039)) (hn : ¬ (65281 ≤ v ∧ v ≤ 65374)) :
    Calls Tryz.prog 69 #[.int .i64 v] w fun e w' => e = .returned (.int .i64 (v + 80)) ∧ w' = w := by
  have HI := hid (fun a b w => rin_any v a b w)
  have HB := hid (fun w => rblank_any v w)
  have HD := hid (fun w => rdash_any v w)
  have HQ := hid (fun w => rquote_any v w)
  have HG := hid (fun w => rdigit_any v (by omega) (by omega) w)
  have hd : rdig v = -1 := by unfold rdig; omega
  rw [hd] at HG
  clear hd
  have n1 : (v == 215) = false := by simp; omega
  have n2 : (v == 930) = false := by simp; omega
  have n3 : v ≠ 215 := by omega
  have n4 : v ≠ 930 := by omega
  go_enter Tryz.func69, Tryz.ntmps69
  go_wp2_with fail
  refine (HI.out 65281 65374 _).mono ?_
  rintro e w1 ⟨rfl, rfl⟩
  rw [decide_eq_false (show ¬ ((65281 : Int) ≤ v ∧ v ≤ 65374) by omega)]
  go_wp2_with fail
  refine (HB.out _).mono ?_
  rintro e w1 ⟨rfl, rfl⟩
  rw [decide_eq_false (show ¬ (v = 9 ∨ v = 160 ∨ ((8192 : Int) ≤ v ∧ v ≤ 8202) ∨ v = 8239 ∨ v = 8287 ∨ v = 12288) by omega)]
  go_wp2_with fail
  refine (HD.out _).mono ?_
  rintro e w1 ⟨rfl, rfl⟩
  rw [decide_eq_false (show ¬ (((8208 : Int) ≤ v ∧ v ≤ 8213) ∨ v = 8722) by omega)]
  go_wp2_with fail
  refine (HQ.out _).mono ?_
  rintro e w1 ⟨rfl, rfl⟩
  rw [decide_eq_false (show ¬ (v = 8216 ∨ v = 8217 ∨ v = 700) by omega)]
  go_wp2_with fail
  refine (HG.out _).mono ?_
  rintro e w1 ⟨rfl, rfl⟩
  go_wp2_with fail
  refine (HI.out 65 90 _).mono ?_
  rintro e w1 ⟨rfl, rfl⟩
  rw [decide_eq_false (show ¬ ((65 : Int) ≤ v ∧ v ≤ 90) by omega)]
  go_wp2_with fail
  refine (HI.out 192 222 _).mono ?_
  rintro e w1 ⟨rfl, rfl⟩
  rw [decide_eq_false (show ¬ ((192 : Int) ≤ v ∧ v ≤ 222) by omega)]
  go_wp2_with fail
  refine (HI.out 913 937 _).mono ?_
  rintro e w1 ⟨rfl, rfl⟩
  rw [decide_eq_false (show ¬ ((913 : Int) ≤ v ∧ v ≤ 937) by omega)]
  go_wp2_with fail
  refine (HI.out 1040 1071 _).mono ?_
  rintro e w1 ⟨rfl, rfl⟩
  rw [decide_eq_false (show ¬ ((1040 : Int) ≤ v ∧ v ≤ 1071) by omega)]
  go_wp2_with fail
  refine (HI.out 1024 1039 _).mono ?_
  rintro e w1 ⟨rfl, rfl⟩
  rw [decide_eq_true (show ((1024 : Int) ≤ v ∧ v ≤ 1039) by omega)]
  go_wp2
  go_ret
  exact ⟨rfl, rfl⟩

theorem rrune_nhole1 (v : Int) (w : World) (h0 : -9223372036854775808 ≤ v) (h1 : v ≤ 9223372036854775807) (c : v = 215) (hn : ¬ (65281 ≤ v ∧ v ≤ 65374)) :
    Calls Tryz.prog 69 #[.int .i64 v] w fun e w' => e = .returned (.int .i64 (v)) ∧ w' = w := by
  have HI := hid (fun a b w => rin_any v a b w)
  have HB := hid (fun w => rblank_any v w)
  have HD := hid (fun w => rdash_any v w)
  have HQ := hid (fun w => rquote_any v w)
  have HG := hid (fun w => rdigit_any v (by omega) (by omega) w)
  have hd : rdig v = -1 := by unfold rdig; omega
  rw [hd] at HG
  clear hd
  obtain rfl : v = 215 := c
  go_enter Tryz.func69, Tryz.ntmps69
  go_wp2_with fail
  refine (HI.out 65281 65374 _).mono ?_
  rintro e w1 ⟨rfl, rfl⟩
  rw [decide_eq_false (show ¬ ((65281 : Int) ≤ (215 : Int) ∧ (215 : Int) ≤ 65374) by omega)]
  go_wp2_with fail
  refine (HB.out _).mono ?_
  rintro e w1 ⟨rfl, rfl⟩
  rw [decide_eq_false (show ¬ ((215 : Int) = 9 ∨ (215 : Int) = 160 ∨ ((8192 : Int) ≤ (215 : Int) ∧ (215 : Int) ≤ 8202) ∨ (215 : Int) = 8239 ∨ (215 : Int) = 8287 ∨ (215 : Int) = 12288) by omega)]
  go_wp2_with fail
  refine (HD.out _).mono ?_
  rintro e w1 ⟨rfl, rfl⟩
  rw [decide_eq_false (show ¬ (((8208 : Int) ≤ (215 : Int) ∧ (215 : Int) ≤ 8213) ∨ (215 : Int) = 8722) by omega)]
  go_wp2_with fail
  refine (HQ.out _).mono ?_
  rintro e w1 ⟨rfl, rfl⟩
  rw [decide_eq_false (show ¬ ((215 : Int) = 8216 ∨ (215 : Int) = 8217 ∨ (215 : Int) = 700) by omega)]
  go_wp2_with fail
  refine (HG.out _).mono ?_
  rintro e w1 ⟨rfl, rfl⟩
  go_wp2_with fail
  refine (HI.out 65 90 _).mono ?_
  rintro e w1 ⟨rfl, rfl⟩
  rw [decide_eq_false (show ¬ ((65 : Int) ≤ (215 : Int) ∧ (215 : Int) ≤ 90) by omega)]
  go_wp2_with fail
  refine (HI.out 192 222 _).mono ?_
  rintro e w1 ⟨rfl, rfl⟩
  rw [decide_eq_true (show ((192 : Int) ≤ (215 : Int) ∧ (215 : Int) ≤ 222) by omega)]
  go_wp2_with fail
  refine (HI.out 913 937 _).mono ?_
  rintro e w1 ⟨rfl, rfl⟩
  rw [decide_eq_false (show ¬ ((913 : Int) ≤ (215 : Int) ∧ (215 : Int) ≤ 937) by omega)]
  go_wp2_with fail
  refine (HI.out 1040 1071 _).mono ?_
  rintro e w1 ⟨rfl, rfl⟩
  rw [decide_eq_false (show ¬ ((1040 : Int) ≤ (215 : Int) ∧ (215 : Int) ≤ 1071) by omega)]
  go_wp2_with fail
  refine (HI.out 1024 1039 _).mono ?_
  rintro e w1 ⟨rfl, rfl⟩
  rw [decide_eq_false (show ¬ ((1024 : Int) ≤ (215 : Int) ∧ (215 : Int) ≤ 1039) by omega)]
  go_wp2
  go_ret
  exact ⟨rfl, rfl⟩

theorem rrune_nhole2 (v : Int) (w : World) (h0 : -9223372036854775808 ≤ v) (h1 : v ≤ 9223372036854775807) (c : v = 930) (hn : ¬ (65281 ≤ v ∧ v ≤ 65374)) :
    Calls Tryz.prog 69 #[.int .i64 v] w fun e w' => e = .returned (.int .i64 (v)) ∧ w' = w := by
  have HI := hid (fun a b w => rin_any v a b w)
  have HB := hid (fun w => rblank_any v w)
  have HD := hid (fun w => rdash_any v w)
  have HQ := hid (fun w => rquote_any v w)
  have HG := hid (fun w => rdigit_any v (by omega) (by omega) w)
  have hd : rdig v = -1 := by unfold rdig; omega
  rw [hd] at HG
  clear hd
  obtain rfl : v = 930 := c
  go_enter Tryz.func69, Tryz.ntmps69
  go_wp2_with fail
  refine (HI.out 65281 65374 _).mono ?_
  rintro e w1 ⟨rfl, rfl⟩
  rw [decide_eq_false (show ¬ ((65281 : Int) ≤ (930 : Int) ∧ (930 : Int) ≤ 65374) by omega)]
  go_wp2_with fail
  refine (HB.out _).mono ?_
  rintro e w1 ⟨rfl, rfl⟩
  rw [decide_eq_false (show ¬ ((930 : Int) = 9 ∨ (930 : Int) = 160 ∨ ((8192 : Int) ≤ (930 : Int) ∧ (930 : Int) ≤ 8202) ∨ (930 : Int) = 8239 ∨ (930 : Int) = 8287 ∨ (930 : Int) = 12288) by omega)]
  go_wp2_with fail
  refine (HD.out _).mono ?_
  rintro e w1 ⟨rfl, rfl⟩
  rw [decide_eq_false (show ¬ (((8208 : Int) ≤ (930 : Int) ∧ (930 : Int) ≤ 8213) ∨ (930 : Int) = 8722) by omega)]
  go_wp2_with fail
  refine (HQ.out _).mono ?_
  rintro e w1 ⟨rfl, rfl⟩
  rw [decide_eq_false (show ¬ ((930 : Int) = 8216 ∨ (930 : Int) = 8217 ∨ (930 : Int) = 700) by omega)]
  go_wp2_with fail
  refine (HG.out _).mono ?_
  rintro e w1 ⟨rfl, rfl⟩
  go_wp2_with fail
  refine (HI.out 65 90 _).mono ?_
  rintro e w1 ⟨rfl, rfl⟩
  rw [decide_eq_false (show ¬ ((65 : Int) ≤ (930 : Int) ∧ (930 : Int) ≤ 90) by omega)]
  go_wp2_with fail
  refine (HI.out 192 222 _).mono ?_
  rintro e w1 ⟨rfl, rfl⟩
  rw [decide_eq_false (show ¬ ((192 : Int) ≤ (930 : Int) ∧ (930 : Int) ≤ 222) by omega)]
  go_wp2_with fail
  refine (HI.out 913 937 _).mono ?_
  rintro e w1 ⟨rfl, rfl⟩
  rw [decide_eq_true (show ((913 : Int) ≤ (930 : Int) ∧ (930 : Int) ≤ 937) by omega)]
  go_wp2_with fail
  refine (HI.out 1040 1071 _).mono ?_
  rintro e w1 ⟨rfl, rfl⟩
  rw [decide_eq_false (show ¬ ((1040 : Int) ≤ (930 : Int) ∧ (930 : Int) ≤ 1071) by omega)]
  go_wp2_with fail
  refine (HI.out 1024 1039 _).mono ?_
  rintro e w1 ⟨rfl, rfl⟩
  rw [decide_eq_false (show ¬ ((1024 : Int) ≤ (930 : Int) ∧ (930 : Int) ≤ 1039) by omega)]
  go_wp2
  go_ret
  exact ⟨rfl, rfl⟩

theorem rrune_nnone0 (v : Int) (w : World) (h0 : -9223372036854775808 ≤ v) (h1 : v ≤ 9223372036854775807) (c : (¬ (v = 9 ∨ v = 160 ∨ ((8192 : Int) ≤ v ∧ v ≤ 8202) ∨ v = 8239 ∨ v = 8287 ∨ v = 12288) ∧ ¬ (((8208 : Int) ≤ v ∧ v ≤ 8213) ∨ v = 8722) ∧ ¬ (v = 8216 ∨ v = 8217 ∨ v = 700) ∧ ¬ (((1632 ≤ v ∧ v ≤ 1641) ∨ (1776 ≤ v ∧ v ≤ 1785) ∨ (2406 ≤ v ∧ v ≤ 2415))) ∧ ¬ ((65 ≤ v ∧ v ≤ 90)) ∧ ¬ ((192 ≤ v ∧ v ≤ 222 ∧ v ≠ 215)) ∧ ¬ ((913 ≤ v ∧ v ≤ 937 ∧ v ≠ 930)) ∧ ¬ ((1040 ≤ v ∧ v ≤ 1071)) ∧ ¬ ((1024 ≤ v ∧ v ≤ 1039)) ∧ ¬ (v = 215) ∧ ¬ (v = 930))) (hn : ¬ (65281 ≤ v ∧ v ≤ 65374)) :
    Calls Tryz.prog 69 #[.int .i64 v] w fun e w' => e = .returned (.int .i64 (v)) ∧ w' = w := by
  have HI := hid (fun a b w => rin_any v a b w)
  have HB := hid (fun w => rblank_any v w)
  have HD := hid (fun w => rdash_any v w)
  have HQ := hid (fun w => rquote_any v w)
  have HG := hid (fun w => rdigit_any v (by omega) (by omega) w)
  have hd : rdig v = -1 := by unfold rdig; omega
  rw [hd] at HG
  clear hd
  have n1 : (v == 215) = false := by simp; omega
  have n2 : (v == 930) = false := by simp; omega
  have n3 : v ≠ 215 := by omega
  have n4 : v ≠ 930 := by omega
  go_enter Tryz.func69, Tryz.ntmps69
  go_wp2_with fail
  refine (HI.out 65281 65374 _).mono ?_
  rintro e w1 ⟨rfl, rfl⟩
  rw [decide_eq_false (show ¬ ((65281 : Int) ≤ v ∧ v ≤ 65374) by omega)]
  go_wp2_with fail
  refine (HB.out _).mono ?_
  rintro e w1 ⟨rfl, rfl⟩
  rw [decide_eq_false (show ¬ (v = 9 ∨ v = 160 ∨ ((8192 : Int) ≤ v ∧ v ≤ 8202) ∨ v = 8239 ∨ v = 8287 ∨ v = 12288) by omega)]
  go_wp2_with fail
  refine (HD.out _).mono ?_
  rintro e w1 ⟨rfl, rfl⟩
  rw [decide_eq_false (show ¬ (((8208 : Int) ≤ v ∧ v ≤ 8213) ∨ v = 8722) by omega)]
  go_wp2_with fail
  refine (HQ.out _).mono ?_
  rintro e w1 ⟨rfl, rfl⟩
  rw [decide_eq_false (show ¬ (v = 8216 ∨ v = 8217 ∨ v = 700) by omega)]
  go_wp2_with fail
  refine (HG.out _).mono ?_
  rintro e w1 ⟨rfl, rfl⟩
  go_wp2_with fail
  refine (HI.out 65 90 _).mono ?_
  rintro e w1 ⟨rfl, rfl⟩
  rw [decide_eq_false (show ¬ ((65 : Int) ≤ v ∧ v ≤ 90) by omega)]
  go_wp2_with fail
  refine (HI.out 192 222 _).mono ?_
  rintro e w1 ⟨rfl, rfl⟩
  rw [decide_eq_false (show ¬ ((192 : Int) ≤ v ∧ v ≤ 222) by omega)]
  go_wp2_with fail
  refine (HI.out 913 937 _).mono ?_
  rintro e w1 ⟨rfl, rfl⟩
  rw [decide_eq_false (show ¬ ((913 : Int) ≤ v ∧ v ≤ 937) by omega)]
  go_wp2_with fail
  refine (HI.out 1040 1071 _).mono ?_
  rintro e w1 ⟨rfl, rfl⟩
  rw [decide_eq_false (show ¬ ((1040 : Int) ≤ v ∧ v ≤ 1071) by omega)]
  go_wp2_with fail
  refine (HI.out 1024 1039 _).mono ?_
  rintro e w1 ⟨rfl, rfl⟩
  rw [decide_eq_false (show ¬ ((1024 : Int) ≤ v ∧ v ≤ 1039) by omega)]
  go_wp2
  go_ret
  exact ⟨rfl, rfl⟩

theorem rrune_wcap0 (v : Int) (w : World) (h0 : -9223372036854775808 ≤ v) (h1 : v ≤ 9223372036854775807) (c : (65 ≤ v ∧ v ≤ 90)) (_hw : 33 ≤ v ∧ v ≤ 126) :
    Calls Tryz.prog 69 #[.int .i64 (v + 65248)] w fun e w' => e = .returned (.int .i64 (v + 32)) ∧ w' = w := by
  have HI := hid (fun a b w => rin_any v a b w)
  have HB := hid (fun w => rblank_any v w)
  have HD := hid (fun w => rdash_any v w)
  have HQ := hid (fun w => rquote_any v w)
  have HG := hid (fun w => rdigit_any v (by omega) (by omega) w)
  have hd : rdig v = -1 := by unfold rdig; omega
  rw [hd] at HG
  clear hd
  have n1 : (v == 215) = false := by simp; omega
  have n2 : (v == 930) = false := by simp; omega
  have n3 : v ≠ 215 := by omega
  have n4 : v ≠ 930 := by omega
  have HJ := hid (fun w => rin_any (v + 65248) 65281 65374 w)
  go_enter Tryz.func69, Tryz.ntmps69
  go_wp2_with fail
  refine (HJ.out _).mono ?_
  rintro e w1 ⟨rfl, rfl⟩
  rw [decide_eq_true (show ((65281 : Int) ≤ v + 65248 ∧ v + 65248 ≤ 65374) by omega)]
  go_wp2_with fail
  refine (HB.out _).mono ?_
  rintro e w1 ⟨rfl, rfl⟩
  rw [decide_eq_false (show ¬ (v = 9 ∨ v = 160 ∨ ((8192 : Int) ≤ v ∧ v ≤ 8202) ∨ v = 8239 ∨ v = 8287 ∨ v = 12288) by omega)]
  go_wp2_with fail
  refine (HD.out _).mono ?_
  rintro e w1 ⟨rfl, rfl⟩
  rw [decide_eq_false (show ¬ (((8208 : Int) ≤ v ∧ v ≤ 8213) ∨ v = 8722) by omega)]
  go_wp2_with fail
  refine (HQ.out _).mono ?_
  rintro e w1 ⟨rfl, rfl⟩
  rw [decide_eq_false (show ¬ (v = 8216 ∨ v = 8217 ∨ v = 700) by omega)]
  go_wp2_with fail
  refine (HG.out _).mono ?_
  rintro e w1 ⟨rfl, rfl⟩
  go_wp2_with fail
  refine (HI.out 65 90 _).mono ?_
  rintro e w1 ⟨rfl, rfl⟩
  rw [decide_eq_true (show ((65 : Int) ≤ v ∧ v ≤ 90) by omega)]
  go_wp2
  go_ret
  exact ⟨rfl, rfl⟩

theorem rrune_wnone0 (v : Int) (w : World) (h0 : -9223372036854775808 ≤ v) (h1 : v ≤ 9223372036854775807) (c : (¬ (v = 9 ∨ v = 160 ∨ ((8192 : Int) ≤ v ∧ v ≤ 8202) ∨ v = 8239 ∨ v = 8287 ∨ v = 12288) ∧ ¬ (((8208 : Int) ≤ v ∧ v ≤ 8213) ∨ v = 8722) ∧ ¬ (v = 8216 ∨ v = 8217 ∨ v = 700) ∧ ¬ (((1632 ≤ v ∧ v ≤ 1641) ∨ (1776 ≤ v ∧ v ≤ 1785) ∨ (2406 ≤ v ∧ v ≤ 2415))) ∧ ¬ ((65 ≤ v ∧ v ≤ 90)) ∧ ¬ ((192 ≤ v ∧ v ≤ 222 ∧ v ≠ 215)) ∧ ¬ ((913 ≤ v ∧ v ≤ 937 ∧ v ≠ 930)) ∧ ¬ ((1040 ≤ v ∧ v ≤ 1071)) ∧ ¬ ((1024 ≤ v ∧ v ≤ 1039)) ∧ ¬ (v = 215) ∧ ¬ (v = 930))) (hw : 33 ≤ v ∧ v ≤ 126) :
    Calls Tryz.prog 69 #[.int .i64 (v + 65248)] w fun e w' => e = .returned (.int .i64 (v)) ∧ w' = w := by
  have HI := hid (fun a b w => rin_any v a b w)
  have HB := hid (fun w => rblank_any v w)
  have HD := hid (fun w => rdash_any v w)
  have HQ := hid (fun w => rquote_any v w)
  have HG := hid (fun w => rdigit_any v (by omega) (by omega) w)
  have hd : rdig v = -1 := by unfold rdig; omega
  rw [hd] at HG
  clear hd
  have n1 : (v == 215) = false := by simp; omega
  have n2 : (v == 930) = false := by simp; omega
  have n3 : v ≠ 215 := by omega
  have n4 : v ≠ 930 := by omega
  have HJ := hid (fun w => rin_any (v + 65248) 65281 65374 w)
  go_enter Tryz.func69, Tryz.ntmps69
  go_wp2_with fail
  refine (HJ.out _).mono ?_
  rintro e w1 ⟨rfl, rfl⟩
  rw [decide_eq_true (show ((65281 : Int) ≤ v + 65248 ∧ v + 65248 ≤ 65374) by omega)]
  go_wp2_with fail
  refine (HB.out _).mono ?_
  rintro e w1 ⟨rfl, rfl⟩
  rw [decide_eq_false (show ¬ (v = 9 ∨ v = 160 ∨ ((8192 : Int) ≤ v ∧ v ≤ 8202) ∨ v = 8239 ∨ v = 8287 ∨ v = 12288) by omega)]
  go_wp2_with fail
  refine (HD.out _).mono ?_
  rintro e w1 ⟨rfl, rfl⟩
  rw [decide_eq_false (show ¬ (((8208 : Int) ≤ v ∧ v ≤ 8213) ∨ v = 8722) by omega)]
  go_wp2_with fail
  refine (HQ.out _).mono ?_
  rintro e w1 ⟨rfl, rfl⟩
  rw [decide_eq_false (show ¬ (v = 8216 ∨ v = 8217 ∨ v = 700) by omega)]
  go_wp2_with fail
  refine (HG.out _).mono ?_
  rintro e w1 ⟨rfl, rfl⟩
  go_wp2_with fail
  refine (HI.out 65 90 _).mono ?_
  rintro e w1 ⟨rfl, rfl⟩
  rw [decide_eq_false (show ¬ ((65 : Int) ≤ v ∧ v ≤ 90) by omega)]
  go_wp2_with fail
  refine (HI.out 192 222 _).mono ?_
  rintro e w1 ⟨rfl, rfl⟩
  rw [decide_eq_false (show ¬ ((192 : Int) ≤ v ∧ v ≤ 222) by omega)]
  go_wp2_with fail
  refine (HI.out 913 937 _).mono ?_
  rintro e w1 ⟨rfl, rfl⟩
  rw [decide_eq_false (show ¬ ((913 : Int) ≤ v ∧ v ≤ 937) by omega)]
  go_wp2_with fail
  refine (HI.out 1040 1071 _).mono ?_
  rintro e w1 ⟨rfl, rfl⟩
  rw [decide_eq_false (show ¬ ((1040 : Int) ≤ v ∧ v ≤ 1071) by omega)]
  go_wp2_with fail
  refine (HI.out 1024 1039 _).mono ?_
  rintro e w1 ⟨rfl, rfl⟩
  rw [decide_eq_false (show ¬ ((1024 : Int) ≤ v ∧ v ≤ 1039) by omega)]
  go_wp2
  go_ret
  exact ⟨rfl, rfl⟩

theorem rrune_any (r : Int) (h0 : -9223372036854775808 ≤ r) (h1 : r ≤ 9223372036854775807) (w : World) : Calls Tryz.prog 69 #[.int .i64 r] w fun e w' => e = .returned (.int .i64 (runeZ r)) ∧ w' = w := by
  by_cases hw : 65281 ≤ r ∧ r ≤ 65374
  · obtain ⟨v, rfl⟩ : ∃ v, r = v + 65248 := ⟨r - 65248, by omega⟩
    have hn : narrowZ (v + 65248) = v := by unfold narrowZ; omega
    have hb : blankZ v = v := by unfold blankZ; omega
    have hd : dashZ v = v := by unfold dashZ; omega
    have hq : quoteZ' v = v := by unfold quoteZ'; omega
    have hg : digitZ v = v := by unfold digitZ; omega
    rw [show runeZ (v + 65248) = smallZ v by unfold runeZ; rw [hn, hb, hd, hq, hg]]
    by_cases hc : 65 ≤ v ∧ v ≤ 90
    · rw [show smallZ v = v + 32 by unfold smallZ; omega]
      exact rrune_wcap0 v w (by omega) (by omega) hc (by omega)
    · rw [show smallZ v = v by unfold smallZ; omega]
      exact rrune_wnone0 v w (by omega) (by omega) (by omega) (by omega)
  · have hn : narrowZ r = r := by unfold narrowZ; omega
    have key : ∀ x y, blankZ r = x → dashZ x = x → quoteZ' x = x → digitZ x = x → smallZ x = y → runeZ r = y := by
      intro x y h1 h2 h3 h4 h5
      unfold runeZ
      rw [hn, h1, h2, h3, h4, h5]
    have key2 : ∀ x y z u, blankZ r = r → dashZ r = x → quoteZ' x = y → digitZ y = z → smallZ z = u → runeZ r = u := by
      intro x y z u h1 h2 h3 h4 h5
      unfold runeZ
      rw [hn, h1, h2, h3, h4, h5]
    by_cases cblank0 : r = 9 ∨ r = 160 ∨ ((8192 : Int) ≤ r ∧ r ≤ 8202) ∨ r = 8239 ∨ r = 8287 ∨ r = 12288
    · rw [key 32 32 (by unfold blankZ; omega) (by decide) (by decide) (by decide) (by decide)]
      exact rrune_nblank0 r w h0 h1 cblank0 hw
    by_cases cdash0 : ((8208 : Int) ≤ r ∧ r ≤ 8213) ∨ r = 8722
    · rw [key2 (45) (45) (45) (45) (by unfold blankZ; omega) (by unfold dashZ; omega) (by unfold quoteZ'; omega) (by unfold digitZ; omega) (by unfold smallZ; omega)]
      exact rrune_ndash0 r w h0 h1 cdash0 hw
    by_cases cquote0 : r = 8216 ∨ r = 8217 ∨ r = 700
    · rw [key2 (r) (39) (39) (39) (by unfold blankZ; omega) (by unfold dashZ; omega) (by unfold quoteZ'; omega) (by unfold digitZ; omega) (by unfold smallZ; omega)]
      exact rrune_nquote0 r w h0 h1 cquote0 hw
    by_cases cdigit0 : ((1632 ≤ r ∧ r ≤ 1641) ∨ (1776 ≤ r ∧ r ≤ 1785) ∨ (2406 ≤ r ∧ r ≤ 2415))
    · rw [key2 (r) (r) (48 + rdig r) (48 + rdig r) (by unfold blankZ; omega) (by unfold dashZ; omega) (by unfold quoteZ'; omega) (by unfold rdig; unfold digitZ; omega) (by unfold rdig; unfold smallZ; omega)]
      exact rrune_ndigit0 r w h0 h1 cdigit0 hw
    by_cases ccap0 : (65 ≤ r ∧ r ≤ 90)
    · rw [key2 (r) (r) (r) (r + 32) (by unfold blankZ; omega) (by unfold dashZ; omega) (by unfold quoteZ'; omega) (by unfold digitZ; omega) (by unfold smallZ; omega)]
      exact rrune_ncap0 r w h0 h1 ccap0 hw
    by_cases ccap1 : (192 ≤ r ∧ r ≤ 222 ∧ r ≠ 215)
    · rw [key2 (r) (r) (r) (r + 32) (by unfold blankZ; omega) (by unfold dashZ; omega) (by unfold quoteZ'; omega) (by unfold digitZ; omega) (by unfold smallZ; omega)]
      exact rrune_ncap1 r w h0 h1 ccap1 hw
    by_cases ccap2 : (913 ≤ r ∧ r ≤ 937 ∧ r ≠ 930)
    · rw [key2 (r) (r) (r) (r + 32) (by unfold blankZ; omega) (by unfold dashZ; omega) (by unfold quoteZ'; omega) (by unfold digitZ; omega) (by unfold smallZ; omega)]
      exact rrune_ncap2 r w h0 h1 ccap2 hw
    by_cases ccap3 : (1040 ≤ r ∧ r ≤ 1071)
    · rw [key2 (r) (r) (r) (r + 32) (by unfold blankZ; omega) (by unfold dashZ; omega) (by unfold quoteZ'; omega) (by unfold digitZ; omega) (by unfold smallZ; omega)]
      exact rrune_ncap3 r w h0 h1 ccap3 hw
    by_cases ceighty0 : (1024 ≤ r ∧ r ≤ 1039)
    · rw [key2 (r) (r) (r) (r + 80) (by unfold blankZ; omega) (by unfold dashZ; omega) (by unfold quoteZ'; omega) (by unfold digitZ; omega) (by unfold smallZ; omega)]
      exact rrune_neighty0 r w h0 h1 ceighty0 hw
    by_cases chole1 : r = 215
    · rw [key2 (r) (r) (r) (r) (by unfold blankZ; omega) (by unfold dashZ; omega) (by unfold quoteZ'; omega) (by unfold digitZ; omega) (by unfold smallZ; omega)]
      exact rrune_nhole1 r w h0 h1 chole1 hw
    by_cases chole2 : r = 930
    · rw [key2 (r) (r) (r) (r) (by unfold blankZ; omega) (by unfold dashZ; omega) (by unfold quoteZ'; omega) (by unfold digitZ; omega) (by unfold smallZ; omega)]
      exact rrune_nhole2 r w h0 h1 chole2 hw
    rw [key2 (r) (r) (r) (r) (by unfold blankZ; omega) (by unfold dashZ; omega) (by unfold quoteZ'; omega) (by unfold digitZ; omega) (by unfold smallZ; omega)]
    exact rrune_nnone0 r w h0 h1 ⟨cblank0, cdash0, cquote0, cdigit0, ccap0, ccap1, ccap2, ccap3, ceighty0, chole1, chole2⟩ hw

end Go.Proofs.YtannndpamhgknaaGreatDoor.Fo
