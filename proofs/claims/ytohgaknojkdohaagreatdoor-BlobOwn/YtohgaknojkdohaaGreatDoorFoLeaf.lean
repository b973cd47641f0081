/- What the small functions of package fold answer, for every sign: each of the six steps, and all of them one behind the other (Rune); the table of noughts is as the program's text lays it. -/
import Derived.Test.YtohgaknojkdohaaGreatDoorProg
import Derived.Test.YtohgaknojkdohaaGreatDoorFoMath
import Derived.WalkKit
import Derived.WalkSpells
import Derived.WalkSmall
import Derived.WalkMore
import Derived.Deep.QuietTactic
import Derived.BigQuiet
namespace Go.Proofs.YtohgaknojkdohaaGreatDoor.Fo
open Go.RowKit

theorem hid {p : Prop} (h : p) : Hid p := h
theorem ret_int {k : IntKind} {a b : Int} (h : a = b) : Ending.returned (.int k a) = .returned (.int k b) := by rw [h]
theorem ret_bool {a b : Bool} (h : a = b) : Ending.returned (.bool a) = .returned (.bool b) := by rw [h]
theorem up_trans {w w1 w2 : World} (h : Below w.heap.size w w1) (k : Below w1.heap.size w1 w2) : Below w.heap.size w w2 := h.trans (k.mono h.size)
theorem up_alloc (w : World) (o : Obj) : Below w.heap.size w (w.alloc o) := (Below.refl _ _).alloc (Nat.le_refl _) o

/-- The table of noughts as it was laid. -/
def Tab (w : World) : Prop := w.cell? ⟨1, 0, none⟩ = some (.int .i64 48) ∧ w.cell? ⟨1, 1, none⟩ = some (.int .i64 1632) ∧ w.cell? ⟨1, 2, none⟩ = some (.int .i64 1776) ∧ w.cell? ⟨1, 3, none⟩ = some (.int .i64 2406)

theorem lt_of_cell {w : World} {a : Addr} {v : Value} (h : w.cell? a = some v) : a.block < w.heap.size := by
  by_cases hb : a.block < w.heap.size
  · exact hb
  · simp [World.cell?, Array.getElem?_eq_none (by omega : w.heap.size ≤ a.block)] at h

theorem Tab.on {w w' : World} (h : Tab w) (hb : Below w.heap.size w w') : Tab w' := by
  have h0 : 1 < w.heap.size := lt_of_cell h.1
  exact ⟨(hb.cell h0).trans h.1, (hb.cell h0).trans h.2.1, (hb.cell h0).trans h.2.2.1, (hb.cell h0).trans h.2.2.2⟩

theorem within_any (r a b : Int) (w : World) : Calls Tryz.prog 188 #[.int .i64 r, .int .i64 a, .int .i64 b] w fun e w' => e = .returned (.bool (decide (a ≤ r ∧ r ≤ b))) ∧ w' = w := by
  by_cases h1 : a ≤ r
  · by_cases h2 : r ≤ b
    · rw [decide_eq_true (And.intro h1 h2)]
      go_enter Tryz.func188, Tryz.ntmps188
      go_wp2
      go_ret
      exact ⟨rfl, rfl⟩
    · rw [decide_eq_false (fun h => h2 h.2)]
      go_enter Tryz.func188, Tryz.ntmps188
      go_wp2
      go_ret
      exact ⟨rfl, rfl⟩
  · rw [decide_eq_false (fun h => h1 h.1)]
    go_enter Tryz.func188, Tryz.ntmps188
    go_wp2
    go_ret
    exact ⟨rfl, rfl⟩

/-! the steps -/

theorem narrow_any (r : Int) (h0 : -9223372036854775808 ≤ r) (h1 : r ≤ 9223372036854775807) (w : World) : Calls Tryz.prog 170 #[.int .i64 r] w fun e w' => e = .returned (.int .i64 (narrowZ r)) ∧ w' = w := by
  have H := hid (fun a b => within_any r a b w)
  by_cases h : 65281 ≤ r ∧ r ≤ 65374
  · rw [show narrowZ r = r - 65248 from if_pos h]
    go_enter Tryz.func170, Tryz.ntmps170
    go_wp2_with fail
    refine (H.out 65281 65374).mono ?_
    rintro e w1 ⟨rfl, rfl⟩
    rw [decide_eq_true (show (65281 : Int) ≤ r ∧ r ≤ 65374 by omega)]
    go_wp2
    go_ret
    exact ⟨rfl, rfl⟩
  · rw [show narrowZ r = r from if_neg h]
    go_enter Tryz.func170, Tryz.ntmps170
    go_wp2_with fail
    refine (H.out 65281 65374).mono ?_
    rintro e w1 ⟨rfl, rfl⟩
    rw [decide_eq_false (show ¬ ((65281 : Int) ≤ r ∧ r ≤ 65374) by omega)]
    go_wp2
    go_ret
    exact ⟨rfl, rfl⟩

theorem blank_any (r : Int) (h0 : -9223372036854775808 ≤ r) (h1 : r ≤ 9223372036854775807) (w : World) : Calls Tryz.prog 171 #[.int .i64 r] w fun e w' => e = .returned (.int .i64 (blankZ r)) ∧ w' = w := by
  have H := hid (fun a b => within_any r a b w)
  rcases (show (r = 9) ∨ (¬ (r = 9) ∧ r = 160) ∨ (¬ (r = 9) ∧ ¬ (r = 160) ∧ ((8192 : Int) ≤ r ∧ r ≤ 8202)) ∨ (¬ (r = 9) ∧ ¬ (r = 160) ∧ ¬ ((8192 : Int) ≤ r ∧ r ≤ 8202) ∧ r = 8239) ∨ (¬ (r = 9) ∧ ¬ (r = 160) ∧ ¬ ((8192 : Int) ≤ r ∧ r ≤ 8202) ∧ ¬ (r = 8239) ∧ r = 8287) ∨ (¬ (r = 9) ∧ ¬ (r = 160) ∧ ¬ ((8192 : Int) ≤ r ∧ r ≤ 8202) ∧ ¬ (r = 8239) ∧ ¬ (r = 8287) ∧ r = 12288) ∨ (¬ (r = 9) ∧ ¬ (r = 160) ∧ ¬ ((8192 : Int) ≤ r ∧ r ≤ 8202) ∧ ¬ (r = 8239) ∧ ¬ (r = 8287) ∧ ¬ (r = 12288)) by omega) with c | c | c | c | c | c | c
  · rw [show blankZ r = 32 from by unfold blankZ; rw [if_pos (by omega)]]
    obtain rfl : r = 9 := by omega
    clear c
    go_enter Tryz.func171, Tryz.ntmps171
    go_wp2
    go_ret
    exact ⟨rfl, rfl⟩
  · rw [show blankZ r = 32 from by unfold blankZ; rw [if_pos (by omega)]]
    obtain rfl : r = 160 := by omega
    clear c
    go_enter Tryz.func171, Tryz.ntmps171
    go_wp2
    go_ret
    exact ⟨rfl, rfl⟩
  · rw [show blankZ r = 32 from by unfold blankZ; rw [if_pos (by omega)]]
    have b0 : (r == 9) = false := by simp; omega
    have b1 : (r == 160) = false := by simp; omega
    go_enter Tryz.func171, Tryz.ntmps171
    go_wp2_with fail
    refine (H.out 8192 8202).mono ?_
    rintro e w1 ⟨rfl, rfl⟩
    rw [decide_eq_true (show (8192 : Int) ≤ r ∧ r ≤ 8202 by omega)]
    go_wp2
    go_ret
    exact ⟨rfl, rfl⟩
  · rw [show blankZ r = 32 from by unfold blankZ; rw [if_pos (by omega)]]
    obtain rfl : r = 8239 := by omega
    clear c
    go_enter Tryz.func171, Tryz.ntmps171
    go_wp2_with fail
    refine (H.out 8192 8202).mono ?_
    rintro e w1 ⟨rfl, rfl⟩
    rw [decide_eq_false (show ¬ ((8192 : Int) ≤ 8239 ∧ (8239 : Int) ≤ 8202) by omega)]
    go_wp2
    go_ret
    exact ⟨rfl, rfl⟩
  · rw [show blankZ r = 32 from by unfold blankZ; rw [if_pos (by omega)]]
    obtain rfl : r = 8287 := by omega
    clear c
    go_enter Tryz.func171, Tryz.ntmps171
    go_wp2_with fail
    refine (H.out 8192 8202).mono ?_
    rintro e w1 ⟨rfl, rfl⟩
    rw [decide_eq_false (show ¬ ((8192 : Int) ≤ 8287 ∧ (8287 : Int) ≤ 8202) by omega)]
    go_wp2
    go_ret
    exact ⟨rfl, rfl⟩
  · rw [show blankZ r = 32 from by unfold blankZ; rw [if_pos (by omega)]]
    obtain rfl : r = 12288 := by omega
    clear c
    go_enter Tryz.func171, Tryz.ntmps171
    go_wp2_with fail
    refine (H.out 8192 8202).mono ?_
    rintro e w1 ⟨rfl, rfl⟩
    rw [decide_eq_false (show ¬ ((8192 : Int) ≤ 12288 ∧ (12288 : Int) ≤ 8202) by omega)]
    go_wp2
    go_ret
    exact ⟨rfl, rfl⟩
  · rw [show blankZ r = r from by unfold blankZ; rw [if_neg (by omega)]]
    have b0 : (r == 9) = false := by simp; omega
    have b1 : (r == 160) = false := by simp; omega
    have b3 : (r == 8239) = false := by simp; omega
    have b4 : (r == 8287) = false := by simp; omega
    have b5 : (r == 12288) = false := by simp; omega
    go_enter Tryz.func171, Tryz.ntmps171
    go_wp2_with fail
    refine (H.out 8192 8202).mono ?_
    rintro e w1 ⟨rfl, rfl⟩
    rw [decide_eq_false (show ¬ ((8192 : Int) ≤ r ∧ r ≤ 8202) by omega)]
    go_wp2
    go_ret
    exact ⟨rfl, rfl⟩

theorem dash_any (r : Int) (h0 : -9223372036854775808 ≤ r) (h1 : r ≤ 9223372036854775807) (w : World) : Calls Tryz.prog 172 #[.int .i64 r] w fun e w' => e = .returned (.int .i64 (dashZ r)) ∧ w' = w := by
  have H := hid (fun a b => within_any r a b w)
  rcases (show (((8208 : Int) ≤ r ∧ r ≤ 8213)) ∨ (¬ ((8208 : Int) ≤ r ∧ r ≤ 8213) ∧ r = 8722) ∨ (¬ ((8208 : Int) ≤ r ∧ r ≤ 8213) ∧ ¬ (r = 8722)) by omega) with c | c | c
  · rw [show dashZ r = 45 from by unfold dashZ; rw [if_pos (by omega)]]
    go_enter Tryz.func172, Tryz.ntmps172
    go_wp2_with fail
    refine (H.out 8208 8213).mono ?_
    rintro e w1 ⟨rfl, rfl⟩
    rw [decide_eq_true (show (8208 : Int) ≤ r ∧ r ≤ 8213 by omega)]
    go_wp2
    go_ret
    exact ⟨rfl, rfl⟩
  · rw [show dashZ r = 45 from by unfold dashZ; rw [if_pos (by omega)]]
    obtain rfl : r = 8722 := by omega
    clear c
    go_enter Tryz.func172, Tryz.ntmps172
    go_wp2_with fail
    refine (H.out 8208 8213).mono ?_
    rintro e w1 ⟨rfl, rfl⟩
    rw [decide_eq_false (show ¬ ((8208 : Int) ≤ 8722 ∧ (8722 : Int) ≤ 8213) by omega)]
    go_wp2
    go_ret
    exact ⟨rfl, rfl⟩
  · rw [show dashZ r = r from by unfold dashZ; rw [if_neg (by omega)]]
    have b1 : (r == 8722) = false := by simp; omega
    go_enter Tryz.func172, Tryz.ntmps172
    go_wp2_with fail
    refine (H.out 8208 8213).mono ?_
    rintro e w1 ⟨rfl, rfl⟩
    rw [decide_eq_false (show ¬ ((8208 : Int) ≤ r ∧ r ≤ 8213) by omega)]
    go_wp2
    go_ret
    exact ⟨rfl, rfl⟩

theorem apostrophe_any (r : Int) (w : World) : Calls Tryz.prog 173 #[.int .i64 r] w fun e w' => e = .returned (.int .i64 (quoteZ' r)) ∧ w' = w := by
  have H := hid (fun a b => within_any r a b w)
  rcases (show (r = 8216) ∨ (¬ (r = 8216) ∧ r = 8217) ∨ (¬ (r = 8216) ∧ ¬ (r = 8217) ∧ r = 700) ∨ (¬ (r = 8216) ∧ ¬ (r = 8217) ∧ ¬ (r = 700)) by omega) with c | c | c | c
  · rw [show quoteZ' r = 39 from by unfold quoteZ'; rw [if_pos (by omega)]]
    obtain rfl : r = 8216 := by omega
    clear c
    go_enter Tryz.func173, Tryz.ntmps173
    go_wp2
    go_ret
    exact ⟨rfl, rfl⟩
  · rw [show quoteZ' r = 39 from by unfold quoteZ'; rw [if_pos (by omega)]]
    obtain rfl : r = 8217 := by omega
    clear c
    go_enter Tryz.func173, Tryz.ntmps173
    go_wp2
    go_ret
    exact ⟨rfl, rfl⟩
  · rw [show quoteZ' r = 39 from by unfold quoteZ'; rw [if_pos (by omega)]]
    obtain rfl : r = 700 := by omega
    clear c
    go_enter Tryz.func173, Tryz.ntmps173
    go_wp2
    go_ret
    exact ⟨rfl, rfl⟩
  · rw [show quoteZ' r = r from by unfold quoteZ'; rw [if_neg (by omega)]]
    have b0 : (r == 8216) = false := by simp; omega
    have b1 : (r == 8217) = false := by simp; omega
    have b2 : (r == 700) = false := by simp; omega
    go_enter Tryz.func173, Tryz.ntmps173
    go_wp2
    go_ret
    exact ⟨rfl, rfl⟩

theorem small_any (r : Int) (h0 : -9223372036854775808 ≤ r) (h1 : r ≤ 9223372036854775807) (w : World) : Calls Tryz.prog 175 #[.int .i64 r] w fun e w' => e = .returned (.int .i64 (smallZ r)) ∧ w' = w := by
  have H := hid (fun a b => within_any r a b w)
  rcases (show r = 215 ∨ r = 930 ∨ (r ≠ 215 ∧ r ≠ 930 ∧ (65 : Int) ≤ r ∧ r ≤ 90) ∨ (r ≠ 215 ∧ r ≠ 930 ∧ ¬ ((65 : Int) ≤ r ∧ r ≤ 90) ∧ (192 : Int) ≤ r ∧ r ≤ 222) ∨ (r ≠ 215 ∧ r ≠ 930 ∧ ¬ ((65 : Int) ≤ r ∧ r ≤ 90) ∧ ¬ ((192 : Int) ≤ r ∧ r ≤ 222) ∧ (913 : Int) ≤ r ∧ r ≤ 937) ∨ (r ≠ 215 ∧ r ≠ 930 ∧ ¬ ((65 : Int) ≤ r ∧ r ≤ 90) ∧ ¬ ((192 : Int) ≤ r ∧ r ≤ 222) ∧ ¬ ((913 : Int) ≤ r ∧ r ≤ 937) ∧ (1040 : Int) ≤ r ∧ r ≤ 1071) ∨ (r ≠ 215 ∧ r ≠ 930 ∧ ¬ ((65 : Int) ≤ r ∧ r ≤ 90) ∧ ¬ ((192 : Int) ≤ r ∧ r ≤ 222) ∧ ¬ ((913 : Int) ≤ r ∧ r ≤ 937) ∧ ¬ ((1040 : Int) ≤ r ∧ r ≤ 1071) ∧ (1024 : Int) ≤ r ∧ r ≤ 1039) ∨ (r ≠ 215 ∧ r ≠ 930 ∧ ¬ ((65 : Int) ≤ r ∧ r ≤ 90) ∧ ¬ ((192 : Int) ≤ r ∧ r ≤ 222) ∧ ¬ ((913 : Int) ≤ r ∧ r ≤ 937) ∧ ¬ ((1040 : Int) ≤ r ∧ r ≤ 1071) ∧ ¬ ((1024 : Int) ≤ r ∧ r ≤ 1039)) by omega) with c | c | c | c | c | c | c | c
  · rw [show smallZ r = r from by unfold smallZ; rw [if_neg (by omega), if_neg (by omega)]]
    obtain rfl : r = 215 := by omega
    clear c
    go_enter Tryz.func175, Tryz.ntmps175
    go_wp2
    go_ret
    exact ⟨rfl, rfl⟩
  · rw [show smallZ r = r from by unfold smallZ; rw [if_neg (by omega), if_neg (by omega)]]
    obtain rfl : r = 930 := by omega
    clear c
    go_enter Tryz.func175, Tryz.ntmps175
    go_wp2
    go_ret
    exact ⟨rfl, rfl⟩
  · rw [show smallZ r = r + 32 from by unfold smallZ; rw [if_pos (by omega)]]
    have b0 : (r == 215) = false := by simp; omega
    have b1 : (r == 930) = false := by simp; omega
    go_enter Tryz.func175, Tryz.ntmps175
    go_wp2_with fail
    refine (H.out 65 90).mono ?_
    rintro e w1 ⟨rfl, rfl⟩
    rw [decide_eq_true (show (65 : Int) ≤ r ∧ r ≤ 90 by omega)]
    go_wp2
    go_ret
    exact ⟨rfl, rfl⟩
  · rw [show smallZ r = r + 32 from by unfold smallZ; rw [if_pos (by omega)]]
    have b0 : (r == 215) = false := by simp; omega
    have b1 : (r == 930) = false := by simp; omega
    go_enter Tryz.func175, Tryz.ntmps175
    go_wp2_with fail
    refine (H.out 65 90).mono ?_
    rintro e w1 ⟨rfl, rfl⟩
    rw [decide_eq_false (show ¬ ((65 : Int) ≤ r ∧ r ≤ 90) by omega)]
    go_wp2_with fail
    refine (H.out 192 222).mono ?_
    rintro e w1 ⟨rfl, rfl⟩
    rw [decide_eq_true (show (192 : Int) ≤ r ∧ r ≤ 222 by omega)]
    go_wp2
    go_ret
    exact ⟨rfl, rfl⟩
  · rw [show smallZ r = r + 32 from by unfold smallZ; rw [if_pos (by omega)]]
    have b0 : (r == 215) = false := by simp; omega
    have b1 : (r == 930) = false := by simp; omega
    go_enter Tryz.func175, Tryz.ntmps175
    go_wp2_with fail
    refine (H.out 65 90).mono ?_
    rintro e w1 ⟨rfl, rfl⟩
    rw [decide_eq_false (show ¬ ((65 : Int) ≤ r ∧ r ≤ 90) by omega)]
    go_wp2_with fail
    refine (H.out 192 222).mono ?_
    rintro e w1 ⟨rfl, rfl⟩
    rw [decide_eq_false (show ¬ ((192 : Int) ≤ r ∧ r ≤ 222) by omega)]
    go_wp2_with fail
    refine (H.out 913 937).mono ?_
    rintro e w1 ⟨rfl, rfl⟩
    rw [decide_eq_true (show (913 : Int) ≤ r ∧ r ≤ 937 by omega)]
    go_wp2
    go_ret
    exact ⟨rfl, rfl⟩
  · rw [show smallZ r = r + 32 from by unfold smallZ; rw [if_pos (by omega)]]
    have b0 : (r == 215) = false := by simp; omega
    have b1 : (r == 930) = false := by simp; omega
    go_enter Tryz.func175, Tryz.ntmps175
    go_wp2_with fail
    refine (H.out 65 90).mono ?_
    rintro e w1 ⟨rfl, rfl⟩
    rw [decide_eq_false (show ¬ ((65 : Int) ≤ r ∧ r ≤ 90) by omega)]
    go_wp2_with fail
    refine (H.out 192 222).mono ?_
    rintro e w1 ⟨rfl, rfl⟩
    rw [decide_eq_false (show ¬ ((192 : Int) ≤ r ∧ r ≤ 222) by omega)]
    go_wp2_with fail
    refine (H.out 913 937).mono ?_
    rintro e w1 ⟨rfl, rfl⟩
    rw [decide_eq_false (show ¬ ((913 : Int) ≤ r ∧ r ≤ 937) by omega)]
    go_wp2_with fail
    refine (H.out 1040 1071).mono ?_
    rintro e w1 ⟨rfl, rfl⟩
    rw [decide_eq_true (show (1040 : Int) ≤ r ∧ r ≤ 1071 by omega)]
    go_wp2
    go_ret
    exact ⟨rfl, rfl⟩
  · rw [show smallZ r = r + 80 from by unfold smallZ; rw [if_neg (by omega), if_pos (by omega)]]
    have b0 : (r == 215) = false := by simp; omega
    have b1 : (r == 930) = false := by simp; omega
    go_enter Tryz.func175, Tryz.ntmps175
    go_wp2_with fail
    refine (H.out 65 90).mono ?_
    rintro e w1 ⟨rfl, rfl⟩
    rw [decide_eq_false (show ¬ ((65 : Int) ≤ r ∧ r ≤ 90) by omega)]
    go_wp2_with fail
    refine (H.out 192 222).mono ?_
    rintro e w1 ⟨rfl, rfl⟩
    rw [decide_eq_false (show ¬ ((192 : Int) ≤ r ∧ r ≤ 222) by omega)]
    go_wp2_with fail
    refine (H.out 913 937).mono ?_
    rintro e w1 ⟨rfl, rfl⟩
    rw [decide_eq_false (show ¬ ((913 : Int) ≤ r ∧ r ≤ 937) by omega)]
    go_wp2_with fail
    refine (H.out 1040 1071).mono ?_
    rintro e w1 ⟨rfl, rfl⟩
    rw [decide_eq_false (show ¬ ((1040 : Int) ≤ r ∧ r ≤ 1071) by omega)]
    go_wp2_with fail
    refine (H.out 1024 1039).mono ?_
    rintro e w1 ⟨rfl, rfl⟩
    rw [decide_eq_true (show (1024 : Int) ≤ r ∧ r ≤ 1039 by omega)]
    go_wp2
    go_ret
    exact ⟨rfl, rfl⟩
  · rw [show smallZ r = r from by unfold smallZ; rw [if_neg (by omega), if_neg (by omega)]]
    have b0 : (r == 215) = false := by simp; omega
    have b1 : (r == 930) = false := by simp; omega
    go_enter Tryz.func175, Tryz.ntmps175
    go_wp2_with fail
    refine (H.out 65 90).mono ?_
    rintro e w1 ⟨rfl, rfl⟩
    rw [decide_eq_false (show ¬ ((65 : Int) ≤ r ∧ r ≤ 90) by omega)]
    go_wp2_with fail
    refine (H.out 192 222).mono ?_
    rintro e w1 ⟨rfl, rfl⟩
    rw [decide_eq_false (show ¬ ((192 : Int) ≤ r ∧ r ≤ 222) by omega)]
    go_wp2_with fail
    refine (H.out 913 937).mono ?_
    rintro e w1 ⟨rfl, rfl⟩
    rw [decide_eq_false (show ¬ ((913 : Int) ≤ r ∧ r ≤ 937) by omega)]
    go_wp2_with fail
    refine (H.out 1040 1071).mono ?_
    rintro e w1 ⟨rfl, rfl⟩
    rw [decide_eq_false (show ¬ ((1040 : Int) ≤ r ∧ r ≤ 1071) by omega)]
    go_wp2_with fail
    refine (H.out 1024 1039).mono ?_
    rintro e w1 ⟨rfl, rfl⟩
    rw [decide_eq_false (show ¬ ((1024 : Int) ≤ r ∧ r ≤ 1039) by omega)]
    go_wp2
    go_ret
    exact ⟨rfl, rfl⟩

theorem digit_any (r : Int) (h0 : -9223372036854775808 ≤ r) (h1 : r ≤ 9223372036854775807) (w : World) (hT : Tab w) : Calls Tryz.prog 174 #[.int .i64 r] w fun e w' => e = .returned (.int .i64 (digitZ r)) ∧ w' = w := by
  have H := hid (fun a b => within_any r a b w)
  obtain ⟨t0, t1, t2, t3⟩ := hT
  have i0 : ∀ w : World, (Instr.index 216 (.agg #[.int .i64 48, .int .i64 1632, .int .i64 1776, .int .i64 2406]) (.int .i64 0)).run Tryz.prog w = .ok (.int .i64 48) w := fun _ => by kernel_rfl
  have i1 : ∀ w : World, (Instr.index 216 (.agg #[.int .i64 48, .int .i64 1632, .int .i64 1776, .int .i64 2406]) (.int .i64 1)).run Tryz.prog w = .ok (.int .i64 1632) w := fun _ => by kernel_rfl
  have i2 : ∀ w : World, (Instr.index 216 (.agg #[.int .i64 48, .int .i64 1632, .int .i64 1776, .int .i64 2406]) (.int .i64 2)).run Tryz.prog w = .ok (.int .i64 1776) w := fun _ => by kernel_rfl
  have i3 : ∀ w : World, (Instr.index 216 (.agg #[.int .i64 48, .int .i64 1632, .int .i64 1776, .int .i64 2406]) (.int .i64 3)).run Tryz.prog w = .ok (.int .i64 2406) w := fun _ => by kernel_rfl
  rcases (show ((48 : Int) ≤ r ∧ r ≤ 57) ∨ (¬ ((48 : Int) ≤ r ∧ r ≤ 57) ∧ (1632 : Int) ≤ r ∧ r ≤ 1641) ∨ (¬ ((48 : Int) ≤ r ∧ r ≤ 57) ∧ ¬ ((1632 : Int) ≤ r ∧ r ≤ 1641) ∧ (1776 : Int) ≤ r ∧ r ≤ 1785) ∨ (¬ ((48 : Int) ≤ r ∧ r ≤ 57) ∧ ¬ ((1632 : Int) ≤ r ∧ r ≤ 1641) ∧ ¬ ((1776 : Int) ≤ r ∧ r ≤ 1785) ∧ (2406 : Int) ≤ r ∧ r ≤ 2415) ∨ (¬ ((48 : Int) ≤ r ∧ r ≤ 57) ∧ ¬ ((1632 : Int) ≤ r ∧ r ≤ 1641) ∧ ¬ ((1776 : Int) ≤ r ∧ r ≤ 1785) ∧ ¬ ((2406 : Int) ≤ r ∧ r ≤ 2415)) by omega) with c | c | c | c | c
  · rw [show digitZ r = 48 + r - 48 from by unfold digitZ; omega]
    go_enter Tryz.func174, Tryz.ntmps174
    go_wp2
    refine wp_loop_rounds 5 ?_
    rw [rounds_succ]
    go_wp2_with fail
    refine (H.out 48 57).mono ?_
    rintro e w1 ⟨rfl, rfl⟩
    rw [decide_eq_true (show (48 : Int) ≤ r ∧ r ≤ 57 by omega)]
    go_wp2
    go_ret
    exact ⟨rfl, rfl⟩
  · rw [show digitZ r = 48 + r - 1632 from by unfold digitZ; omega]
    go_enter Tryz.func174, Tryz.ntmps174
    go_wp2
    refine wp_loop_rounds 5 ?_
    rw [rounds_succ]
    go_wp2_with fail
    refine (H.out 48 57).mono ?_
    rintro e w1 ⟨rfl, rfl⟩
    rw [decide_eq_false (show ¬ ((48 : Int) ≤ r ∧ r ≤ 57) by omega)]
    go_wp2
    rw [rounds_succ]
    go_wp2_with fail
    refine (H.out 1632 1641).mono ?_
    rintro e w1 ⟨rfl, rfl⟩
    rw [decide_eq_true (show (1632 : Int) ≤ r ∧ r ≤ 1641 by omega)]
    go_wp2
    go_ret
    exact ⟨rfl, rfl⟩
  · rw [show digitZ r = 48 + r - 1776 from by unfold digitZ; omega]
    go_enter Tryz.func174, Tryz.ntmps174
    go_wp2
    refine wp_loop_rounds 5 ?_
    rw [rounds_succ]
    go_wp2_with fail
    refine (H.out 48 57).mono ?_
    rintro e w1 ⟨rfl, rfl⟩
    rw [decide_eq_false (show ¬ ((48 : Int) ≤ r ∧ r ≤ 57) by omega)]
    go_wp2
    rw [rounds_succ]
    go_wp2_with fail
    refine (H.out 1632 1641).mono ?_
    rintro e w1 ⟨rfl, rfl⟩
    rw [decide_eq_false (show ¬ ((1632 : Int) ≤ r ∧ r ≤ 1641) by omega)]
    go_wp2
    rw [rounds_succ]
    go_wp2_with fail
    refine (H.out 1776 1785).mono ?_
    rintro e w1 ⟨rfl, rfl⟩
    rw [decide_eq_true (show (1776 : Int) ≤ r ∧ r ≤ 1785 by omega)]
    go_wp2
    go_ret
    exact ⟨rfl, rfl⟩
  · rw [show digitZ r = 48 + r - 2406 from by unfold digitZ; omega]
    go_enter Tryz.func174, Tryz.ntmps174
    go_wp2
    refine wp_loop_rounds 5 ?_
    rw [rounds_succ]
    go_wp2_with fail
    refine (H.out 48 57).mono ?_
    rintro e w1 ⟨rfl, rfl⟩
    rw [decide_eq_false (show ¬ ((48 : Int) ≤ r ∧ r ≤ 57) by omega)]
    go_wp2
    rw [rounds_succ]
    go_wp2_with fail
    refine (H.out 1632 1641).mono ?_
    rintro e w1 ⟨rfl, rfl⟩
    rw [decide_eq_false (show ¬ ((1632 : Int) ≤ r ∧ r ≤ 1641) by omega)]
    go_wp2
    rw [rounds_succ]
    go_wp2_with fail
    refine (H.out 1776 1785).mono ?_
    rintro e w1 ⟨rfl, rfl⟩
    rw [decide_eq_false (show ¬ ((1776 : Int) ≤ r ∧ r ≤ 1785) by omega)]
    go_wp2
    rw [rounds_succ]
    go_wp2_with fail
    refine (H.out 2406 2415).mono ?_
    rintro e w1 ⟨rfl, rfl⟩
    rw [decide_eq_true (show (2406 : Int) ≤ r ∧ r ≤ 2415 by omega)]
    go_wp2
    go_ret
    exact ⟨rfl, rfl⟩
  · rw [show digitZ r = r from by unfold digitZ; omega]
    go_enter Tryz.func174, Tryz.ntmps174
    go_wp2
    refine wp_loop_rounds 5 ?_
    rw [rounds_succ]
    go_wp2_with fail
    refine (H.out 48 57).mono ?_
    rintro e w1 ⟨rfl, rfl⟩
    rw [decide_eq_false (show ¬ ((48 : Int) ≤ r ∧ r ≤ 57) by omega)]
    go_wp2
    rw [rounds_succ]
    go_wp2_with fail
    refine (H.out 1632 1641).mono ?_
    rintro e w1 ⟨rfl, rfl⟩
    rw [decide_eq_false (show ¬ ((1632 : Int) ≤ r ∧ r ≤ 1641) by omega)]
    go_wp2
    rw [rounds_succ]
    go_wp2_with fail
    refine (H.out 1776 1785).mono ?_
    rintro e w1 ⟨rfl, rfl⟩
    rw [decide_eq_false (show ¬ ((1776 : Int) ≤ r ∧ r ≤ 1785) by omega)]
    go_wp2
    rw [rounds_succ]
    go_wp2_with fail
    refine (H.out 2406 2415).mono ?_
    rintro e w1 ⟨rfl, rfl⟩
    rw [decide_eq_false (show ¬ ((2406 : Int) ≤ r ∧ r ≤ 2415) by omega)]
    go_wp2
    rw [rounds_succ]
    go_wp2
    go_ret
    exact ⟨rfl, rfl⟩

theorem steps_any (w : World) : Calls Tryz.prog 163 #[] w fun e w' => e = .returned (.agg #[.func (.func 170) #[] #[], .func (.func 171) #[] #[], .func (.func 172) #[] #[], .func (.func 173) #[] #[], .func (.func 174) #[] #[], .func (.func 175) #[] #[]]) ∧ Below w.heap.size w w' := by
  have hst : ∀ (w : World) (a : Addr) (f : Fn) (u : Value), w.cell? a = some u → w.frozen? a = false → (store a (.func f #[] #[])).run Tryz.prog w = .ok () (w.setCell a (.func f #[] #[])) := fun w a f u h1 h2 => by rw [run_store _ _ _ _ _ rfl, h1, h2]; rfl
  go_enter Tryz.func163, Tryz.ntmps163
  go_wp2
  exact bodyPost_ret (v := (.agg #[.func (.func 170) #[] #[], .func (.func 171) #[] #[], .func (.func 172) #[] #[], .func (.func 173) #[] #[], .func (.func 174) #[] #[], .func (.func 175) #[] #[]])) (by simp [results, Tryz.results163, go_sem]) rfl ⟨rfl, up_alloc _ _⟩

theorem runeZ_bd (r : Int) (h0 : -9223372036854775808 ≤ r) (h1 : r ≤ 9223372036854775807) : -9223372036854775808 ≤ runeZ r ∧ runeZ r ≤ 9223372036854775807 := by
  have a : -9223372036854775808 ≤ narrowZ r ∧ narrowZ r ≤ 9223372036854775807 := by unfold narrowZ; omega
  have b : -9223372036854775808 ≤ blankZ (narrowZ r) ∧ blankZ (narrowZ r) ≤ 9223372036854775807 := by unfold blankZ; omega
  have c : -9223372036854775808 ≤ dashZ (blankZ (narrowZ r)) ∧ dashZ (blankZ (narrowZ r)) ≤ 9223372036854775807 := by unfold dashZ; omega
  have d : -9223372036854775808 ≤ quoteZ' (dashZ (blankZ (narrowZ r))) ∧ quoteZ' (dashZ (blankZ (narrowZ r))) ≤ 9223372036854775807 := by unfold quoteZ'; omega
  have e : -9223372036854775808 ≤ digitZ (quoteZ' (dashZ (blankZ (narrowZ r)))) ∧ digitZ (quoteZ' (dashZ (blankZ (narrowZ r)))) ≤ 9223372036854775807 := by unfold digitZ; omega
  unfold runeZ smallZ; omega

theorem rune_any (r : Int) (h0 : -9223372036854775808 ≤ r) (h1 : r ≤ 9223372036854775807) (w : World) (hT : Tab w) : Calls Tryz.prog 150 #[.int .i64 r] w fun e w' => e = .returned (.int .i64 (runeZ r)) ∧ Below w.heap.size w w' := by
  have HS := hid (steps_any w)
  have i0 : ∀ w : World, (Instr.index 194 (.agg #[.func (.func 170) #[] #[], .func (.func 171) #[] #[], .func (.func 172) #[] #[], .func (.func 173) #[] #[], .func (.func 174) #[] #[], .func (.func 175) #[] #[]]) (.int .i64 0)).run Tryz.prog w = .ok (.func (.func 170) #[] #[]) w := fun _ => by kernel_rfl
  have i1 : ∀ w : World, (Instr.index 194 (.agg #[.func (.func 170) #[] #[], .func (.func 171) #[] #[], .func (.func 172) #[] #[], .func (.func 173) #[] #[], .func (.func 174) #[] #[], .func (.func 175) #[] #[]]) (.int .i64 1)).run Tryz.prog w = .ok (.func (.func 171) #[] #[]) w := fun _ => by kernel_rfl
  have i2 : ∀ w : World, (Instr.index 194 (.agg #[.func (.func 170) #[] #[], .func (.func 171) #[] #[], .func (.func 172) #[] #[], .func (.func 173) #[] #[], .func (.func 174) #[] #[], .func (.func 175) #[] #[]]) (.int .i64 2)).run Tryz.prog w = .ok (.func (.func 172) #[] #[]) w := fun _ => by kernel_rfl
  have i3 : ∀ w : World, (Instr.index 194 (.agg #[.func (.func 170) #[] #[], .func (.func 171) #[] #[], .func (.func 172) #[] #[], .func (.func 173) #[] #[], .func (.func 174) #[] #[], .func (.func 175) #[] #[]]) (.int .i64 3)).run Tryz.prog w = .ok (.func (.func 173) #[] #[]) w := fun _ => by kernel_rfl
  have i4 : ∀ w : World, (Instr.index 194 (.agg #[.func (.func 170) #[] #[], .func (.func 171) #[] #[], .func (.func 172) #[] #[], .func (.func 173) #[] #[], .func (.func 174) #[] #[], .func (.func 175) #[] #[]]) (.int .i64 4)).run Tryz.prog w = .ok (.func (.func 174) #[] #[]) w := fun _ => by kernel_rfl
  have i5 : ∀ w : World, (Instr.index 194 (.agg #[.func (.func 170) #[] #[], .func (.func 171) #[] #[], .func (.func 172) #[] #[], .func (.func 173) #[] #[], .func (.func 174) #[] #[], .func (.func 175) #[] #[]]) (.int .i64 5)).run Tryz.prog w = .ok (.func (.func 175) #[] #[]) w := fun _ => by kernel_rfl
  have a : -9223372036854775808 ≤ narrowZ r ∧ narrowZ r ≤ 9223372036854775807 := by unfold narrowZ; omega
  have b : -9223372036854775808 ≤ blankZ (narrowZ r) ∧ blankZ (narrowZ r) ≤ 9223372036854775807 := by unfold blankZ; omega
  have c : -9223372036854775808 ≤ dashZ (blankZ (narrowZ r)) ∧ dashZ (blankZ (narrowZ r)) ≤ 9223372036854775807 := by unfold dashZ; omega
  have d : -9223372036854775808 ≤ quoteZ' (dashZ (blankZ (narrowZ r))) ∧ quoteZ' (dashZ (blankZ (narrowZ r))) ≤ 9223372036854775807 := by unfold quoteZ'; omega
  have e' : -9223372036854775808 ≤ digitZ (quoteZ' (dashZ (blankZ (narrowZ r)))) ∧ digitZ (quoteZ' (dashZ (blankZ (narrowZ r)))) ≤ 9223372036854775807 := by unfold digitZ; omega
  unfold runeZ
  have HA := hid (narrow_any r h0 h1)
  have HB := hid (blank_any _ a.1 a.2)
  have HC := hid (dash_any _ b.1 b.2)
  have HD := hid (apostrophe_any (dashZ (blankZ (narrowZ r))))
  have HE := hid (digit_any _ d.1 d.2)
  have HF := hid (small_any _ e'.1 e'.2)
  clear a b c d e'
  have HT := hid hT
  generalize narrowZ r = v1 at *
  generalize blankZ v1 = v2 at *
  generalize dashZ v2 = v3 at *
  generalize quoteZ' v3 = v4 at *
  generalize digitZ v4 = v5 at *
  generalize smallZ v5 = v6 at *
  go_enter Tryz.func150, Tryz.ntmps150
  go_wp2_with fail
  refine HS.out.mono ?_
  rintro e w1 ⟨rfl, bel⟩
  have HT1 := hid (hT.on bel)
  have HL := hid bel
  clear bel
  go_wp2
  refine wp_loop_rounds 7 ?_
  rw [rounds_succ]
  go_wp2_with fail
  refine (HA.out w1).mono ?_
  rintro e w1 ⟨rfl, rfl⟩
  go_wp2
  rw [rounds_succ]
  go_wp2_with fail
  refine (HB.out w1).mono ?_
  rintro e w1 ⟨rfl, rfl⟩
  go_wp2
  rw [rounds_succ]
  go_wp2_with fail
  refine (HC.out w1).mono ?_
  rintro e w1 ⟨rfl, rfl⟩
  go_wp2
  rw [rounds_succ]
  go_wp2_with fail
  refine (HD.out w1).mono ?_
  rintro e w1 ⟨rfl, rfl⟩
  go_wp2
  rw [rounds_succ]
  go_wp2_with fail
  refine (HE.out w1 HT1.out).mono ?_
  rintro e w1 ⟨rfl, rfl⟩
  go_wp2
  rw [rounds_succ]
  go_wp2_with fail
  refine (HF.out w1).mono ?_
  rintro e w1 ⟨rfl, rfl⟩
  go_wp2
  rw [rounds_succ]
  go_wp2
  go_ret
  exact ⟨rfl, HL.out⟩

end Go.Proofs.YtohgaknojkdohaaGreatDoor.Fo
