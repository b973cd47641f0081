/- What package civil's own calls Days, Weekday, Length, Civil answer of days that are, and how many months on a day is; each call leaves what was in memory as it was. -/
import Derived.Test.YtengcdodoblabaaGreatDoorCiMid
import Derived.Deep.RegionWith
namespace Go.Proofs.YtengcdodoblabaaGreatDoor.Ci
open Go.RowKit

theorem up_trans {w a b : World} (h1 : Below w.heap.size w a) (h2 : Below a.heap.size a b) : Below w.heap.size w b := h1.trans (h2.mono h1.size)
theorem up_alloc (w : World) (o : Obj) : Below w.heap.size w (w.alloc o) := (Below.refl _ _).alloc (Nat.le_refl _) _
theorem up_drew (w : World) : Below w.heap.size w w.drew := (Below.refl _ _).drew
theorem up_drewN (w : World) (n : Nat) : Below w.heap.size w (w.drewN n) := below_drewN (Below.refl _ _) _

theorem bcell {W w1 : World} (hb : Below W.heap.size W w1) : (∀ b o, b < W.heap.size → w1.cell? ⟨b, o, none⟩ = W.cell? ⟨b, o, none⟩) ∧ (∀ b o, b < W.heap.size → w1.frozen? ⟨b, o, none⟩ = W.frozen? ⟨b, o, none⟩) :=
  ⟨fun b o h => hb.cell (p := ⟨b, o, none⟩) h, fun b o h => hb.frozen (p := ⟨b, o, none⟩) h⟩

set_option maxHeartbeats 400000 in
theorem weekday_any (y m d : Int) (w : World) (hy0 : -1000000 ≤ y) (hy1 : y ≤ 1000000) (hm0 : 1 ≤ m) (hm1 : m ≤ 12) (hd0 : 1 ≤ d) (hd1 : d ≤ 31) :
    Calls Tryz.prog 106 #[.agg #[.int .i64 y, .int .i64 m, .int .i64 d]] w fun e w' => e = .returned (.int .i64 ((Civ.num y m d + 3) % 7)) ∧ Below w.heap.size w w' := by
  have hb := num_bd y m d hy0 hy1 hm0 hm1 hd0 hd1
  have HN : Hid (∀ w, Calls Tryz.prog 114 #[.agg #[.int .i64 y, .int .i64 m, .int .i64 d]] w fun e w' => e = .returned (.int .i64 (Civ.num y m d)) ∧ Below w.heap.size w w') := fun w => number_any y m d w hy0 hy1 hm0 hm1 hd0 hd1
  generalize Civ.num y m d = k at *
  clear hy0 hy1 hm0 hm1 hd0 hd1
  go_enter Tryz.func106, Tryz.ntmps106
  go_wp2_with fail
  refine (HN.out _).mono ?_
  rintro e w1 ⟨rfl, hb1⟩
  go_wp2_with (go_at_call 117; refine (cfloor_any _ _ _ (by omega) (by omega) (by omega) (by omega)).mono ?_; rintro e w' ⟨rfl, rfl⟩)
  go_ret
  exact ⟨ret_int (by omega), ((Below.refl _ _).alloc (Nat.le_refl _) _).trans (hb1.mono (by simp))⟩

set_option maxHeartbeats 400000 in
theorem tell_num (y m d : Int) (w : World) (hv : Civ.vld y m d = true) (hy0 : -10000 ≤ y) (hy1 : y ≤ 20000) :
    Calls Tryz.prog 105 #[.agg #[.int .i64 y, .int .i64 m, .int .i64 d], .func (Fn.func 114) #[] #[]] w fun e w' => e = .returned (.int .i64 (Civ.num y m d)) ∧ Below w.heap.size w w' := by
  obtain ⟨v1, v2, v3, v4⟩ := (Civ.vld_iff _ _ _).1 hv
  have hl := len_le y m
  have HN : Hid (∀ w, Calls Tryz.prog 114 #[.agg #[.int .i64 y, .int .i64 m, .int .i64 d]] w fun e w' => e = .returned (.int .i64 (Civ.num y m d)) ∧ Below w.heap.size w w') := fun w => number_any y m d w (by omega) (by omega) v1 v2 v3 (by omega)
  have HB : Hid (∀ w, Calls Tryz.prog 98 #[.agg #[.int .i64 y, .int .i64 m, .int .i64 d], .int .i64 (-10000), .int .i64 20000] w fun e w' => e = .returned (.bool true) ∧ Below w.heap.size w w') := fun w => isB_in y m d _ _ w (inB_true hy0 hy1) hv (by omega) (by omega)
  generalize Civ.num y m d = k at *
  clear hv v1 v2 v3 v4 hl hy0 hy1
  go_enter Tryz.func105, Tryz.ntmps105
  go_wp2_with fail
  refine (HB.out _).mono ?_
  rintro e w1 ⟨rfl, hb1⟩
  obtain ⟨hc, hf⟩ := bcell hb1
  go_wp2_with fail
  refine (HN.out _).mono ?_
  rintro e w2 ⟨rfl, hb2⟩
  go_wp2
  go_ret
  exact ⟨rfl, (((Below.refl _ _).alloc (Nat.le_refl _) _).trans (hb1.mono (by simp))).trans (hb2.mono (by have := hb1.size; simp at this; omega))⟩
set_option maxHeartbeats 400000 in
theorem tell_wd (y m d : Int) (w : World) (hv : Civ.vld y m d = true) (hy0 : -10000 ≤ y) (hy1 : y ≤ 20000) :
    Calls Tryz.prog 105 #[.agg #[.int .i64 y, .int .i64 m, .int .i64 d], .func (Fn.func 106) #[] #[]] w fun e w' => e = .returned (.int .i64 ((Civ.num y m d + 3) % 7)) ∧ Below w.heap.size w w' := by
  obtain ⟨v1, v2, v3, v4⟩ := (Civ.vld_iff _ _ _).1 hv
  have hl := len_le y m
  have HN : Hid (∀ w, Calls Tryz.prog 106 #[.agg #[.int .i64 y, .int .i64 m, .int .i64 d]] w fun e w' => e = .returned (.int .i64 ((Civ.num y m d + 3) % 7)) ∧ Below w.heap.size w w') := fun w => weekday_any y m d w (by omega) (by omega) v1 v2 v3 (by omega)
  have HB : Hid (∀ w, Calls Tryz.prog 98 #[.agg #[.int .i64 y, .int .i64 m, .int .i64 d], .int .i64 (-10000), .int .i64 20000] w fun e w' => e = .returned (.bool true) ∧ Below w.heap.size w w') := fun w => isB_in y m d _ _ w (inB_true hy0 hy1) hv (by omega) (by omega)
  generalize (Civ.num y m d + 3) % 7 = k at *
  clear hv v1 v2 v3 v4 hl hy0 hy1
  go_enter Tryz.func105, Tryz.ntmps105
  go_wp2_with fail
  refine (HB.out _).mono ?_
  rintro e w1 ⟨rfl, hb1⟩
  obtain ⟨hc, hf⟩ := bcell hb1
  go_wp2_with fail
  refine (HN.out _).mono ?_
  rintro e w2 ⟨rfl, hb2⟩
  go_wp2
  go_ret
  exact ⟨rfl, (((Below.refl _ _).alloc (Nat.le_refl _) _).trans (hb1.mono (by simp))).trans (hb2.mono (by have := hb1.size; simp at this; omega))⟩

set_option maxHeartbeats 400000 in
theorem wday_in (y m d : Int) (w : World) (hv : Civ.vld y m d = true) (hy0 : -10000 ≤ y) (hy1 : y ≤ 20000) :
    Calls Tryz.prog 83 #[.int .i64 y, .int .i64 m, .int .i64 d] w fun e w' => e = .returned (.int .i64 ((Civ.num y m d + 3) % 7)) ∧ Below w.heap.size w w' := by
  have HT : Hid (∀ w, Calls Tryz.prog 105 #[.agg #[.int .i64 y, .int .i64 m, .int .i64 d], .func (Fn.func 106) #[] #[]] w fun e w' => e = .returned (.int .i64 ((Civ.num y m d + 3) % 7)) ∧ Below w.heap.size w w') := fun w => tell_wd y m d w hv hy0 hy1
  clear hv hy0 hy1
  go_enter Tryz.func83, Tryz.ntmps83
  go_wp2_with fail
  refine (HT.out _).mono ?_
  rintro e w1 ⟨rfl, hb1⟩
  go_wp2
  go_ret
  exact ⟨rfl, hb1⟩

/-- so many months on: the year, the month, the day -/
def onY (y m mo : Int) : Int := (y * 12 + m - 1 + mo) / 12
def onM (y m mo : Int) : Int := y * 12 + m - 1 + mo - 12 * onY y m mo + 1
def onD (y m d mo : Int) : Int := if Civ.len (onY y m mo) (onM y m mo) < d then Civ.len (onY y m mo) (onM y m mo) else d

set_option maxHeartbeats 1000000 in
theorem monthsOn_any (y m d mo : Int) (w : World) (hy0 : 1 ≤ y) (hy1 : y ≤ 9999) (hm0 : 1 ≤ m) (hm1 : m ≤ 12) (hq0 : -1000000 ≤ mo) (hq1 : mo ≤ 1000000) :
    Calls Tryz.prog 116 #[.agg #[.int .i64 y, .int .i64 m, .int .i64 d], .int .i64 mo] w fun e w' => e = .returned (.agg #[.int .i64 (onY y m mo), .int .i64 (onM y m mo), .int .i64 (onD y m d mo)]) ∧ Below w.heap.size w w' := by
  have HY : Hid (onY y m mo = (y * 12 + m - 1 + mo) / 12) := rfl
  have HM : Hid (onM y m mo = y * 12 + m - 1 + mo - 12 * onY y m mo + 1) := rfl
  have HD : Hid (onD y m d mo = if Civ.len (onY y m mo) (onM y m mo) < d then Civ.len (onY y m mo) (onM y m mo) else d) := rfl
  have b1 : -1000000 ≤ onY y m mo ∧ onY y m mo ≤ 1000000 := by rw [HY.out]; omega
  go_enter Tryz.func116, Tryz.ntmps116
  go_wp2_with fail
  refine (cfloor_any _ _ _ (by omega) (by omega) (by omega) (by omega)).mono ?_
  rintro e w' ⟨rfl, rfl⟩
  rw [← HY.out]
  go_wp2
  rw [← HM.out]
  clear HY HM b1 hy0 hy1 hm0 hm1 hq0 hq1
  go_region_with ((go_at_call 123; refine (len_any _ _ _).mono ?_; rintro e w' ⟨rfl, rfl⟩))
  all_goals
    rw [← HD.out]
    go_wp2
    refine bodyPost_ret (v := .agg #[.int .i64 (onY y m mo), .int .i64 (onM y m mo), .int .i64 (onD y m d mo)]) (by simp [results, Tryz.results116, go_sem]) rfl ⟨rfl, ?_⟩
    exact up_trans (up_trans (up_alloc _ _) (up_alloc _ _)) (up_drew _)
end Go.Proofs.YtengcdodoblabaaGreatDoor.Ci
