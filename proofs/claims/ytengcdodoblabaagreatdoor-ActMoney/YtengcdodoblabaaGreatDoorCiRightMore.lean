/- What civil.Right and the reference's Right answer of any moment: the same, by its six numbers. -/
import Derived.Test.YtengcdodoblabaaGreatDoorCiRight
namespace Go.Proofs.YtengcdodoblabaaGreatDoor.Ci
open Go.RowKit

def dayB (y m d : Int) : Bool := inB y 1 9999 && Civ.vld y m d
def clockB (h i s : Int) : Bool := inB h 0 23 && inB i 0 59 && inB s 0 59
def rtB (y m d h i s : Int) : Bool := dayB y m d && clockB h i s

set_option maxHeartbeats 1000000 in
theorem right_any (y m d h i s : Int) (w : World) :
    Calls Tryz.prog 69 #[.agg #[.int .i64 y, .int .i64 m, .int .i64 d, .int .i64 h, .int .i64 i, .int .i64 s]] w fun e w' => e = .returned (.bool (rtB y m d h i s)) ∧ Below w.heap.size w w' := by
  have H1 : Hid (∀ w, Calls Tryz.prog 98 #[.agg #[.int .i64 y, .int .i64 m, .int .i64 d], .int .i64 1, .int .i64 9999] w fun e w' => e = .returned (.bool (dayB y m d)) ∧ Below w.heap.size w w') := fun w => isB_any y m d w
  have H2 : Hid (∀ w, Calls Tryz.prog 99 #[.int .i64 h, .int .i64 0, .int .i64 23] w fun e w' => e = .returned (.bool (inB h 0 23)) ∧ w' = w) := fun w => cwithin_any _ _ _ w
  have H3 : Hid (∀ w, Calls Tryz.prog 99 #[.int .i64 i, .int .i64 0, .int .i64 59] w fun e w' => e = .returned (.bool (inB i 0 59)) ∧ w' = w) := fun w => cwithin_any _ _ _ w
  have H4 : Hid (∀ w, Calls Tryz.prog 99 #[.int .i64 s, .int .i64 0, .int .i64 59] w fun e w' => e = .returned (.bool (inB s 0 59)) ∧ w' = w) := fun w => cwithin_any _ _ _ w
  unfold rtB clockB
  generalize dayB y m d = x1 at *
  generalize inB h 0 23 = x2 at *
  generalize inB i 0 59 = x3 at *
  generalize inB s 0 59 = x4 at *
  go_enter Tryz.func69, Tryz.ntmps69
  go_wp2_with fail
  refine (H1.out _).mono ?_
  rintro e w1 ⟨rfl, b1⟩
  obtain ⟨hc, hf⟩ := bcell b1
  cases x1
  · go_wp2
    go_ret
    exact ⟨ret_bool (by simp), up_trans (up_alloc _ _) b1⟩
  · go_wp2_with fail
    refine (H2.out _).mono ?_
    rintro e w2 ⟨rfl, rfl⟩
    cases x2
    · go_wp2
      go_ret
      exact ⟨ret_bool (by simp), up_trans (up_alloc _ _) b1⟩
    · go_wp2_with fail
      refine (H3.out _).mono ?_
      rintro e w3 ⟨rfl, rfl⟩
      cases x3
      · go_wp2
        go_ret
        exact ⟨ret_bool (by simp), up_trans (up_alloc _ _) b1⟩
      · go_wp2_with fail
        refine (H4.out _).mono ?_
        rintro e w4 ⟨rfl, rfl⟩
        go_wp2
        go_ret
        exact ⟨ret_bool (by simp), up_trans (up_alloc _ _) b1⟩

set_option maxHeartbeats 1000000 in
theorem rday_any (y m d : Int) (w : World) :
    Calls Tryz.prog 65 #[.int .i64 y, .int .i64 m, .int .i64 d] w fun e w' => e = .returned (.bool (dayB y m d)) ∧ w' = w := by
  go_enter Tryz.func65, Tryz.ntmps65
  go_wp2_with (go_at_call 34; refine (rlen_any _ _ _).mono ?_; rintro e w' ⟨rfl, rfl⟩)
  all_goals
    go_ret
    refine ⟨ret_bool (Bool.eq_iff_iff.2 ?_), rfl⟩
    unfold dayB Civ.vld inB
    simp
    omega

set_option maxHeartbeats 1000000 in
theorem rclock_any (h i s : Int) (w : World) :
    Calls Tryz.prog 66 #[.int .i64 h, .int .i64 i, .int .i64 s] w fun e w' => e = .returned (.bool (clockB h i s)) ∧ w' = w := by
  go_enter Tryz.func66, Tryz.ntmps66
  go_wp2
  all_goals
    go_ret
    refine ⟨ret_bool (Bool.eq_iff_iff.2 ?_), rfl⟩
    unfold clockB inB
    simp
    omega

end Go.Proofs.YtengcdodoblabaaGreatDoor.Ci
