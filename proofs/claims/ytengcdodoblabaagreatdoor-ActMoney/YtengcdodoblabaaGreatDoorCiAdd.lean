/- What civil.Add answers of a day of the years 1 to 9999, of any months and any days: the day that the chapter's own way reckons, or none; it leaves what was in memory as it was. -/
import Derived.Test.YtengcdodoblabaaGreatDoorCiDays
namespace Go.Proofs.YtengcdodoblabaaGreatDoor.Ci
open Go.RowKit

theorem hid {p : Prop} (h : p) : Hid p := h

def addK (y m d mo da : Int) : Int := Civ.num (onY y m mo) (onM y m mo) (onD y m d mo) + da
def addOk (y m d mo da : Int) : Bool := inB mo (-1000000) 1000000 && inB da (-10000000) 10000000 && inB (Civ.cY (addK y m d mo da)) 1 9999
def tup (a b c : Int) (x : Bool) : Value := .tuple #[.int .i64 a, .int .i64 b, .int .i64 c, .bool x]
def addV (y m d mo da : Int) : Value := if addOk y m d mo da then tup (Civ.cY (addK y m d mo da)) (Civ.cM (addK y m d mo da)) (Civ.cD (addK y m d mo da)) true else tup 0 0 0 false

theorem on_bd (y m d mo : Int) (hv : Civ.vld y m d = true) (hy0 : 1 ≤ y) (hy1 : y ≤ 9999) (hq0 : -1000000 ≤ mo) (hq1 : mo ≤ 1000000) :
    (-1000000 ≤ onY y m mo ∧ onY y m mo ≤ 1000000) ∧ (1 ≤ onM y m mo ∧ onM y m mo ≤ 12) ∧ (1 ≤ onD y m d mo ∧ onD y m d mo ≤ 31) ∧ Civ.vld (onY y m mo) (onM y m mo) (onD y m d mo) = true := by
  obtain ⟨v1, v2, v3, v4⟩ := (Civ.vld_iff _ _ _).1 hv
  have h1 := len_le y m
  have h2 := len_le (onY y m mo) (onM y m mo)
  have hY : -1000000 ≤ onY y m mo ∧ onY y m mo ≤ 1000000 := by unfold onY; omega
  have hM : 1 ≤ onM y m mo ∧ onM y m mo ≤ 12 := by unfold onM onY; omega
  have hD : 1 ≤ onD y m d mo ∧ onD y m d mo ≤ 31 ∧ onD y m d mo ≤ Civ.len (onY y m mo) (onM y m mo) := by unfold onD; split <;> omega
  exact ⟨hY, hM, ⟨hD.1, hD.2.1⟩, (Civ.vld_iff _ _ _).2 ⟨hM.1, hM.2, hD.1, hD.2.2⟩⟩

set_option maxHeartbeats 1000000 in
theorem add_far (y m d mo da : Int) (w : World) (hv : Civ.vld y m d = true) (hy0 : 1 ≤ y) (hy1 : y ≤ 9999) (hf : (inB mo (-1000000) 1000000 && inB da (-10000000) 10000000) = false) :
    Calls Tryz.prog 104 #[.int .i64 y, .int .i64 m, .int .i64 d, .int .i64 mo, .int .i64 da] w fun e w' => e = .returned (.tuple #[.int .i64 0, .int .i64 0, .int .i64 0, .bool false]) ∧ Below w.heap.size w w' := by
  have HB : Hid (∀ w, Calls Tryz.prog 98 #[.agg #[.int .i64 y, .int .i64 m, .int .i64 d], .int .i64 1, .int .i64 9999] w fun e w' => e = .returned (.bool true) ∧ Below w.heap.size w w') := fun w => isB_in y m d _ _ w (inB_true hy0 hy1) hv (by omega) (by omega)
  have H1 : Hid (∀ w, Calls Tryz.prog 99 #[.int .i64 mo, .int .i64 (-1000000), .int .i64 1000000] w fun e w' => e = .returned (.bool (inB mo (-1000000) 1000000)) ∧ w' = w) := fun w => cwithin_any _ _ _ _
  have H2 : Hid (∀ w, Calls Tryz.prog 99 #[.int .i64 da, .int .i64 (-10000000), .int .i64 10000000] w fun e w' => e = .returned (.bool (inB da (-10000000) 10000000)) ∧ w' = w) := fun w => cwithin_any _ _ _ _
  generalize inB mo (-1000000) 1000000 = x1 at *
  generalize inB da (-10000000) 10000000 = x2 at *
  clear hv hy0 hy1
  cases x1
  · clear hf
    go_enter Tryz.func104, Tryz.ntmps104
    go_wp2_with fail
    refine (HB.out _).mono ?_
    rintro e w1 ⟨rfl, hb1⟩
    go_wp2_with fail
    refine (H1.out _).mono ?_
    rintro e w2 ⟨rfl, rfl⟩
    go_wp2
    exact bodyPost_ret (v := .tuple #[.int .i64 0, .int .i64 0, .int .i64 0, .bool false]) (by simp [results, Tryz.results104, go_sem]) rfl ⟨rfl, up_trans (up_alloc _ _) hb1⟩
  · have hx2 : x2 = false := by simpa using hf
    subst hx2
    clear hf
    go_enter Tryz.func104, Tryz.ntmps104
    go_wp2_with fail
    refine (HB.out _).mono ?_
    rintro e w1 ⟨rfl, hb1⟩
    go_wp2_with fail
    refine (H1.out _).mono ?_
    rintro e w2 ⟨rfl, rfl⟩
    go_wp2_with fail
    refine (H2.out _).mono ?_
    rintro e w2 ⟨rfl, rfl⟩
    go_wp2
    exact bodyPost_ret (v := .tuple #[.int .i64 0, .int .i64 0, .int .i64 0, .bool false]) (by simp [results, Tryz.results104, go_sem]) rfl ⟨rfl, up_trans (up_alloc _ _) hb1⟩

set_option maxHeartbeats 1000000 in
theorem add_near (y m d mo da : Int) (w : World) (hv : Civ.vld y m d = true) (hy0 : 1 ≤ y) (hy1 : y ≤ 9999) (q0 : -1000000 ≤ mo) (q1 : mo ≤ 1000000) (r0 : -10000000 ≤ da) (r1 : da ≤ 10000000) :
    Calls Tryz.prog 104 #[.int .i64 y, .int .i64 m, .int .i64 d, .int .i64 mo, .int .i64 da] w fun e w' => e = .returned (if inB (Civ.cY (addK y m d mo da)) 1 9999 then tup (Civ.cY (addK y m d mo da)) (Civ.cM (addK y m d mo da)) (Civ.cD (addK y m d mo da)) true else tup 0 0 0 false) ∧ Below w.heap.size w w' := by
  have HB : Hid (∀ w, Calls Tryz.prog 98 #[.agg #[.int .i64 y, .int .i64 m, .int .i64 d], .int .i64 1, .int .i64 9999] w fun e w' => e = .returned (.bool true) ∧ Below w.heap.size w w') := fun w => isB_in y m d _ _ w (inB_true hy0 hy1) hv (by omega) (by omega)
  have H1 : Hid (∀ w, Calls Tryz.prog 99 #[.int .i64 mo, .int .i64 (-1000000), .int .i64 1000000] w fun e w' => e = .returned (.bool true) ∧ w' = w) := fun w => by rw [← inB_true q0 q1]; exact cwithin_any _ _ _ _
  have H2 : Hid (∀ w, Calls Tryz.prog 99 #[.int .i64 da, .int .i64 (-10000000), .int .i64 10000000] w fun e w' => e = .returned (.bool true) ∧ w' = w) := fun w => by rw [← inB_true r0 r1]; exact cwithin_any _ _ _ _
  obtain ⟨v1, v2, v3, v4⟩ := (Civ.vld_iff _ _ _).1 hv
  have HO : Hid (∀ w, Calls Tryz.prog 116 #[.agg #[.int .i64 y, .int .i64 m, .int .i64 d], .int .i64 mo] w fun e w' => e = .returned (.agg #[.int .i64 (onY y m mo), .int .i64 (onM y m mo), .int .i64 (onD y m d mo)]) ∧ Below w.heap.size w w') := fun w => monthsOn_any y m d mo w hy0 hy1 v1 v2 q0 q1
  obtain ⟨o1, o2, o3, _⟩ := on_bd y m d mo hv hy0 hy1 q0 q1
  have HN : Hid (∀ w, Calls Tryz.prog 114 #[.agg #[.int .i64 (onY y m mo), .int .i64 (onM y m mo), .int .i64 (onD y m d mo)]] w fun e w' => e = .returned (.int .i64 (Civ.num (onY y m mo) (onM y m mo) (onD y m d mo))) ∧ Below w.heap.size w w') := fun w => number_any _ _ _ w o1.1 o1.2 o2.1 o2.2 o3.1 o3.2
  have nb := num_bd _ _ _ o1.1 o1.2 o2.1 o2.2 o3.1 o3.2
  have HK : Hid (addK y m d mo da = Civ.num (onY y m mo) (onM y m mo) (onD y m d mo) + da) := rfl
  have HD : Hid (∀ w, Calls Tryz.prog 113 #[.int .i64 (addK y m d mo da)] w fun e w' => e = .returned (.agg #[.int .i64 (Civ.cY (addK y m d mo da)), .int .i64 (Civ.cM (addK y m d mo da)), .int .i64 (Civ.cD (addK y m d mo da))]) ∧ Below w.heap.size w w') := fun w => dateOf_in _ w (by rw [HK.out]; omega) (by rw [HK.out]; omega)
  have H3 : Hid (∀ w, Calls Tryz.prog 99 #[.int .i64 (Civ.cY (addK y m d mo da)), .int .i64 1, .int .i64 9999] w fun e w' => e = .returned (.bool (inB (Civ.cY (addK y m d mo da)) 1 9999)) ∧ w' = w) := fun w => cwithin_any _ _ _ _
  clear hv hy0 hy1 v1 v2 v3 v4 o1 o2 o3 q0 q1
  cases hx : inB (Civ.cY (addK y m d mo da)) 1 9999
  all_goals
    rw [hx] at H3
    have HX := hid hx
    clear hx
    go_enter Tryz.func104, Tryz.ntmps104
    go_wp2_with fail
    refine (HB.out _).mono ?_
    rintro e w1 ⟨rfl, hb1⟩
    go_wp2_with fail
    refine (H1.out _).mono ?_
    rintro e w2 ⟨rfl, rfl⟩
    go_wp2_with fail
    refine (H2.out _).mono ?_
    rintro e w3 ⟨rfl, rfl⟩
    obtain ⟨hc, hf⟩ := bcell hb1
    go_wp2_with fail
    refine (HO.out _).mono ?_
    rintro e w4 ⟨rfl, hb4⟩
    go_wp2_with fail
    refine (HN.out _).mono ?_
    rintro e w5 ⟨rfl, hb5⟩
    go_wp2_with fail
    rw [← HK.out]
    refine (HD.out _).mono ?_
    rintro e w6 ⟨rfl, hb6⟩
    go_wp2_with fail
    refine (H3.out _).mono ?_
    rintro e w7 ⟨rfl, rfl⟩
    go_wp2
  · exact bodyPost_ret (v := .tuple #[.int .i64 0, .int .i64 0, .int .i64 0, .bool false]) (by simp [results, Tryz.results104, go_sem]) rfl ⟨rfl, up_trans (up_trans (up_trans (up_trans (up_trans (up_alloc _ _) hb1) hb4) hb5) hb6) (up_alloc _ _)⟩
  · go_quiet (fail)
    go_wp2
    exact bodyPost_ret (v := .tuple #[.int .i64 (Civ.cY (addK y m d mo da)), .int .i64 (Civ.cM (addK y m d mo da)), .int .i64 (Civ.cD (addK y m d mo da)), .bool true]) (by simp [results, Tryz.results104, go_sem]) rfl ⟨rfl, up_trans (up_trans (up_trans (up_trans (up_trans (up_trans (up_alloc _ _) hb1) hb4) hb5) hb6) (up_alloc _ _)) (up_drewN _ _)⟩

theorem add_any (y m d mo da : Int) (w : World) (hv : Civ.vld y m d = true) (hy0 : 1 ≤ y) (hy1 : y ≤ 9999) :
    Calls Tryz.prog 104 #[.int .i64 y, .int .i64 m, .int .i64 d, .int .i64 mo, .int .i64 da] w fun e w' => e = .returned (addV y m d mo da) ∧ Below w.heap.size w w' := by
  unfold addV addOk
  cases hf : inB mo (-1000000) 1000000 && inB da (-10000000) 10000000
  · simpa [tup] using add_far y m d mo da w hv hy0 hy1 hf
  · have h := hf
    rw [Bool.and_eq_true, inB_iff, inB_iff] at h
    simpa using add_near y m d mo da w hv hy0 hy1 h.1.1 h.1.2 h.2.1 h.2.2
end Go.Proofs.YtengcdodoblabaaGreatDoor.Ci
