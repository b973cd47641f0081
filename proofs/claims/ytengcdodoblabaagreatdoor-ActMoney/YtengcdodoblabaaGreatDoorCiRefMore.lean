/- What the reference's own calls Weekday, Civil, Add answer: the same numbers as package civil's; they leave the world as it is. -/
import Derived.Test.YtengcdodoblabaaGreatDoorCiRef
namespace Go.Proofs.YtengcdodoblabaaGreatDoor.Ci
open Go.RowKit

set_option maxHeartbeats 400000 in
theorem rweekday_any (y m d : Int) (w : World) (hy0 : -1000000 ≤ y) (hy1 : y ≤ 1000000) (hm0 : 1 ≤ m) (hm1 : m ≤ 12) (hd0 : 1 ≤ d) (hd1 : d ≤ 31) :
    Calls Tryz.prog 93 #[.int .i64 y, .int .i64 m, .int .i64 d] w fun e w' => e = .returned (.int .i64 ((Civ.num y m d + 3) % 7)) ∧ w' = w := by
  have hb := num_bd y m d hy0 hy1 hm0 hm1 hd0 hd1
  go_enter Tryz.func93, Tryz.ntmps93
  go_wp2_with (first | (go_at_call 29; refine (rdays_any _ _ _ _ hy0 hy1 hm0 hm1 hd0 hd1).mono ?_; rintro e w' ⟨rfl, rfl⟩) | (go_at_call 73; refine (rfloor_any _ _ _ (by omega) (by omega) (by omega) (by omega)).mono ?_; rintro e w' ⟨rfl, rfl⟩))
  go_ret
  exact ⟨ret_int (by omega), rfl⟩

theorem rc_facts (k r Y D M : Int) (hr : r = k + 719468 - 146097 * ((k + 719468) / 146097)) (hY : Y = (r - r / 1460 + r / 36524 - r / 146096) / 365) (hD : D = r - (365 * Y + Y / 4 - Y / 100)) (hM : M = (5 * D + 2) / 153) :
    (0 ≤ r ∧ r ≤ 146096 ∧ 0 ≤ Y ∧ Y ≤ 399 ∧ 0 ≤ D ∧ D ≤ 365 ∧ 0 ≤ M ∧ M ≤ 11) ∧ Y = Civ.ofY k ∧ D = Civ.ofD k ∧ M = Civ.ofM k := by
  have e1 : r = k + 719468 - (k + 719468) / 146097 * 146097 := by omega
  have e2 : Y = Civ.ofY k := by rw [hY, e1]; rfl
  have e3 : D = Civ.ofD k := by rw [hD, e2, e1]; rfl
  have e4 : M = Civ.ofM k := by rw [hM, e3]; rfl
  have hy := Civ.yr r (by omega) (by omega)
  obtain ⟨y0, y1, y2, y3⟩ := hy
  have e5 : Civ.yOf r = Y := hY.symm
  rw [e5] at y0 y1 y2 y3
  have e6 : D = r - Civ.aY Y := hD
  have hd1 : D ≤ 365 := by split at y3 <;> omega
  have hd0 : 0 ≤ D := by omega
  have := mM_bd D hd0 hd1
  exact ⟨⟨by omega, by omega, y0, y1, hd0, hd1, by omega, by omega⟩, e2, e3, e4⟩

theorem ret3 {a b c a' b' c' : Int} (h1 : a = a') (h2 : b = b') (h3 : c = c') : Ending.returned (.tuple #[.int .i64 a, .int .i64 b, .int .i64 c]) = .returned (.tuple #[.int .i64 a', .int .i64 b', .int .i64 c']) := by rw [h1, h2, h3]
theorem p9 (x : Int) : x + 3 - 12 = x - 9 := by omega

set_option maxHeartbeats 1000000 in
theorem rcivil_any (k : Int) (w : World) (h0 : -1000000000 ≤ k) (h1 : k ≤ 1000000000) :
    Calls Tryz.prog 92 #[.int .i64 k] w fun e w' => e = .returned (.tuple #[.int .i64 (Civ.cY k), .int .i64 (Civ.cM k), .int .i64 (Civ.cD k)]) ∧ w' = w := by
  obtain ⟨⟨r0, r1, y0, y1, d0, d1, m0, m1⟩, eY, eD, eM⟩ := rc_facts k _ _ _ _ rfl rfl rfl rfl
  have EY := hid eY
  have ED := hid eD
  have EM := hid eM
  clear eY eD eM
  by_cases hm : Civ.ofM k < 10
  · have HC : Hid (Civ.cY k = Civ.ofY k + (k + 719468) / 146097 * 400 ∧ Civ.cM k = Civ.ofM k + 3 ∧ Civ.cD k = Civ.ofD k - Civ.aM (Civ.ofM k) + 1) := ⟨if_pos hm, if_pos hm, rfl⟩
    rw [← EM.out] at hm
    go_enter Tryz.func92, Tryz.ntmps92
    go_wp2_with (go_at_call 73; refine (rfloor_any _ _ _ (by omega) (by omega) (by omega) (by omega)).mono ?_; rintro e w' ⟨rfl, rfl⟩)
    go_ret3
    obtain ⟨c1, c2, c3⟩ := HC.out
    refine ⟨ret3 ?_ ?_ ?_, rfl⟩
    · rw [c1, ← EY.out, Int.mul_comm ((k + 719468) / 146097) 400]
    · rw [c2, ← EM.out]
    · rw [c3, ← ED.out, ← EM.out]; rfl
  · have HC : Hid (Civ.cY k = Civ.ofY k + (k + 719468) / 146097 * 400 + 1 ∧ Civ.cM k = Civ.ofM k - 9 ∧ Civ.cD k = Civ.ofD k - Civ.aM (Civ.ofM k) + 1) := ⟨if_neg hm, if_neg hm, rfl⟩
    rw [← EM.out] at hm
    go_enter Tryz.func92, Tryz.ntmps92
    go_wp2_with (go_at_call 73; refine (rfloor_any _ _ _ (by omega) (by omega) (by omega) (by omega)).mono ?_; rintro e w' ⟨rfl, rfl⟩)
    go_ret3
    obtain ⟨c1, c2, c3⟩ := HC.out
    refine ⟨ret3 ?_ ?_ ?_, rfl⟩
    · rw [c1, ← EY.out, Int.mul_comm ((k + 719468) / 146097) 400]
    · rw [c2, ← EM.out]; exact p9 _
    · rw [c3, ← ED.out, ← EM.out]; rfl

theorem onY' (y m mo : Int) : onY y m mo = (12 * y + m - 1 + mo) / 12 := by unfold onY; rw [Int.mul_comm y 12]
theorem onM' (y m mo : Int) : onM y m mo = 12 * y + m - 1 + mo - 12 * onY y m mo + 1 := by unfold onM; rw [Int.mul_comm y 12]

set_option maxHeartbeats 1000000 in
theorem radd_far (y m d mo da : Int) (w : World) (hf : mo < -1000000 ∨ 1000000 < mo ∨ da < -10000000 ∨ 10000000 < da) :
    Calls Tryz.prog 90 #[.int .i64 y, .int .i64 m, .int .i64 d, .int .i64 mo, .int .i64 da] w fun e w' => e = .returned (.tuple #[.int .i64 0, .int .i64 0, .int .i64 0, .bool false]) ∧ w' = w := by
  by_cases f1 : mo < -1000000
  · clear hf
    go_enter Tryz.func90, Tryz.ntmps90
    go_wp2
    exact bodyPost_ret (v := .tuple #[.int .i64 0, .int .i64 0, .int .i64 0, .bool false]) (by simp [results, Tryz.results90, go_sem]) rfl ⟨rfl, rfl⟩
  by_cases f2 : 1000000 < mo
  · clear hf
    go_enter Tryz.func90, Tryz.ntmps90
    go_wp2
    exact bodyPost_ret (v := .tuple #[.int .i64 0, .int .i64 0, .int .i64 0, .bool false]) (by simp [results, Tryz.results90, go_sem]) rfl ⟨rfl, rfl⟩
  by_cases f3 : da < -10000000
  · clear hf
    go_enter Tryz.func90, Tryz.ntmps90
    go_wp2
    exact bodyPost_ret (v := .tuple #[.int .i64 0, .int .i64 0, .int .i64 0, .bool false]) (by simp [results, Tryz.results90, go_sem]) rfl ⟨rfl, rfl⟩
  · have f4 : 10000000 < da := by omega
    clear hf
    go_enter Tryz.func90, Tryz.ntmps90
    go_wp2
    exact bodyPost_ret (v := .tuple #[.int .i64 0, .int .i64 0, .int .i64 0, .bool false]) (by simp [results, Tryz.results90, go_sem]) rfl ⟨rfl, rfl⟩

def addN (k : Int) : Value := if inB (Civ.cY k) 1 9999 then tup (Civ.cY k) (Civ.cM k) (Civ.cD k) true else tup 0 0 0 false

set_option maxHeartbeats 1000000 in
theorem radd_near (y m d mo da : Int) (w : World) (hv : Civ.vld y m d = true) (hy0 : 1 ≤ y) (hy1 : y ≤ 9999) (q0 : -1000000 ≤ mo) (q1 : mo ≤ 1000000) (r0 : -10000000 ≤ da) (r1 : da ≤ 10000000) :
    Calls Tryz.prog 90 #[.int .i64 y, .int .i64 m, .int .i64 d, .int .i64 mo, .int .i64 da] w fun e w' => e = .returned (addN (addK y m d mo da)) ∧ w' = w := by
  obtain ⟨v1, v2, v3, v4⟩ := (Civ.vld_iff _ _ _).1 hv
  obtain ⟨o1, o2, o3, _⟩ := on_bd y m d mo hv hy0 hy1 q0 q1
  have HY := hid (onY' y m mo)
  have HM := hid (onM' y m mo)
  have HD : Hid (onD y m d mo = if Civ.len (onY y m mo) (onM y m mo) < d then Civ.len (onY y m mo) (onM y m mo) else d) := rfl
  have HN : Hid (∀ w, Calls Tryz.prog 29 #[.int .i64 (onY y m mo), .int .i64 (onM y m mo), .int .i64 (onD y m d mo)] w fun e w' => e = .returned (.int .i64 (Civ.num (onY y m mo) (onM y m mo) (onD y m d mo))) ∧ w' = w) := fun w => rdays_any _ _ _ w o1.1 o1.2 o2.1 o2.2 o3.1 o3.2
  have nb := num_bd _ _ _ o1.1 o1.2 o2.1 o2.2 o3.1 o3.2
  have HK : Hid (addK y m d mo da = Civ.num (onY y m mo) (onM y m mo) (onD y m d mo) + da) := rfl
  have HR : Hid (∀ w, Calls Tryz.prog 92 #[.int .i64 (addK y m d mo da)] w fun e w' => e = .returned (.tuple #[.int .i64 (Civ.cY (addK y m d mo da)), .int .i64 (Civ.cM (addK y m d mo da)), .int .i64 (Civ.cD (addK y m d mo da))]) ∧ w' = w) := fun w => rcivil_any _ w (by rw [HK.out]; omega) (by rw [HK.out]; omega)
  clear hv v3 v4 o2 o3
  have HE : Hid (onD y m d mo = Civ.len (onY y m mo) (onM y m mo) ∧ Civ.len (onY y m mo) (onM y m mo) < d ∨ onD y m d mo = d ∧ ¬ Civ.len (onY y m mo) (onM y m mo) < d) := by
    unfold Hid onD; split
    · exact Or.inl ⟨rfl, ‹_›⟩
    · exact Or.inr ⟨rfl, ‹_›⟩
  clear HD
  rcases HE.out with ⟨e1, e2⟩ | ⟨e1, e2⟩
  all_goals
    clear HE
    rw [e1] at HN HK nb
    clear e1
    have c : Civ.cY (addK y m d mo da) < 1 ∨ 9999 < Civ.cY (addK y m d mo da) ∨ (1 ≤ Civ.cY (addK y m d mo da) ∧ Civ.cY (addK y m d mo da) ≤ 9999) := by omega
    rcases c with c | c | ⟨c, c'⟩
  all_goals
    go_enter Tryz.func90, Tryz.ntmps90
    go_wp2_with fail
    refine (rfloor_any _ _ _ (by omega) (by omega) (by omega) (by omega)).mono ?_
    rintro e w' ⟨rfl, rfl⟩
    go_wp2_with fail
    refine (rfloor_any _ _ _ (by omega) (by omega) (by omega) (by omega)).mono ?_
    rintro e w' ⟨rfl, rfl⟩
    rw [← HY.out]
    go_wp2_with fail
    rw [← HM.out]
    refine (rlen_any _ _ _).mono ?_
    rintro e w' ⟨rfl, rfl⟩
    go_wp2_with fail
    refine (HN.out _).mono ?_
    rintro e w' ⟨rfl, rfl⟩
    go_wp2_with fail
    rw [← HK.out]
    refine (HR.out _).mono ?_
    rintro e w' ⟨rfl, rfl⟩
    go_wp2
  · exact bodyPost_ret (v := .tuple #[.int .i64 0, .int .i64 0, .int .i64 0, .bool false]) (by simp [results, Tryz.results90, go_sem]) rfl ⟨by unfold addN; rw [inB_false (by omega)]; rfl, rfl⟩
  · exact bodyPost_ret (v := .tuple #[.int .i64 0, .int .i64 0, .int .i64 0, .bool false]) (by simp [results, Tryz.results90, go_sem]) rfl ⟨by unfold addN; rw [inB_false (by omega)]; rfl, rfl⟩
  · exact bodyPost_ret (v := .tuple #[.int .i64 (Civ.cY (addK y m d mo da)), .int .i64 (Civ.cM (addK y m d mo da)), .int .i64 (Civ.cD (addK y m d mo da)), .bool true]) (by simp [results, Tryz.results90, go_sem]) rfl ⟨by unfold addN; rw [inB_true (by omega) (by omega)]; rfl, rfl⟩
  · exact bodyPost_ret (v := .tuple #[.int .i64 0, .int .i64 0, .int .i64 0, .bool false]) (by simp [results, Tryz.results90, go_sem]) rfl ⟨by unfold addN; rw [inB_false (by omega)]; rfl, rfl⟩
  · exact bodyPost_ret (v := .tuple #[.int .i64 0, .int .i64 0, .int .i64 0, .bool false]) (by simp [results, Tryz.results90, go_sem]) rfl ⟨by unfold addN; rw [inB_false (by omega)]; rfl, rfl⟩
  · exact bodyPost_ret (v := .tuple #[.int .i64 (Civ.cY (addK y m d mo da)), .int .i64 (Civ.cM (addK y m d mo da)), .int .i64 (Civ.cD (addK y m d mo da)), .bool true]) (by simp [results, Tryz.results90, go_sem]) rfl ⟨by unfold addN; rw [inB_true (by omega) (by omega)]; rfl, rfl⟩

theorem radd_any (y m d mo da : Int) (w : World) (hv : Civ.vld y m d = true) (hy0 : 1 ≤ y) (hy1 : y ≤ 9999) :
    Calls Tryz.prog 90 #[.int .i64 y, .int .i64 m, .int .i64 d, .int .i64 mo, .int .i64 da] w fun e w' => e = .returned (addV y m d mo da) ∧ w' = w := by
  unfold addV addOk
  cases hf : inB mo (-1000000) 1000000 && inB da (-10000000) 10000000
  · have h : mo < -1000000 ∨ 1000000 < mo ∨ da < -10000000 ∨ 10000000 < da := by
      have h1 := hf
      unfold inB at h1
      simp at h1
      omega
    simpa [tup] using radd_far y m d mo da w h
  · have h := hf
    rw [Bool.and_eq_true, inB_iff, inB_iff] at h
    simpa [addN] using radd_near y m d mo da w hv hy0 hy1 h.1.1 h.1.2 h.2.1 h.2.2
end Go.Proofs.YtengcdodoblabaaGreatDoor.Ci
