/- What the reference's own calls Norm, Scaled, Cmp answer: the same as package dec's; they leave the world as it is. -/
import Derived.Test.YtengcdodoblabaaGreatDoorDeMain
namespace Go.Proofs.YtengcdodoblabaaGreatDoor.De
open Go.RowKit

set_option maxHeartbeats 1000000 in
theorem rnorm_any (m : Int) (s : Nat) (w : World) (hs : s ≤ 18) (h0 : -1000000000000000000 < m) (h1 : m < 1000000000000000000) :
    Calls Tryz.prog 94 #[.int .i64 m, .int .i64 s] w fun e w' => e = .returned (.tuple #[.int .i64 (Dc.norm m s).1, .int .i64 (Dc.norm m s).2]) ∧ w' = w := by
  go_enter Tryz.func94, Tryz.ntmps94
  go_wp2_with fail
  go_loop [0, 1] (fun x y => ∃ (n : Int) (t : Nat), x = .int .i64 n ∧ y = .int .i64 t ∧ t ≤ 18 ∧ -1000000000000000000 < n ∧ n < 1000000000000000000 ∧ Hid (Dc.norm n t = Dc.norm m s)) (fun _ y => (intOf y).toNat)
  case atStart => exact ⟨m, s, rfl, rfl, hs, h0, h1, hid rfl⟩
  case round =>
    obtain ⟨n, t, rfl, rfl, ht, n0, n1, he⟩ := hrel
    by_cases hz : t = 0
    · subst hz
      go_wp2
      go_ret2
      rw [← he.out]
      exact ⟨rfl, rfl⟩
    · have hz2 : decide (0 < (t : Int)) = true := by simp; omega
      by_cases hm : n % 10 = 0
      · have HE := hid (td0 n 10 hm)
        have HN := hid (norm_step n t (by omega) hm)
        have hw : wrap64 (n.tdiv 10) = n.tdiv 10 := by rw [td0 n 10 hm]; exact IntWalk.wrap64_in _ (by omega)
        have hm' : (n.tmod 10 == 0) = true := by rw [beq_iff_eq, tm0 n 10 (by decide)]; exact hm
        go_wp2
        go_round
        case rel => exact ⟨n / 10, t - 1, by rw [HE.out], by rw [show ((t - 1 : Nat) : Int) = (t : Int) - 1 by omega], by omega, by omega, by omega, HN.out.symm.trans he.out⟩
        case measure => simp [intOf]; omega
      · have HN := hid (norm_stop n t (Or.inr hm))
        have hm' : (n.tmod 10 == 0) = false := by rw [beq_eq_false_iff_ne, ne_eq, tm0 n 10 (by decide)]; exact hm
        go_wp2
        go_ret2
        rw [← he.out, HN.out]
        exact ⟨rfl, rfl⟩

set_option maxHeartbeats 1000000 in
theorem rscaled_any (m : Int) (s to : Nat) (w : World) (hs : s ≤ 18) (ht : to ≤ 18) (h0 : -1000000000000000000 < m) (h1 : m < 1000000000000000000) :
    Calls Tryz.prog 112 #[.int .i64 m, .int .i64 s, .int .i64 to] w fun e w' => e = .returned (scV (Dc.scaled m s to)) ∧ w' = w := by
  rw [Dc.scaled_eq m s to h0 h1]
  have HN : Hid (∀ w, Calls Tryz.prog 94 #[.int .i64 m, .int .i64 s] w fun e w' => e = .returned (.tuple #[.int .i64 (Dc.norm m s).1, .int .i64 (Dc.norm m s).2]) ∧ w' = w) := fun w => rnorm_any m s w hs h0 h1
  have nb := norm_bd' m s h0 h1
  have nl := Dc.norm_le s m
  unfold Dc.rscaled
  generalize (Dc.norm m s).1 = n at *
  generalize (Dc.norm m s).2 = t at *
  by_cases htt : to < t
  · rw [if_pos htt]
    go_enter Tryz.func112, Tryz.ntmps112
    go_wp2_with fail
    refine (HN.out _).mono ?_
    rintro e w1 ⟨rfl, rfl⟩
    go_wp2
    go_ret2
    exact ⟨rfl, rfl⟩
  · rw [if_neg htt]
    have HT : Hid (∀ w, Calls Tryz.prog 111 #[.int .i64 ((to : Int) - (t : Int))] w fun e w' => e = .returned (.int .i64 (Dc.ten (to - t))) ∧ w' = w) := fun w => by
      have := rten_any (to - t) w (by omega)
      rwa [show ((to - t : Nat) : Int) = (to : Int) - (t : Int) by omega] at this
    have hp := ten_bd (to - t) (by omega)
    have b1 := Dc.le_div n (Dc.ten (to - t)) (by omega)
    have b2 := Dc.le_div (-n) (Dc.ten (to - t)) (by omega)
    rw [Int.neg_mul] at b2
    generalize Dc.ten (to - t) = p at *
    have hne : p ≠ 0 := by omega
    have hq : (999999999999999999 : Int).tdiv p = 999999999999999999 / p := Int.tdiv_eq_ediv_of_nonneg (by decide)
    have hq0 : 0 ≤ 999999999999999999 / p := Int.ediv_nonneg (by decide) (by omega)
    have hq1 : 999999999999999999 / p ≤ 999999999999999999 := Int.ediv_le_self _ (by decide)
    by_cases hb : 999999999999999999 / p < n ∨ 999999999999999999 / p < -n
    · rw [if_pos hb]
      generalize 999999999999999999 / p = q at *
      clear b1 b2
      rcases hb with hb | hb
      · go_enter Tryz.func112, Tryz.ntmps112
        go_wp2_with fail
        refine (HN.out _).mono ?_
        rintro e w1 ⟨rfl, rfl⟩
        go_wp2_with fail
        refine (HT.out _).mono ?_
        rintro e w1 ⟨rfl, rfl⟩
        go_wp2
        go_ret2
        exact ⟨rfl, rfl⟩
      · go_enter Tryz.func112, Tryz.ntmps112
        go_wp2_with fail
        refine (HN.out _).mono ?_
        rintro e w1 ⟨rfl, rfl⟩
        go_wp2_with fail
        refine (HT.out _).mono ?_
        rintro e w1 ⟨rfl, rfl⟩
        go_wp2
        go_ret2
        exact ⟨rfl, rfl⟩
    · rw [if_neg hb]
      have hm0 : -1000000000000000000 < n * p := by omega
      have hm1 : n * p < 1000000000000000000 := by omega
      have hw : wrap64 (n * p) = n * p := IntWalk.wrap64_in _ (by omega)
      have c1 : ¬ 999999999999999999 / p < n := fun h => hb (Or.inl h)
      have c2 : ¬ 999999999999999999 / p < -n := fun h => hb (Or.inr h)
      generalize 999999999999999999 / p = q at *
      clear b1 b2 hb
      by_cases hn : 0 ≤ n
      · go_enter Tryz.func112, Tryz.ntmps112
        go_wp2_with fail
        refine (HN.out _).mono ?_
        rintro e w1 ⟨rfl, rfl⟩
        go_wp2_with fail
        refine (HT.out _).mono ?_
        rintro e w1 ⟨rfl, rfl⟩
        go_wp2
        go_ret2
        exact ⟨rfl, rfl⟩
      · go_enter Tryz.func112, Tryz.ntmps112
        go_wp2_with fail
        refine (HN.out _).mono ?_
        rintro e w1 ⟨rfl, rfl⟩
        go_wp2_with fail
        refine (HT.out _).mono ?_
        rintro e w1 ⟨rfl, rfl⟩
        go_wp2
        go_ret2
        exact ⟨rfl, rfl⟩

theorem ten_cast (s : Nat) (h : s ≤ 18) (w : World) :
    Calls Tryz.prog 111 #[.int .i64 (18 - (s : Int))] w fun e w' => e = .returned (.int .i64 (Dc.ten (18 - s))) ∧ w' = w := by
  have := rten_any (18 - s) w (by omega)
  rwa [show ((18 - s : Nat) : Int) = 18 - (s : Int) by omega] at this

end Go.Proofs.YtengcdodoblabaaGreatDoor.De
