/- What civil.Right answers of any moment at all, and the reference's Right: true just if the year is 1 to 9999, the calendar has the day, and the time is one of a day; where reckoning with a moment's numbers wraps round, no day that is comes back as that moment. -/
import Derived.Test.YtengcdodoblabaaGreatDoorCiRef
import Derived.Test.YtengcdodoblabaaGreatDoorCiExt
namespace Go.Proofs.YtengcdodoblabaaGreatDoor.Ci
open Go.RowKit

theorem div_bd2 (n d : Int) (hd : 2 ≤ d) (h3 : -9223372036854775808 ≤ n) (h4 : n ≤ 9223372036854775807) : -9223372036854775808 ≤ n / d ∧ n / d ≤ 9223372036854775807 := by
  have h1 := Int.emod_nonneg n (show d ≠ 0 by omega)
  have h5 := Int.emod_lt_of_pos n (show 0 < d by omega)
  have h6 := Int.mul_ediv_add_emod n d
  by_cases hq : 0 ≤ n / d
  · have : 2 * (n / d) ≤ d * (n / d) := Int.mul_le_mul_of_nonneg_right hd hq
    omega
  · have : d * (n / d) ≤ 2 * (n / d) := Int.mul_le_mul_of_nonpos_right hd (by omega)
    by_cases hn : 0 ≤ n
    · have := Int.ediv_nonneg hn (show 0 ≤ d by omega); omega
    · have h7 : n ≤ n / d := by
        have : (-n) * 1 ≤ (-n) * d := Int.mul_le_mul_of_nonneg_left (by omega) (by omega)
        exact Int.le_ediv_of_mul_le (by omega) (by rw [Int.neg_mul, Int.neg_mul] at this; omega)
      omega

set_option maxHeartbeats 400000 in
theorem cfloor_all (n d : Int) (w : World) (h1 : 2 ≤ d) (h2 : d ≤ 1000000) (h3 : -9223372036854775808 ≤ n) (h4 : n ≤ 9223372036854775807) :
    Calls Tryz.prog 117 #[.int .i64 n, .int .i64 d] w fun e w' => e = .returned (.int .i64 (n / d)) ∧ w' = w := by
  go_enter Tryz.func117, Tryz.ntmps117
  go_wp2
  · go_ret
    have hb := div_bd2 n d h1 h3 h4
    refine ⟨ret_int ?_, rfl⟩
    rw [floor_neg n d (by omega) ‹_›]
    exact IntWalk.wrap64_in _ (by omega)
  · go_ret
    exact ⟨ret_int (floor_pos n d (by omega) ‹_›), rfl⟩

theorem wrap_bd (x : Int) : -9223372036854775808 ≤ wrap64 x ∧ wrap64 x ≤ 9223372036854775807 := by unfold wrap64; omega

/-- days ahead of a month, of any number -/
def aMw (m : Int) : Int := wrap64 ((wrap64 (wrap64 (153 * m) + 2)).tdiv 5)
set_option maxHeartbeats 400000 in
theorem aMw_any (m : Int) (w : World) :
    Calls Tryz.prog 122 #[.int .i64 m] w fun e w' => e = .returned (.int .i64 (aMw m)) ∧ w' = w := by
  go_enter Tryz.func122, Tryz.ntmps122
  go_wp2
  go_ret
  exact ⟨rfl, rfl⟩

set_option maxHeartbeats 400000 in
theorem number_w (y m d : Int) (hy0 : 1 ≤ y) (hy1 : y ≤ 9999) :
    ∃ k : Int, (-9223372036854775808 ≤ k ∧ k ≤ 9223372036854775807) ∧ ∀ w, Calls Tryz.prog 114 #[.agg #[.int .i64 y, .int .i64 m, .int .i64 d]] w fun e w' => e = .returned (.int .i64 k) ∧ Below w.heap.size w w' := by
  by_cases hm : wrap64 (m - 3) < 0
  · refine ⟨wrap64 (wrap64 (wrap64 (wrap64 ((y - 1) / 400 * 146097 + Civ.aY (y - 1 - (y - 1) / 400 * 400) + aMw (wrap64 (wrap64 (m - 3) + 12))) + d) - 1) - 719468), wrap_bd _, fun w => ?_⟩
    have b1 := aY_bd (y - 1 - (y - 1) / 400 * 400) (by omega) (by omega)
    go_enter Tryz.func114, Tryz.ntmps114
    go_wp2
    go_quiet (fail)
    go_wp2_with (go_at_call 117; refine (cfloor_any _ _ _ (by omega) (by omega) (by omega) (by omega)).mono ?_; rintro e w' ⟨rfl, rfl⟩)
    go_quiet ((first | (go_at_call 121; refine (aY_any _ _ ?_ ?_).mono (fun e w' h => ⟨h.1, _, h.2⟩) <;> omega) | (go_at_call 122; refine (aMw_any _ _).mono (fun e w' h => ⟨h.1, _, h.2⟩))))
    go_wp2
    go_ret
    exact ⟨rfl, below_drewN (below_drewN ((Below.refl _ _).alloc (Nat.le_refl _) _) _) _⟩
  · refine ⟨wrap64 (wrap64 (wrap64 (wrap64 (y / 400 * 146097 + Civ.aY (y - y / 400 * 400) + aMw (wrap64 (m - 3))) + d) - 1) - 719468), wrap_bd _, fun w => ?_⟩
    have b1 := aY_bd (y - y / 400 * 400) (by omega) (by omega)
    go_enter Tryz.func114, Tryz.ntmps114
    go_wp2
    go_quiet (fail)
    go_wp2_with (go_at_call 117; refine (cfloor_any _ _ _ (by omega) (by omega) (by omega) (by omega)).mono ?_; rintro e w' ⟨rfl, rfl⟩)
    go_quiet ((first | (go_at_call 121; refine (aY_any _ _ ?_ ?_).mono (fun e w' h => ⟨h.1, _, h.2⟩) <;> omega) | (go_at_call 122; refine (aMw_any _ _).mono (fun e w' h => ⟨h.1, _, h.2⟩))))
    go_wp2
    go_ret
    exact ⟨rfl, below_drewN (below_drewN ((Below.refl _ _).alloc (Nat.le_refl _) _) _) _⟩

set_option maxHeartbeats 1000000 in
theorem dateOf_n (k0 n k : Int) (w : World) (hn : wrap64 (k0 + 719468) = n) (hk : n = k + 719468) :
    Calls Tryz.prog 113 #[.int .i64 k0] w fun e w' => e = .returned (.agg #[.int .i64 (Civ.cY k), .int .i64 (Civ.cM k), .int .i64 (Civ.cD k)]) ∧ Below w.heap.size w w' := by
  have nb := wrap_bd (k0 + 719468)
  rw [hn] at nb
  have hy := Civ.yr (n - n / 146097 * 146097) (by omega) (by omega)
  obtain ⟨y0, y1, y2, y3⟩ := hy
  have HY : Hid (Civ.ofY k = (n - n / 146097 * 146097 - (n - n / 146097 * 146097) / 1460 + (n - n / 146097 * 146097) / 36524 - (n - n / 146097 * 146097) / 146096) / 365) := by rw [hk]; rfl
  have eY : Civ.ofY k = Civ.yOf (n - n / 146097 * 146097) := by rw [hk]; rfl
  rw [← eY] at y0 y1 y2 y3
  have hd : (n - n / 146097 * 146097) - Civ.aY (Civ.ofY k) ≤ 365 := by split at y3 <;> omega
  have b1 := aY_bd (Civ.ofY k) y0 y1
  have HD : Hid (Civ.ofD k = (n - n / 146097 * 146097) - Civ.aY (Civ.ofY k)) := by rw [hk]; rfl
  have hd0 : 0 ≤ Civ.ofD k := by rw [HD.out]; omega
  have hd1 : Civ.ofD k ≤ 365 := by rw [HD.out]; omega
  have HM : Hid (Civ.ofM k = (5 * Civ.ofD k + 2) / 153) := rfl
  have m01 := mM_bd (Civ.ofD k) hd0 hd1
  have m0 : 0 ≤ Civ.ofM k := m01.1
  have m1 : Civ.ofM k ≤ 11 := m01.2
  have b2 := aM_bd (Civ.ofM k) m0 m1
  have hd9 : 0 ≤ (n - n / 146097 * 146097) - Civ.aY (Civ.ofY k) := by omega
  clear y2 y3 m01 eY
  have hr : wrap64 (n - wrap64 (n / 146097 * 146097)) = n - n / 146097 * 146097 := by unfold wrap64; omega
  by_cases hm : Civ.ofM k < 10
  · have HC : Hid (Civ.cY k = Civ.ofY k + n / 146097 * 400 ∧ Civ.cM k = Civ.ofM k + 3 ∧ Civ.cD k = Civ.ofD k - Civ.aM (Civ.ofM k) + 1) := by rw [hk]; exact ⟨if_pos hm, if_pos hm, rfl⟩
    clear hk
    go_enter Tryz.func113, Tryz.ntmps113
    go_wp2_with (go_at_call 117; refine (cfloor_all _ _ _ (by omega) (by omega) (by omega) (by omega)).mono ?_; rintro e w' ⟨rfl, rfl⟩)
    rw [← HY.out]
    refine (aY_any _ _ y0 (by omega)).mono ?_
    rintro e w' ⟨rfl, rfl⟩
    go_wp2_with fail
    rw [← HD.out, ← HM.out]
    refine (aM_any _ _ m0 (by omega)).mono ?_
    rintro e w' ⟨rfl, rfl⟩
    go_wp2
    refine bodyPost_ret (v := .agg #[.int .i64 (Civ.ofY k + n / 146097 * 400), .int .i64 (Civ.ofM k + 3), .int .i64 (Civ.ofD k - Civ.aM (Civ.ofM k) + 1)]) (by simp [results, Tryz.results113, go_sem]) rfl ⟨?_, ?_⟩
    · obtain ⟨e1, e2, e3⟩ := HC.out
      rw [e1, e2, e3]
    · exact (Below.refl _ _).alloc (Nat.le_refl _) _
  · have HC : Hid (Civ.cY k = Civ.ofY k + n / 146097 * 400 + 1 ∧ Civ.cM k = Civ.ofM k - 9 ∧ Civ.cD k = Civ.ofD k - Civ.aM (Civ.ofM k) + 1) := by rw [hk]; exact ⟨if_neg hm, if_neg hm, rfl⟩
    clear hk
    go_enter Tryz.func113, Tryz.ntmps113
    go_wp2_with (go_at_call 117; refine (cfloor_all _ _ _ (by omega) (by omega) (by omega) (by omega)).mono ?_; rintro e w' ⟨rfl, rfl⟩)
    rw [← HY.out]
    refine (aY_any _ _ y0 (by omega)).mono ?_
    rintro e w' ⟨rfl, rfl⟩
    go_wp2_with fail
    rw [← HD.out, ← HM.out]
    refine (aM_any _ _ m0 (by omega)).mono ?_
    rintro e w' ⟨rfl, rfl⟩
    go_wp2
    refine bodyPost_ret (v := .agg #[.int .i64 (Civ.ofY k + n / 146097 * 400 + 1), .int .i64 (Civ.ofM k - 9), .int .i64 (Civ.ofD k - Civ.aM (Civ.ofM k) + 1)]) (by simp [results, Tryz.results113, go_sem]) rfl ⟨?_, ?_⟩
    · obtain ⟨e1, e2, e3⟩ := HC.out
      rw [e1, e2, e3]
    · exact (Below.refl _ _).alloc (Nat.le_refl _) _

set_option maxHeartbeats 1000000 in
theorem isB_not (y m d a b : Int) (w : World) (h : inB y a b = true) (hv : Civ.vld y m d = false) (hy0 : 1 ≤ y) (hy1 : y ≤ 9999) :
    Calls Tryz.prog 98 #[.agg #[.int .i64 y, .int .i64 m, .int .i64 d], .int .i64 a, .int .i64 b] w fun e w' => e = .returned (.bool false) ∧ Below w.heap.size w w' := by
  have HC : Hid (∀ w, Calls Tryz.prog 99 #[.int .i64 y, .int .i64 a, .int .i64 b] w fun e w' => e = .returned (.bool true) ∧ w' = w) := fun w => by rw [← h]; exact cwithin_any y a b w
  clear h
  obtain ⟨k0, kb, hN⟩ := number_w y m d hy0 hy1
  have HN := hid hN
  clear hN
  obtain ⟨k, hk⟩ : ∃ k, wrap64 (k0 + 719468) = k + 719468 := ⟨wrap64 (k0 + 719468) - 719468, by omega⟩
  have HD : Hid (∀ w, Calls Tryz.prog 113 #[.int .i64 k0] w fun e w' => e = .returned (.agg #[.int .i64 (Civ.cY k), .int .i64 (Civ.cM k), .int .i64 (Civ.cD k)]) ∧ Below w.heap.size w w') := fun w => dateOf_n k0 _ k w rfl hk
  clear hk
  have hx : (Civ.cY k == y && Civ.cM k == m && Civ.cD k == d) = false := by
    cases hb : (Civ.cY k == y && Civ.cM k == m && Civ.cD k == d)
    · rfl
    · simp only [Bool.and_eq_true, beq_iff_eq] at hb
      obtain ⟨⟨e1, e2⟩, e3⟩ := hb
      have := (Civ.of_num k).2
      rw [e1, e2, e3, hv] at this
      cases this
  have heq0 : ∀ w, (binOp .eql 89 (.agg #[.int .i64 (Civ.cY k), .int .i64 (Civ.cM k), .int .i64 (Civ.cD k)]) (.agg #[.int .i64 y, .int .i64 m, .int .i64 d])).run Tryz.prog w = .ok (.bool false) w := fun w => by rw [eql_date, hx]
  clear hx hv hy0 hy1 kb
  generalize Civ.cY k = c1 at *
  generalize Civ.cM k = c2 at *
  generalize Civ.cD k = c3 at *
  go_enter Tryz.func98, Tryz.ntmps98
  go_wp2
  refine wp_region_ext2 (by kernel_rfl) (by kernel_rfl) (fun hne hcell => ?_)
  repeat (go_big_quiet_step ((first | (go_at_call 99; exact (HC.out _).mono (fun e w' h => ⟨h.1, _, h.2⟩)) | (go_at_call 114; exact (HN.out _).mono (fun e w' h => ⟨h.1, Ext.to _ h.2⟩)) | (go_at_call 113; exact (HD.out _).mono (fun e w' h => ⟨h.1, Ext.to _ h.2⟩)))))
  refine wpQuiet_nil ?_
  rintro _ ⟨s, rfl⟩
  go_wp2
  go_ret
  exact ⟨rfl, ((Below.refl _ _).alloc (Nat.le_refl _) _).trans (s.below.mono (by simp))⟩

theorem isB_any (y m d : Int) (w : World) :
    Calls Tryz.prog 98 #[.agg #[.int .i64 y, .int .i64 m, .int .i64 d], .int .i64 1, .int .i64 9999] w fun e w' => e = .returned (.bool (inB y 1 9999 && Civ.vld y m d)) ∧ Below w.heap.size w w' := by
  cases h : inB y 1 9999
  · exact isB_out y m d 1 9999 w h
  · obtain ⟨h0, h1⟩ := inB_iff.1 h
    cases hv : Civ.vld y m d
    · exact isB_not y m d 1 9999 w h hv h0 h1
    · exact isB_in y m d 1 9999 w h hv (by omega) (by omega)
end Go.Proofs.YtengcdodoblabaaGreatDoor.Ci
