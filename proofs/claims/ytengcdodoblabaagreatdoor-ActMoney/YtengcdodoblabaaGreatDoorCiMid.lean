/- What package civil answers of days that are: the number of a day, the way back from it, whether a day is between two years, weekdays, lengths; each call leaves what was in memory as it was. -/
import Derived.Test.YtengcdodoblabaaGreatDoorCiLeaf
import Derived.Deep.QuietTactic
import Derived.BigQuiet
import Derived.WalkSmall
import Derived.ChangeKeysEq
namespace Go.Proofs.YtengcdodoblabaaGreatDoor.Ci
open Go.RowKit
theorem aY_bd (y : Int) (h0 : 0 ≤ y) (h1 : y ≤ 399) : 0 ≤ Civ.aY y ∧ Civ.aY y ≤ 146097 := by unfold Civ.aY; omega
theorem aM_bd (m : Int) (h0 : 0 ≤ m) (h1 : m ≤ 11) : 0 ≤ Civ.aM m ∧ Civ.aM m ≤ 400 := by unfold Civ.aM; omega
theorem num_lo (y m d : Int) (h3 : m < 3) : Civ.num y m d = (y - 1) / 400 * 146097 + Civ.aY (y - 1 - (y - 1) / 400 * 400) + Civ.aM (m - 3 + 12) + d - 1 - 719468 := by
  unfold Civ.num Civ.mY Civ.mM; simp only [if_pos h3]; rw [show m + 9 = m - 3 + 12 by omega]
theorem num_hi (y m d : Int) (h3 : ¬ m < 3) : Civ.num y m d = y / 400 * 146097 + Civ.aY (y - y / 400 * 400) + Civ.aM (m - 3) + d - 1 - 719468 := by
  unfold Civ.num Civ.mY Civ.mM; simp only [if_neg h3]

set_option maxHeartbeats 400000 in
theorem number_any (y m d : Int) (w : World) (hy0 : -1000000 ≤ y) (hy1 : y ≤ 1000000) (hm0 : 1 ≤ m) (hm1 : m ≤ 12) (hd0 : 1 ≤ d) (hd1 : d ≤ 31) :
    Calls Tryz.prog 114 #[.agg #[.int .i64 y, .int .i64 m, .int .i64 d]] w fun e w' => e = .returned (.int .i64 (Civ.num y m d)) ∧ Below w.heap.size w w' := by
  by_cases h3 : m < 3
  · have HN : Hid (Civ.num y m d = (y - 1) / 400 * 146097 + Civ.aY (y - 1 - (y - 1) / 400 * 400) + Civ.aM (m - 3 + 12) + d - 1 - 719468) := num_lo y m d h3
    have b1 := aY_bd (y - 1 - (y - 1) / 400 * 400) (by omega) (by omega)
    have b2 := aM_bd (m - 3 + 12) (by omega) (by omega)
    go_enter Tryz.func114, Tryz.ntmps114
    go_wp2
    go_quiet (fail)
    go_wp2_with (go_at_call 117; refine (cfloor_any _ _ _ (by omega) (by omega) (by omega) (by omega)).mono ?_; rintro e w' ⟨rfl, rfl⟩)
    go_quiet ((first | (go_at_call 121; refine (aY_any _ _ ?_ ?_).mono (fun e w' h => ⟨h.1, _, h.2⟩) <;> omega) | (go_at_call 122; refine (aM_any _ _ ?_ ?_).mono (fun e w' h => ⟨h.1, _, h.2⟩) <;> omega)))
    go_wp2
    go_ret
    exact ⟨ret_int HN.out.symm, below_drewN (below_drewN ((Below.refl _ _).alloc (Nat.le_refl _) _) _) _⟩
  · have HN : Hid (Civ.num y m d = y / 400 * 146097 + Civ.aY (y - y / 400 * 400) + Civ.aM (m - 3) + d - 1 - 719468) := num_hi y m d h3
    have b1 := aY_bd (y - y / 400 * 400) (by omega) (by omega)
    have b2 := aM_bd (m - 3) (by omega) (by omega)
    go_enter Tryz.func114, Tryz.ntmps114
    go_wp2
    go_quiet (fail)
    go_wp2_with (go_at_call 117; refine (cfloor_any _ _ _ (by omega) (by omega) (by omega) (by omega)).mono ?_; rintro e w' ⟨rfl, rfl⟩)
    go_quiet ((first | (go_at_call 121; refine (aY_any _ _ ?_ ?_).mono (fun e w' h => ⟨h.1, _, h.2⟩) <;> omega) | (go_at_call 122; refine (aM_any _ _ ?_ ?_).mono (fun e w' h => ⟨h.1, _, h.2⟩) <;> omega)))
    go_wp2
    go_ret
    exact ⟨ret_int HN.out.symm, below_drewN (below_drewN ((Below.refl _ _).alloc (Nat.le_refl _) _) _) _⟩

theorem mM_bd (n : Int) (h0 : 0 ≤ n) (h1 : n ≤ 365) : 0 ≤ (5 * n + 2) / 153 ∧ (5 * n + 2) / 153 ≤ 11 := by omega
set_option maxHeartbeats 1000000 in
theorem dateOf_in (k : Int) (w : World) (h0 : -9000000000000000000 ≤ k) (h1 : k ≤ 9000000000000000000) :
    Calls Tryz.prog 113 #[.int .i64 k] w fun e w' => e = .returned (.agg #[.int .i64 (Civ.cY k), .int .i64 (Civ.cM k), .int .i64 (Civ.cD k)]) ∧ Below w.heap.size w w' := by
  have hy := Civ.yr (k + 719468 - (k + 719468) / 146097 * 146097) (by omega) (by omega)
  obtain ⟨y0, y1, y2, y3⟩ := hy
  have hd : (k + 719468 - (k + 719468) / 146097 * 146097) - Civ.aY (Civ.ofY k) ≤ 365 := by
    unfold Civ.ofY; split at y3 <;> omega
  have y2' : Civ.aY (Civ.ofY k) ≤ (k + 719468 - (k + 719468) / 146097 * 146097) := y2
  have y0' : 0 ≤ Civ.ofY k := y0
  have y1' : Civ.ofY k ≤ 399 := y1
  have HY : Hid (Civ.ofY k = (k + 719468 - (k + 719468) / 146097 * 146097 - (k + 719468 - (k + 719468) / 146097 * 146097) / 1460 + (k + 719468 - (k + 719468) / 146097 * 146097) / 36524 - (k + 719468 - (k + 719468) / 146097 * 146097) / 146096) / 365) := rfl
  have b1 := aY_bd (Civ.ofY k) y0' y1'
  have HD : Hid (Civ.ofD k = (k + 719468 - (k + 719468) / 146097 * 146097) - Civ.aY (Civ.ofY k)) := rfl
  have hd0 : 0 ≤ Civ.ofD k := by rw [HD.out]; omega
  have hd1 : Civ.ofD k ≤ 365 := by rw [HD.out]; omega
  have HM : Hid (Civ.ofM k = (5 * Civ.ofD k + 2) / 153) := rfl
  have m01 := mM_bd (Civ.ofD k) hd0 hd1
  have m0 : 0 ≤ Civ.ofM k := m01.1
  have m1 : Civ.ofM k ≤ 11 := m01.2
  have b2 := aM_bd (Civ.ofM k) m0 m1
  clear y0 y1 y2 y3 m01
  have hd9 : 0 ≤ (k + 719468 - (k + 719468) / 146097 * 146097) - Civ.aY (Civ.ofY k) := by omega
  clear y2'
  by_cases hm : Civ.ofM k < 10
  · have HC : Hid (Civ.cY k = Civ.ofY k + (k + 719468) / 146097 * 400 ∧ Civ.cM k = Civ.ofM k + 3 ∧ Civ.cD k = Civ.ofD k - Civ.aM (Civ.ofM k) + 1) := ⟨if_pos hm, if_pos hm, rfl⟩
    go_enter Tryz.func113, Tryz.ntmps113
    go_wp2_with (go_at_call 117; refine (cfloor_any _ _ _ (by omega) (by omega) (by omega) (by omega)).mono ?_; rintro e w' ⟨rfl, rfl⟩)
    rw [← HY.out]
    refine (aY_any _ _ y0' (by omega)).mono ?_
    rintro e w' ⟨rfl, rfl⟩
    go_wp2_with fail
    rw [← HD.out, ← HM.out]
    refine (aM_any _ _ m0 (by omega)).mono ?_
    rintro e w' ⟨rfl, rfl⟩
    go_wp2
    refine bodyPost_ret (v := .agg #[.int .i64 (Civ.ofY k + (k + 719468) / 146097 * 400), .int .i64 (Civ.ofM k + 3), .int .i64 (Civ.ofD k - Civ.aM (Civ.ofM k) + 1)]) (by simp [results, Tryz.results113, go_sem]) rfl ⟨?_, ?_⟩
    · obtain ⟨e1, e2, e3⟩ := HC.out
      rw [e1, e2, e3]
    · exact (Below.refl _ _).alloc (Nat.le_refl _) _
  · have HC : Hid (Civ.cY k = Civ.ofY k + (k + 719468) / 146097 * 400 + 1 ∧ Civ.cM k = Civ.ofM k - 9 ∧ Civ.cD k = Civ.ofD k - Civ.aM (Civ.ofM k) + 1) := ⟨if_neg hm, if_neg hm, rfl⟩
    go_enter Tryz.func113, Tryz.ntmps113
    go_wp2_with (go_at_call 117; refine (cfloor_any _ _ _ (by omega) (by omega) (by omega) (by omega)).mono ?_; rintro e w' ⟨rfl, rfl⟩)
    rw [← HY.out]
    refine (aY_any _ _ y0' (by omega)).mono ?_
    rintro e w' ⟨rfl, rfl⟩
    go_wp2_with fail
    rw [← HD.out, ← HM.out]
    refine (aM_any _ _ m0 (by omega)).mono ?_
    rintro e w' ⟨rfl, rfl⟩
    go_wp2
    refine bodyPost_ret (v := .agg #[.int .i64 (Civ.ofY k + (k + 719468) / 146097 * 400 + 1), .int .i64 (Civ.ofM k - 9), .int .i64 (Civ.ofD k - Civ.aM (Civ.ofM k) + 1)]) (by simp [results, Tryz.results113, go_sem]) rfl ⟨?_, ?_⟩
    · obtain ⟨e1, e2, e3⟩ := HC.out
      rw [e1, e2, e3]
    · exact (Below.refl _ _).alloc (Nat.le_refl _) _
theorem info3 : (Tryz.prog.info? 3).isSome = true := by kernel_rfl
theorem cells3 : Tryz.prog.cellsOf 3 = 1 := by kernel_rfl
theorem part_int (w : World) (k : Int) (xs : Array Value) (i : Nat) (h : xs[i]? = some (.int .i64 k)) : (part 3 xs i).run Tryz.prog w = .ok (.int .i64 k) w := by
  simp [part, h]
theorem equalIn_int3 (w : World) (a b : Int) : (Op.equalIn 9999 3 (.int .i64 a) (.int .i64 b)).run Tryz.prog w = .ok (a == b) w := by
  have h := run_equalIn_int (P := Tryz.prog) w 9998 3 .i64 .i64 a b Tryz.underlying3
  exact h
theorem eqItems_step (w : World) (x x' : Int) (xs ys : Array Value) (i : Nat) (is : List Nat) (h : xs[i * 1]? = some (.int .i64 x)) (h' : ys[i * 1]? = some (.int .i64 x')) :
    (Op.eqItems 9999 3 1 xs ys (i :: is)).run Tryz.prog w = if (x == x') = true then (Op.eqItems 9999 3 1 xs ys is).run Tryz.prog w else .ok false w := by
  simp only [Op.eqItems, Sem.run_bind, part_int w x xs _ h, part_int w x' ys _ h', equalIn_int3, Result.andThen_ok]
  cases x == x' <;> simp
theorem eqItems_date (w : World) (y m d y' m' d' : Int) : (Op.eqItems 9999 3 1 #[.int .i64 y, .int .i64 m, .int .i64 d] #[.int .i64 y', .int .i64 m', .int .i64 d'] [0, 1, 2]).run Tryz.prog w = .ok ((y == y') && (m == m') && (d == d')) w := by
  rw [eqItems_step w y y' _ _ 0 _ rfl rfl, eqItems_step w m m' _ _ 1 _ rfl rfl, eqItems_step w d d' _ _ 2 _ rfl rfl]
  cases y == y' <;> cases m == m' <;> cases d == d' <;> simp [Op.eqItems]
theorem eql_date (w : World) (y m d y' m' d' : Int) : (binOp .eql 89 (.agg #[.int .i64 y, .int .i64 m, .int .i64 d]) (.agg #[.int .i64 y', .int .i64 m', .int .i64 d'])).run Tryz.prog w = .ok (.bool ((y == y') && (m == m') && (d == d'))) w := by
  obtain ⟨i, hi⟩ := Option.isSome_iff_exists.1 info3
  simp only [binOp]
  have h1 := run_equalIn_array (w := w) (P := Tryz.prog) 9999 #[.int .i64 y, .int .i64 m, .int .i64 d] #[.int .i64 y', .int .i64 m', .int .i64 d'] Tryz.underlying89 hi
  rw [cells3, show List.range 3 = [0, 1, 2] from rfl, eqItems_date] at h1
  simp [Op.equal, Op.maxDepth, h1]
/-- a world that has grown out of w: below w's size it is as w is -/
structure Ext (w : World) where
  out : World
  below : Below w.heap.size w out

theorem Ext.cells {w : World} (s : Ext w) (b o : Nat) (h : b < w.heap.size) : s.out.cell? ⟨b, o, none⟩ = w.cell? ⟨b, o, none⟩ := s.below.cell (p := ⟨b, o, none⟩) h
theorem Ext.to {w w' : World} (s : Ext w) (h : Below s.out.heap.size s.out w') : ∃ s' : Ext w, w' = s'.out :=
  ⟨⟨w', s.below.trans (h.mono s.below.size)⟩, rfl⟩
theorem Ext.same {w : World} (s : Ext w) : ∃ s' : Ext w, s.out = s'.out := ⟨s, rfl⟩

section
variable {P : Program}
theorem wp_region_ext {id : Nat} {Q : Exit → Act → World → Prop} {a : Act} {w : World} {l : List Oper} (hm : P.follows .mixedOrders = true) (hB : Region.lexB .any l.toArray = true)
    (h : wpQuiet P l.toArray (fun w' => ∃ s : Ext w, w' = s.out) (fun a' => ∀ w', (∃ s : Ext w, w' = s.out) → Q .normal a' w') l a) : (Code.region id l.toArray true).wp P Q a w :=
  wp_region_quiet (C := fun w' => ∃ s : Ext w, w' = s.out) hm hB ⟨⟨w.drew, (Below.refl _ _).drew⟩, rfl⟩ (by simpa using h)
end

set_option maxHeartbeats 400000 in
theorem isB_out (y m d a b : Int) (w : World) (h : inB y a b = false) :
    Calls Tryz.prog 98 #[.agg #[.int .i64 y, .int .i64 m, .int .i64 d], .int .i64 a, .int .i64 b] w fun e w' => e = .returned (.bool false) ∧ Below w.heap.size w w' := by
  have HC : Hid (∀ w, Calls Tryz.prog 99 #[.int .i64 y, .int .i64 a, .int .i64 b] w fun e w' => e = .returned (.bool false) ∧ w' = w) := fun w => by rw [← h]; exact cwithin_any y a b w
  clear h
  go_enter Tryz.func98, Tryz.ntmps98
  go_wp2
  go_quiet ((go_at_call 99; exact (HC.out _).mono (fun e w' h => ⟨h.1, _, h.2⟩)))
  go_wp2
  go_ret
  exact ⟨rfl, below_drewN ((Below.refl _ _).alloc (Nat.le_refl _) _) _⟩

theorem num_bd (y m d : Int) (hy0 : -1000000 ≤ y) (hy1 : y ≤ 1000000) (hm0 : 1 ≤ m) (hm1 : m ≤ 12) (hd0 : 1 ≤ d) (hd1 : d ≤ 31) : -400000000 ≤ Civ.num y m d ∧ Civ.num y m d ≤ 400000000 := by
  unfold Civ.num Civ.aY Civ.aM Civ.mY Civ.mM; split <;> omega
theorem len_le (y m : Int) : 28 ≤ Civ.len y m ∧ Civ.len y m ≤ 31 := by
  unfold Civ.len; split; split <;> omega; split <;> omega

set_option maxHeartbeats 1000000 in
theorem isB_in (y m d a b : Int) (w : World) (h : inB y a b = true) (hv : Civ.vld y m d = true) (hy0 : -1000000 ≤ y) (hy1 : y ≤ 1000000) :
    Calls Tryz.prog 98 #[.agg #[.int .i64 y, .int .i64 m, .int .i64 d], .int .i64 a, .int .i64 b] w fun e w' => e = .returned (.bool true) ∧ Below w.heap.size w w' := by
  have HC : Hid (∀ w, Calls Tryz.prog 99 #[.int .i64 y, .int .i64 a, .int .i64 b] w fun e w' => e = .returned (.bool true) ∧ w' = w) := fun w => by rw [← h]; exact cwithin_any y a b w
  clear h
  obtain ⟨v1, v2, v3, v4⟩ := (Civ.vld_iff _ _ _).1 hv
  have hl := len_le y m
  have HN : Hid (∀ w, Calls Tryz.prog 114 #[.agg #[.int .i64 y, .int .i64 m, .int .i64 d]] w fun e w' => e = .returned (.int .i64 (Civ.num y m d)) ∧ Below w.heap.size w w') := fun w => number_any y m d w hy0 hy1 v1 v2 v3 (by omega)
  have hb := num_bd y m d hy0 hy1 v1 v2 v3 (by omega)
  have HD : Hid (∀ w, Calls Tryz.prog 113 #[.int .i64 (Civ.num y m d)] w fun e w' => e = .returned (.agg #[.int .i64 y, .int .i64 m, .int .i64 d]) ∧ Below w.heap.size w w') := fun w => by
    obtain ⟨e1, e2, e3⟩ := Civ.of_back y m d hv
    have := dateOf_in (Civ.num y m d) w (by omega) (by omega)
    rw [e1, e2, e3] at this
    exact this
  clear hv v1 v2 v3 v4 hl hb hy0 hy1
  generalize Civ.num y m d = k at *
  go_enter Tryz.func98, Tryz.ntmps98
  go_wp2
  have heq : ∀ w, (binOp .eql 89 (.agg #[.int .i64 y, .int .i64 m, .int .i64 d]) (.agg #[.int .i64 y, .int .i64 m, .int .i64 d])).run Tryz.prog w = .ok (.bool true) w := fun w => by rw [eql_date]; simp
  have hcell := fun s : Ext (w.alloc (Obj.cells #[Value.int IntKind.i64 y, Value.int IntKind.i64 m, Value.int IntKind.i64 d] 89)) => fun b o => s.cells b o
  have hne : Nonempty (Ext (w.alloc (Obj.cells #[Value.int IntKind.i64 y, Value.int IntKind.i64 m, Value.int IntKind.i64 d] 89))) := ⟨⟨_, Below.refl _ _⟩⟩
  refine wp_region_ext (by kernel_rfl) (by kernel_rfl) ?_
  repeat (go_big_quiet_step ((first | (go_at_call 99; exact (HC.out _).mono (fun e w' h => ⟨h.1, _, h.2⟩)) | (go_at_call 114; exact (HN.out _).mono (fun e w' h => ⟨h.1, Ext.to _ h.2⟩)) | (go_at_call 113; exact (HD.out _).mono (fun e w' h => ⟨h.1, Ext.to _ h.2⟩)))))
  refine wpQuiet_nil ?_
  rintro _ ⟨s, rfl⟩
  go_wp2
  go_ret
  exact ⟨rfl, ((Below.refl _ _).alloc (Nat.le_refl _) _).trans (s.below.mono (by simp))⟩
end Go.Proofs.YtengcdodoblabaaGreatDoor.Ci
