/- CivilRight answers true of every moment and every four ints: civil.Right is the reference's Right of that moment, true of a moment that is, and the reference's again of one of which one thing was turned. No condition. -/
import Derived.Test.YtokigbdnihamiaaRows
import Derived.Test.YtokigbdnihamiaaBase
import Derived.Test.YtokigbdnihamiaaRightMore
import Derived.ProofKit
import Derived.ChangeOld
import Derived.OpenShut
import Derived.Below
namespace Go.Proofs.Ytokigbdnihamiaa
open Go.ChangeShapes Go.WideShapes Go.ChangeAt Go.RowKit

theorem clock_day (t : Int) : clockB (t % 24) (t.tdiv 24 % 60) (t.tdiv 1440 % 60) = true := by
  unfold clockB; rw [inB_true (by omega) (by omega), inB_true (by omega) (by omega), inB_true (by omega) (by omega)]; rfl

theorem turn_same (w : World) (X off : Nat) (z u : Value) (S : Obj) (hX : X < w.heap.size) (hx : w.cell? ⟨X, off, none⟩ = some u) : ((w.setCell ⟨X, off, none⟩ z).alloc S).cell? ⟨X, off, none⟩ = some z := by
  have h1 : ((w.setCell ⟨X, off, none⟩ z).alloc S).cell? ⟨X, off, none⟩ = (w.setCell ⟨X, off, none⟩ z).cell? ⟨X, off, none⟩ := World.cell?_alloc_past S X off (by simpa using hX)
  rw [h1]
  exact World.cell?_setCell_same _ _ _ hx
theorem turn_other (w : World) (X off b o : Nat) (z : Value) (S : Obj) (h : b ≠ X ∨ o ≠ off) (hb : b < w.heap.size) : ((w.setCell ⟨X, off, none⟩ z).alloc S).cell? ⟨b, o, none⟩ = w.cell? ⟨b, o, none⟩ := by
  have h1 : ((w.setCell ⟨X, off, none⟩ z).alloc S).cell? ⟨b, o, none⟩ = (w.setCell ⟨X, off, none⟩ z).cell? ⟨b, o, none⟩ := World.cell?_alloc_past S b o (by simpa using hb)
  rw [h1]
  refine World.cell?_setCell_other _ _ _ _ ?_
  intro e
  simp at e
  omega

set_option maxRecDepth 100000 in
set_option maxHeartbeats 8000000 in
theorem walk (r1 r2 r3 r4 r5 r6 n t q v : Int) (w : World) (wn : (Lit.int .i64 n).wf = true) (wt : (Lit.int .i64 t).wf = true) :
    Calls Try.prog 6 #[.agg #[.int .i64 r1, .int .i64 r2, .int .i64 r3, .int .i64 r4, .int .i64 r5, .int .i64 r6], .int .i64 n, .int .i64 t, .int .i64 q, .int .i64 v] w fun e w' => e = .returned (.bool true) ∧ Below w.heap.size w w' := by
  obtain ⟨n0, n1⟩ := bounds_i64 wn
  obtain ⟨t0, t1⟩ := bounds_i64 wt
  clear wn wt
  have HK : Hid (∀ w, Calls Try.prog 9 #[] w fun e w' => e = .returned (.bool true) ∧ Below w.heap.size w w') := known_any
  have HY : Hid (∀ w, Calls Try.prog 10 #[.int .i64 n, .bool false] w fun e w' => e = .returned (.tuple #[.int .i64 (dayY n false), .int .i64 (dayM n), .int .i64 (dayD n false)]) ∧ w' = w) := fun w => day_any n false w n0 n1
  have hv := day_vld n false
  have hy := dayY_narrow n
  have HQ : Hid (∀ w, Calls Try.prog 17 #[.int .i64 q, .int .i64 6] w fun e w' => e = .returned (.int .i64 (q % 6)) ∧ w' = w) := fun w => lwithin_any q 6 w (by omega) (by omega)
  have hq : q % 6 = 0 ∨ q % 6 = 1 ∨ q % 6 = 2 ∨ q % 6 = 3 ∨ q % 6 = 4 ∨ q % 6 = 5 := by omega
  clear n0 n1
  generalize q % 6 = c at *
  generalize dayY n false = y at *
  generalize dayM n = m at *
  generalize dayD n false = d at *
  have hR : rtB y m d (t % 24) (t.tdiv 24 % 60) (t.tdiv 1440 % 60) = true := by
    unfold rtB dayB; rw [inB_true hy.1 hy.2, hv, clock_day]; rfl
  have H0 : Hid (∀ w, Calls Try.prog 20 #[.agg #[.int .i64 y, .int .i64 m, .int .i64 d, .int .i64 (t % 24), .int .i64 (t.tdiv 24 % 60), .int .i64 (t.tdiv 1440 % 60)]] w fun e w' => e = .returned (.bool true) ∧ Below w.heap.size w w') := fun w => by rw [← hR]; exact right_any _ _ _ _ _ _ w
  clear hR hv hy
  go_enter Try.func6, Try.ntmps6
  go_wp2_with fail
  refine (HK.out _).mono ?_
  rintro e w1 ⟨rfl, b1⟩
  obtain ⟨hc1, hf1⟩ := bcell b1
  have hz1 := b1.size
  go_wp2_with fail
  refine (HY.out _).mono ?_
  rintro e w2 ⟨rfl, rfl⟩
  go_wp2_with (go_at_call 17; refine (lwithin_any _ _ _ (by omega) (by omega)).mono ?_; rintro e w' ⟨rfl, rfl⟩)
  refine (H0.out _).mono ?_
  rintro e w5 ⟨rfl, b5⟩
  obtain ⟨hc5, hf5⟩ := bcell b5
  have z1 : w.heap.size < w'.heap.size := by have := hz1; simp at this; omega
  have z5 : w'.heap.size < w5.heap.size := by have := b5.size; simp at this; omega
  have a0 : w5.cell? ⟨w.heap.size, 0, none⟩ = some (.int .i64 r1) := (hc5 _ 0 (by simp; omega)).trans (((up_alloc w' (Obj.cells #[Value.int IntKind.i64 y, Value.int IntKind.i64 m, Value.int IntKind.i64 d, Value.int IntKind.i64 (t % 24), Value.int IntKind.i64 (t.tdiv 24 % 60), Value.int IntKind.i64 (t.tdiv 1440 % 60)] 30)).cell (p := ⟨w.heap.size, 0, none⟩) z1).trans ((hc1 _ 0 (by simp)).trans (by simp [go_sem])))
  have a1 : w5.cell? ⟨w.heap.size, 1, none⟩ = some (.int .i64 r2) := (hc5 _ 1 (by simp; omega)).trans (((up_alloc w' (Obj.cells #[Value.int IntKind.i64 y, Value.int IntKind.i64 m, Value.int IntKind.i64 d, Value.int IntKind.i64 (t % 24), Value.int IntKind.i64 (t.tdiv 24 % 60), Value.int IntKind.i64 (t.tdiv 1440 % 60)] 30)).cell (p := ⟨w.heap.size, 1, none⟩) z1).trans ((hc1 _ 1 (by simp)).trans (by simp [go_sem])))
  have a2 : w5.cell? ⟨w.heap.size, 2, none⟩ = some (.int .i64 r3) := (hc5 _ 2 (by simp; omega)).trans (((up_alloc w' (Obj.cells #[Value.int IntKind.i64 y, Value.int IntKind.i64 m, Value.int IntKind.i64 d, Value.int IntKind.i64 (t % 24), Value.int IntKind.i64 (t.tdiv 24 % 60), Value.int IntKind.i64 (t.tdiv 1440 % 60)] 30)).cell (p := ⟨w.heap.size, 2, none⟩) z1).trans ((hc1 _ 2 (by simp)).trans (by simp [go_sem])))
  have a3 : w5.cell? ⟨w.heap.size, 3, none⟩ = some (.int .i64 r4) := (hc5 _ 3 (by simp; omega)).trans (((up_alloc w' (Obj.cells #[Value.int IntKind.i64 y, Value.int IntKind.i64 m, Value.int IntKind.i64 d, Value.int IntKind.i64 (t % 24), Value.int IntKind.i64 (t.tdiv 24 % 60), Value.int IntKind.i64 (t.tdiv 1440 % 60)] 30)).cell (p := ⟨w.heap.size, 3, none⟩) z1).trans ((hc1 _ 3 (by simp)).trans (by simp [go_sem])))
  have a4 : w5.cell? ⟨w.heap.size, 4, none⟩ = some (.int .i64 r5) := (hc5 _ 4 (by simp; omega)).trans (((up_alloc w' (Obj.cells #[Value.int IntKind.i64 y, Value.int IntKind.i64 m, Value.int IntKind.i64 d, Value.int IntKind.i64 (t % 24), Value.int IntKind.i64 (t.tdiv 24 % 60), Value.int IntKind.i64 (t.tdiv 1440 % 60)] 30)).cell (p := ⟨w.heap.size, 4, none⟩) z1).trans ((hc1 _ 4 (by simp)).trans (by simp [go_sem])))
  have a5 : w5.cell? ⟨w.heap.size, 5, none⟩ = some (.int .i64 r6) := (hc5 _ 5 (by simp; omega)).trans (((up_alloc w' (Obj.cells #[Value.int IntKind.i64 y, Value.int IntKind.i64 m, Value.int IntKind.i64 d, Value.int IntKind.i64 (t % 24), Value.int IntKind.i64 (t.tdiv 24 % 60), Value.int IntKind.i64 (t.tdiv 1440 % 60)] 30)).cell (p := ⟨w.heap.size, 5, none⟩) z1).trans ((hc1 _ 5 (by simp)).trans (by simp [go_sem])))
  have x0 : w5.cell? ⟨w'.heap.size, 0, none⟩ = some (.int .i64 y) := (hc5 _ 0 (by simp)).trans (by simp [go_sem])
  have x1 : w5.cell? ⟨w'.heap.size, 1, none⟩ = some (.int .i64 m) := (hc5 _ 1 (by simp)).trans (by simp [go_sem])
  have x2 : w5.cell? ⟨w'.heap.size, 2, none⟩ = some (.int .i64 d) := (hc5 _ 2 (by simp)).trans (by simp [go_sem])
  have x3 : w5.cell? ⟨w'.heap.size, 3, none⟩ = some (.int .i64 (t % 24)) := (hc5 _ 3 (by simp)).trans (by simp [go_sem])
  have x4 : w5.cell? ⟨w'.heap.size, 4, none⟩ = some (.int .i64 (t.tdiv 24 % 60)) := (hc5 _ 4 (by simp)).trans (by simp [go_sem])
  have x5 : w5.cell? ⟨w'.heap.size, 5, none⟩ = some (.int .i64 (t.tdiv 1440 % 60)) := (hc5 _ 5 (by simp)).trans (by simp [go_sem])
  have f0 : w5.frozen? ⟨w'.heap.size, 0, none⟩ = false := (hf5 _ 0 (by simp)).trans (by simp [go_sem])
  have f1 : w5.frozen? ⟨w'.heap.size, 1, none⟩ = false := (hf5 _ 1 (by simp)).trans (by simp [go_sem])
  have f2 : w5.frozen? ⟨w'.heap.size, 2, none⟩ = false := (hf5 _ 2 (by simp)).trans (by simp [go_sem])
  have f3 : w5.frozen? ⟨w'.heap.size, 3, none⟩ = false := (hf5 _ 3 (by simp)).trans (by simp [go_sem])
  have f4 : w5.frozen? ⟨w'.heap.size, 4, none⟩ = false := (hf5 _ 4 (by simp)).trans (by simp [go_sem])
  have f5 : w5.frozen? ⟨w'.heap.size, 5, none⟩ = false := (hf5 _ 5 (by simp)).trans (by simp [go_sem])
  have bW : Below w.heap.size w w5 := up_trans (up_trans (up_trans (up_alloc _ _) b1) (up_alloc _ _)) b5
  have zx : w.heap.size ≤ w'.heap.size := by omega
  clear b1 b5 hc1 hf1 hz1 hc5 hf5 HK HY H0
  generalize t % 24 = h at *
  generalize t.tdiv 24 % 60 = i at *
  generalize t.tdiv 1440 % 60 = s at *
  have HX : Hid (w.heap.size ≤ w'.heap.size) := zx
  clear zx
  go_wp2_with fail
  refine (HQ.out _).mono ?_
  rintro e w6 ⟨rfl, rfl⟩
  rcases hq with rfl | rfl | rfl | rfl | rfl | rfl
  · obtain ⟨j, hj, hj'⟩ : ∃ j, v % 5 = j ∧ (j = 0 ∨ j = 1 ∨ j = 2 ∨ j = 3 ∨ j = 4) := ⟨_, rfl, by omega⟩
    have HV : Hid (∀ w, Calls Try.prog 17 #[.int .i64 v, .int .i64 5] w fun e w' => e = .returned (.int .i64 j) ∧ w' = w) := fun w => by rw [← hj]; exact lwithin_any v 5 w (by omega) (by omega)
    clear hj
    go_wp2_with fail
    refine (HV.out _).mono ?_
    rintro e w7 ⟨rfl, rfl⟩
    clear HQ HV
    rcases hj' with rfl | rfl | rfl | rfl | rfl
    all_goals
      go_wp2_with fail
      refine wp_region_ext2 (by kernel_rfl) (by kernel_rfl) (fun hne hcell => ?_)
      have A0 := fun s => (hcell s w.heap.size 0 (by simp; omega)).trans ((turn_other _ _ _ _ _ _ _ (Or.inl (by omega)) (by omega)).trans a0)
      have A1 := fun s => (hcell s w.heap.size 1 (by simp; omega)).trans ((turn_other _ _ _ _ _ _ _ (Or.inl (by omega)) (by omega)).trans a1)
      have A2 := fun s => (hcell s w.heap.size 2 (by simp; omega)).trans ((turn_other _ _ _ _ _ _ _ (Or.inl (by omega)) (by omega)).trans a2)
      have A3 := fun s => (hcell s w.heap.size 3 (by simp; omega)).trans ((turn_other _ _ _ _ _ _ _ (Or.inl (by omega)) (by omega)).trans a3)
      have A4 := fun s => (hcell s w.heap.size 4 (by simp; omega)).trans ((turn_other _ _ _ _ _ _ _ (Or.inl (by omega)) (by omega)).trans a4)
      have A5 := fun s => (hcell s w.heap.size 5 (by simp; omega)).trans ((turn_other _ _ _ _ _ _ _ (Or.inl (by omega)) (by omega)).trans a5)
      have X0 := fun s => (hcell s w'.heap.size 0 (by simp; omega)).trans (turn_same _ _ _ _ _ _ z5 x0)
      have X1 := fun s => (hcell s w'.heap.size 1 (by simp; omega)).trans ((turn_other _ _ _ _ _ _ _ (Or.inr (by decide)) z5).trans x1)
      have X2 := fun s => (hcell s w'.heap.size 2 (by simp; omega)).trans ((turn_other _ _ _ _ _ _ _ (Or.inr (by decide)) z5).trans x2)
      have X3 := fun s => (hcell s w'.heap.size 3 (by simp; omega)).trans ((turn_other _ _ _ _ _ _ _ (Or.inr (by decide)) z5).trans x3)
      have X4 := fun s => (hcell s w'.heap.size 4 (by simp; omega)).trans ((turn_other _ _ _ _ _ _ _ (Or.inr (by decide)) z5).trans x4)
      have X5 := fun s => (hcell s w'.heap.size 5 (by simp; omega)).trans ((turn_other _ _ _ _ _ _ _ (Or.inr (by decide)) z5).trans x5)
      clear hcell
      repeat (go_big_quiet_step ((first | (go_at_call 20; exact (right_any _ _ _ _ _ _ _).mono (fun e w' h => ⟨h.1, Ext.to _ h.2⟩)) | (go_at_call 21; exact (rright_any _ _ _ _ _ _ _).mono (fun e w' h => ⟨h.1, Ext.to _ h.2⟩)))))
      refine wpQuiet_nil ?_
      rintro _ ⟨s, rfl⟩
      clear A0 A1 A2 A3 A4 A5 X0 X1 X2 X3 X4 X5
      go_wp2
      go_ret
      exact ⟨rfl, up_trans ((bW.setCell HX.out _).alloc (by simp; omega) _) s.below⟩
  · obtain ⟨j, hj, hj'⟩ : ∃ j, v % 6 = j ∧ (j = 0 ∨ j = 1 ∨ j = 2 ∨ j = 3 ∨ j = 4 ∨ j = 5) := ⟨_, rfl, by omega⟩
    have HV : Hid (∀ w, Calls Try.prog 17 #[.int .i64 v, .int .i64 6] w fun e w' => e = .returned (.int .i64 j) ∧ w' = w) := fun w => by rw [← hj]; exact lwithin_any v 6 w (by omega) (by omega)
    clear hj
    go_wp2_with fail
    refine (HV.out _).mono ?_
    rintro e w7 ⟨rfl, rfl⟩
    clear HQ HV
    rcases hj' with rfl | rfl | rfl | rfl | rfl | rfl
    all_goals
      go_wp2_with fail
      refine wp_region_ext2 (by kernel_rfl) (by kernel_rfl) (fun hne hcell => ?_)
      have A0 := fun s => (hcell s w.heap.size 0 (by simp; omega)).trans ((turn_other _ _ _ _ _ _ _ (Or.inl (by omega)) (by omega)).trans a0)
      have A1 := fun s => (hcell s w.heap.size 1 (by simp; omega)).trans ((turn_other _ _ _ _ _ _ _ (Or.inl (by omega)) (by omega)).trans a1)
      have A2 := fun s => (hcell s w.heap.size 2 (by simp; omega)).trans ((turn_other _ _ _ _ _ _ _ (Or.inl (by omega)) (by omega)).trans a2)
      have A3 := fun s => (hcell s w.heap.size 3 (by simp; omega)).trans ((turn_other _ _ _ _ _ _ _ (Or.inl (by omega)) (by omega)).trans a3)
      have A4 := fun s => (hcell s w.heap.size 4 (by simp; omega)).trans ((turn_other _ _ _ _ _ _ _ (Or.inl (by omega)) (by omega)).trans a4)
      have A5 := fun s => (hcell s w.heap.size 5 (by simp; omega)).trans ((turn_other _ _ _ _ _ _ _ (Or.inl (by omega)) (by omega)).trans a5)
      have X0 := fun s => (hcell s w'.heap.size 0 (by simp; omega)).trans ((turn_other _ _ _ _ _ _ _ (Or.inr (by decide)) z5).trans x0)
      have X1 := fun s => (hcell s w'.heap.size 1 (by simp; omega)).trans (turn_same _ _ _ _ _ _ z5 x1)
      have X2 := fun s => (hcell s w'.heap.size 2 (by simp; omega)).trans ((turn_other _ _ _ _ _ _ _ (Or.inr (by decide)) z5).trans x2)
      have X3 := fun s => (hcell s w'.heap.size 3 (by simp; omega)).trans ((turn_other _ _ _ _ _ _ _ (Or.inr (by decide)) z5).trans x3)
      have X4 := fun s => (hcell s w'.heap.size 4 (by simp; omega)).trans ((turn_other _ _ _ _ _ _ _ (Or.inr (by decide)) z5).trans x4)
      have X5 := fun s => (hcell s w'.heap.size 5 (by simp; omega)).trans ((turn_other _ _ _ _ _ _ _ (Or.inr (by decide)) z5).trans x5)
      clear hcell
      repeat (go_big_quiet_step ((first | (go_at_call 20; exact (right_any _ _ _ _ _ _ _).mono (fun e w' h => ⟨h.1, Ext.to _ h.2⟩)) | (go_at_call 21; exact (rright_any _ _ _ _ _ _ _).mono (fun e w' h => ⟨h.1, Ext.to _ h.2⟩)))))
      refine wpQuiet_nil ?_
      rintro _ ⟨s, rfl⟩
      clear A0 A1 A2 A3 A4 A5 X0 X1 X2 X3 X4 X5
      go_wp2
      go_ret
      exact ⟨rfl, up_trans ((bW.setCell HX.out _).alloc (by simp; omega) _) s.below⟩
  · obtain ⟨j, hj, hj'⟩ : ∃ j, v % 8 = j ∧ (j = 0 ∨ j = 1 ∨ j = 2 ∨ j = 3 ∨ j = 4 ∨ j = 5 ∨ j = 6 ∨ j = 7) := ⟨_, rfl, by omega⟩
    have HV : Hid (∀ w, Calls Try.prog 17 #[.int .i64 v, .int .i64 8] w fun e w' => e = .returned (.int .i64 j) ∧ w' = w) := fun w => by rw [← hj]; exact lwithin_any v 8 w (by omega) (by omega)
    clear hj
    go_wp2_with fail
    refine (HV.out _).mono ?_
    rintro e w7 ⟨rfl, rfl⟩
    clear HQ HV
    rcases hj' with rfl | rfl | rfl | rfl | rfl | rfl | rfl | rfl
    all_goals
      go_wp2_with fail
      refine wp_region_ext2 (by kernel_rfl) (by kernel_rfl) (fun hne hcell => ?_)
      have A0 := fun s => (hcell s w.heap.size 0 (by simp; omega)).trans ((turn_other _ _ _ _ _ _ _ (Or.inl (by omega)) (by omega)).trans a0)
      have A1 := fun s => (hcell s w.heap.size 1 (by simp; omega)).trans ((turn_other _ _ _ _ _ _ _ (Or.inl (by omega)) (by omega)).trans a1)
      have A2 := fun s => (hcell s w.heap.size 2 (by simp; omega)).trans ((turn_other _ _ _ _ _ _ _ (Or.inl (by omega)) (by omega)).trans a2)
      have A3 := fun s => (hcell s w.heap.size 3 (by simp; omega)).trans ((turn_other _ _ _ _ _ _ _ (Or.inl (by omega)) (by omega)).trans a3)
      have A4 := fun s => (hcell s w.heap.size 4 (by simp; omega)).trans ((turn_other _ _ _ _ _ _ _ (Or.inl (by omega)) (by omega)).trans a4)
      have A5 := fun s => (hcell s w.heap.size 5 (by simp; omega)).trans ((turn_other _ _ _ _ _ _ _ (Or.inl (by omega)) (by omega)).trans a5)
      have X0 := fun s => (hcell s w'.heap.size 0 (by simp; omega)).trans ((turn_other _ _ _ _ _ _ _ (Or.inr (by decide)) z5).trans x0)
      have X1 := fun s => (hcell s w'.heap.size 1 (by simp; omega)).trans ((turn_other _ _ _ _ _ _ _ (Or.inr (by decide)) z5).trans x1)
      have X2 := fun s => (hcell s w'.heap.size 2 (by simp; omega)).trans (turn_same _ _ _ _ _ _ z5 x2)
      have X3 := fun s => (hcell s w'.heap.size 3 (by simp; omega)).trans ((turn_other _ _ _ _ _ _ _ (Or.inr (by decide)) z5).trans x3)
      have X4 := fun s => (hcell s w'.heap.size 4 (by simp; omega)).trans ((turn_other _ _ _ _ _ _ _ (Or.inr (by decide)) z5).trans x4)
      have X5 := fun s => (hcell s w'.heap.size 5 (by simp; omega)).trans ((turn_other _ _ _ _ _ _ _ (Or.inr (by decide)) z5).trans x5)
      clear hcell
      repeat (go_big_quiet_step ((first | (go_at_call 20; exact (right_any _ _ _ _ _ _ _).mono (fun e w' h => ⟨h.1, Ext.to _ h.2⟩)) | (go_at_call 21; exact (rright_any _ _ _ _ _ _ _).mono (fun e w' h => ⟨h.1, Ext.to _ h.2⟩)))))
      refine wpQuiet_nil ?_
      rintro _ ⟨s, rfl⟩
      clear A0 A1 A2 A3 A4 A5 X0 X1 X2 X3 X4 X5
      go_wp2
      go_ret
      exact ⟨rfl, up_trans ((bW.setCell HX.out _).alloc (by simp; omega) _) s.below⟩
  · obtain ⟨j, hj, hj'⟩ : ∃ j, v % 5 = j ∧ (j = 0 ∨ j = 1 ∨ j = 2 ∨ j = 3 ∨ j = 4) := ⟨_, rfl, by omega⟩
    have HV : Hid (∀ w, Calls Try.prog 17 #[.int .i64 v, .int .i64 5] w fun e w' => e = .returned (.int .i64 j) ∧ w' = w) := fun w => by rw [← hj]; exact lwithin_any v 5 w (by omega) (by omega)
    clear hj
    go_wp2_with fail
    refine (HV.out _).mono ?_
    rintro e w7 ⟨rfl, rfl⟩
    clear HQ HV
    rcases hj' with rfl | rfl | rfl | rfl | rfl
    all_goals
      go_wp2_with fail
      refine wp_region_ext2 (by kernel_rfl) (by kernel_rfl) (fun hne hcell => ?_)
      have A0 := fun s => (hcell s w.heap.size 0 (by simp; omega)).trans ((turn_other _ _ _ _ _ _ _ (Or.inl (by omega)) (by omega)).trans a0)
      have A1 := fun s => (hcell s w.heap.size 1 (by simp; omega)).trans ((turn_other _ _ _ _ _ _ _ (Or.inl (by omega)) (by omega)).trans a1)
      have A2 := fun s => (hcell s w.heap.size 2 (by simp; omega)).trans ((turn_other _ _ _ _ _ _ _ (Or.inl (by omega)) (by omega)).trans a2)
      have A3 := fun s => (hcell s w.heap.size 3 (by simp; omega)).trans ((turn_other _ _ _ _ _ _ _ (Or.inl (by omega)) (by omega)).trans a3)
      have A4 := fun s => (hcell s w.heap.size 4 (by simp; omega)).trans ((turn_other _ _ _ _ _ _ _ (Or.inl (by omega)) (by omega)).trans a4)
      have A5 := fun s => (hcell s w.heap.size 5 (by simp; omega)).trans ((turn_other _ _ _ _ _ _ _ (Or.inl (by omega)) (by omega)).trans a5)
      have X0 := fun s => (hcell s w'.heap.size 0 (by simp; omega)).trans ((turn_other _ _ _ _ _ _ _ (Or.inr (by decide)) z5).trans x0)
      have X1 := fun s => (hcell s w'.heap.size 1 (by simp; omega)).trans ((turn_other _ _ _ _ _ _ _ (Or.inr (by decide)) z5).trans x1)
      have X2 := fun s => (hcell s w'.heap.size 2 (by simp; omega)).trans ((turn_other _ _ _ _ _ _ _ (Or.inr (by decide)) z5).trans x2)
      have X3 := fun s => (hcell s w'.heap.size 3 (by simp; omega)).trans (turn_same _ _ _ _ _ _ z5 x3)
      have X4 := fun s => (hcell s w'.heap.size 4 (by simp; omega)).trans ((turn_other _ _ _ _ _ _ _ (Or.inr (by decide)) z5).trans x4)
      have X5 := fun s => (hcell s w'.heap.size 5 (by simp; omega)).trans ((turn_other _ _ _ _ _ _ _ (Or.inr (by decide)) z5).trans x5)
      clear hcell
      repeat (go_big_quiet_step ((first | (go_at_call 20; exact (right_any _ _ _ _ _ _ _).mono (fun e w' h => ⟨h.1, Ext.to _ h.2⟩)) | (go_at_call 21; exact (rright_any _ _ _ _ _ _ _).mono (fun e w' h => ⟨h.1, Ext.to _ h.2⟩)))))
      refine wpQuiet_nil ?_
      rintro _ ⟨s, rfl⟩
      clear A0 A1 A2 A3 A4 A5 X0 X1 X2 X3 X4 X5
      go_wp2
      go_ret
      exact ⟨rfl, up_trans ((bW.setCell HX.out _).alloc (by simp; omega) _) s.below⟩
  · obtain ⟨j, hj, hj'⟩ : ∃ j, v % 5 = j ∧ (j = 0 ∨ j = 1 ∨ j = 2 ∨ j = 3 ∨ j = 4) := ⟨_, rfl, by omega⟩
    have HV : Hid (∀ w, Calls Try.prog 17 #[.int .i64 v, .int .i64 5] w fun e w' => e = .returned (.int .i64 j) ∧ w' = w) := fun w => by rw [← hj]; exact lwithin_any v 5 w (by omega) (by omega)
    clear hj
    go_wp2_with fail
    refine (HV.out _).mono ?_
    rintro e w7 ⟨rfl, rfl⟩
    clear HQ HV
    rcases hj' with rfl | rfl | rfl | rfl | rfl
    all_goals
      go_wp2_with fail
      refine wp_region_ext2 (by kernel_rfl) (by kernel_rfl) (fun hne hcell => ?_)
      have A0 := fun s => (hcell s w.heap.size 0 (by simp; omega)).trans ((turn_other _ _ _ _ _ _ _ (Or.inl (by omega)) (by omega)).trans a0)
      have A1 := fun s => (hcell s w.heap.size 1 (by simp; omega)).trans ((turn_other _ _ _ _ _ _ _ (Or.inl (by omega)) (by omega)).trans a1)
      have A2 := fun s => (hcell s w.heap.size 2 (by simp; omega)).trans ((turn_other _ _ _ _ _ _ _ (Or.inl (by omega)) (by omega)).trans a2)
      have A3 := fun s => (hcell s w.heap.size 3 (by simp; omega)).trans ((turn_other _ _ _ _ _ _ _ (Or.inl (by omega)) (by omega)).trans a3)
      have A4 := fun s => (hcell s w.heap.size 4 (by simp; omega)).trans ((turn_other _ _ _ _ _ _ _ (Or.inl (by omega)) (by omega)).trans a4)
      have A5 := fun s => (hcell s w.heap.size 5 (by simp; omega)).trans ((turn_other _ _ _ _ _ _ _ (Or.inl (by omega)) (by omega)).trans a5)
      have X0 := fun s => (hcell s w'.heap.size 0 (by simp; omega)).trans ((turn_other _ _ _ _ _ _ _ (Or.inr (by decide)) z5).trans x0)
      have X1 := fun s => (hcell s w'.heap.size 1 (by simp; omega)).trans ((turn_other _ _ _ _ _ _ _ (Or.inr (by decide)) z5).trans x1)
      have X2 := fun s => (hcell s w'.heap.size 2 (by simp; omega)).trans ((turn_other _ _ _ _ _ _ _ (Or.inr (by decide)) z5).trans x2)
      have X3 := fun s => (hcell s w'.heap.size 3 (by simp; omega)).trans ((turn_other _ _ _ _ _ _ _ (Or.inr (by decide)) z5).trans x3)
      have X4 := fun s => (hcell s w'.heap.size 4 (by simp; omega)).trans (turn_same _ _ _ _ _ _ z5 x4)
      have X5 := fun s => (hcell s w'.heap.size 5 (by simp; omega)).trans ((turn_other _ _ _ _ _ _ _ (Or.inr (by decide)) z5).trans x5)
      clear hcell
      repeat (go_big_quiet_step ((first | (go_at_call 20; exact (right_any _ _ _ _ _ _ _).mono (fun e w' h => ⟨h.1, Ext.to _ h.2⟩)) | (go_at_call 21; exact (rright_any _ _ _ _ _ _ _).mono (fun e w' h => ⟨h.1, Ext.to _ h.2⟩)))))
      refine wpQuiet_nil ?_
      rintro _ ⟨s, rfl⟩
      clear A0 A1 A2 A3 A4 A5 X0 X1 X2 X3 X4 X5
      go_wp2
      go_ret
      exact ⟨rfl, up_trans ((bW.setCell HX.out _).alloc (by simp; omega) _) s.below⟩
  · obtain ⟨j, hj, hj'⟩ : ∃ j, v % 5 = j ∧ (j = 0 ∨ j = 1 ∨ j = 2 ∨ j = 3 ∨ j = 4) := ⟨_, rfl, by omega⟩
    have HV : Hid (∀ w, Calls Try.prog 17 #[.int .i64 v, .int .i64 5] w fun e w' => e = .returned (.int .i64 j) ∧ w' = w) := fun w => by rw [← hj]; exact lwithin_any v 5 w (by omega) (by omega)
    clear hj
    go_wp2_with fail
    refine (HV.out _).mono ?_
    rintro e w7 ⟨rfl, rfl⟩
    clear HQ HV
    rcases hj' with rfl | rfl | rfl | rfl | rfl
    all_goals
      go_wp2_with fail
      refine wp_region_ext2 (by kernel_rfl) (by kernel_rfl) (fun hne hcell => ?_)
      have A0 := fun s => (hcell s w.heap.size 0 (by simp; omega)).trans ((turn_other _ _ _ _ _ _ _ (Or.inl (by omega)) (by omega)).trans a0)
      have A1 := fun s => (hcell s w.heap.size 1 (by simp; omega)).trans ((turn_other _ _ _ _ _ _ _ (Or.inl (by omega)) (by omega)).trans a1)
      have A2 := fun s => (hcell s w.heap.size 2 (by simp; omega)).trans ((turn_other _ _ _ _ _ _ _ (Or.inl (by omega)) (by omega)).trans a2)
      have A3 := fun s => (hcell s w.heap.size 3 (by simp; omega)).trans ((turn_other _ _ _ _ _ _ _ (Or.inl (by omega)) (by omega)).trans a3)
      have A4 := fun s => (hcell s w.heap.size 4 (by simp; omega)).trans ((turn_other _ _ _ _ _ _ _ (Or.inl (by omega)) (by omega)).trans a4)
      have A5 := fun s => (hcell s w.heap.size 5 (by simp; omega)).trans ((turn_other _ _ _ _ _ _ _ (Or.inl (by omega)) (by omega)).trans a5)
      have X0 := fun s => (hcell s w'.heap.size 0 (by simp; omega)).trans ((turn_other _ _ _ _ _ _ _ (Or.inr (by decide)) z5).trans x0)
      have X1 := fun s => (hcell s w'.heap.size 1 (by simp; omega)).trans ((turn_other _ _ _ _ _ _ _ (Or.inr (by decide)) z5).trans x1)
      have X2 := fun s => (hcell s w'.heap.size 2 (by simp; omega)).trans ((turn_other _ _ _ _ _ _ _ (Or.inr (by decide)) z5).trans x2)
      have X3 := fun s => (hcell s w'.heap.size 3 (by simp; omega)).trans ((turn_other _ _ _ _ _ _ _ (Or.inr (by decide)) z5).trans x3)
      have X4 := fun s => (hcell s w'.heap.size 4 (by simp; omega)).trans ((turn_other _ _ _ _ _ _ _ (Or.inr (by decide)) z5).trans x4)
      have X5 := fun s => (hcell s w'.heap.size 5 (by simp; omega)).trans (turn_same _ _ _ _ _ _ z5 x5)
      clear hcell
      repeat (go_big_quiet_step ((first | (go_at_call 20; exact (right_any _ _ _ _ _ _ _).mono (fun e w' h => ⟨h.1, Ext.to _ h.2⟩)) | (go_at_call 21; exact (rright_any _ _ _ _ _ _ _).mono (fun e w' h => ⟨h.1, Ext.to _ h.2⟩)))))
      refine wpQuiet_nil ?_
      rintro _ ⟨s, rfl⟩
      clear A0 A1 A2 A3 A4 A5 X0 X1 X2 X3 X4 X5
      go_wp2
      go_ret
      exact ⟨rfl, up_trans ((bW.setCell HX.out _).alloc (by simp; omega) _) s.below⟩

theorem own : ownKnob Try.prog.godebug = none := by kernel_rfl
theorem laidOut : laidOutB Try.prog = true := by kernel_rfl
theorem array6 {α : Type} {cs : Array α} (h : cs.size = 6) : ∃ c0 c1 c2 c3 c4 c5, cs = #[c0, c1, c2, c3, c4, c5] := by
  obtain ⟨l⟩ := cs
  match l, h with
  | [c0, c1, c2, c3, c4, c5], _ => exact ⟨c0, c1, c2, c3, c4, c5, rfl⟩
theorem cells6 : Try.prog.cellsOf 30 = 6 := by kernel_rfl
theorem cells1 : Try.prog.cellsOf 3 = 1 := by kernel_rfl
theorem open_moment {H : Type} {enc : TypeId × Value → H} {W : World} {base : Nat} {spare : Nat → Bool} {held : Bool} {r : Reach} {b0 : Nat} {v : Value} {d : DataW H} {p : List MemPlace}
    (hv : Value.okWide Try.prog W r b0 30 v) (h : DataW.Trod enc Try.prog W base spare held 30 v d p) :
    ∃ a1 a2 a3 a4 a5 a6 : Int, v = .agg #[.int .i64 a1, .int .i64 a2, .int .i64 a3, .int .i64 a4, .int .i64 a5, .int .i64 a6] := by
  obtain ⟨cs, rfl, hsz⟩ := okWide_struct Try.underlying30 hv
  obtain ⟨c0, c1, c2, c3, c4, c5, rfl⟩ := array6 (hsz.trans cells6)
  obtain ⟨fuel, hf⟩ := h
  obtain ⟨xs, n, _, _, _, hlen, hfld⟩ := DataW.trod_struct Try.underlying30 hf
  have hx : ∀ i, i < 6 → ∃ y, xs[i]? = some y := fun i hi => ⟨xs[i]'(by rw [hlen]; exact hi), List.getElem?_eq_getElem _⟩
  obtain ⟨y0, e0⟩ := hx 0 (by decide)
  have g0 := hfld 0 _ rfl
  rw [e0] at g0
  obtain ⟨a0, q0, _, _⟩ := DataW.trod_int Try.underlying3 g0
  simp [cells1, Value.cells] at q0
  subst q0
  obtain ⟨y1, e1⟩ := hx 1 (by decide)
  have g1 := hfld 1 _ rfl
  rw [e1] at g1
  obtain ⟨a1, q1, _, _⟩ := DataW.trod_int Try.underlying3 g1
  simp [cells1, Value.cells] at q1
  subst q1
  obtain ⟨y2, e2⟩ := hx 2 (by decide)
  have g2 := hfld 2 _ rfl
  rw [e2] at g2
  obtain ⟨a2, q2, _, _⟩ := DataW.trod_int Try.underlying3 g2
  simp [cells1, Value.cells] at q2
  subst q2
  obtain ⟨y3, e3⟩ := hx 3 (by decide)
  have g3 := hfld 3 _ rfl
  rw [e3] at g3
  obtain ⟨a3, q3, _, _⟩ := DataW.trod_int Try.underlying3 g3
  simp [cells1, Value.cells] at q3
  subst q3
  obtain ⟨y4, e4⟩ := hx 4 (by decide)
  have g4 := hfld 4 _ rfl
  rw [e4] at g4
  obtain ⟨a4, q4, _, _⟩ := DataW.trod_int Try.underlying3 g4
  simp [cells1, Value.cells] at q4
  subst q4
  obtain ⟨y5, e5⟩ := hx 5 (by decide)
  have g5 := hfld 5 _ rfl
  rw [e5] at g5
  obtain ⟨a5, q5, _, _⟩ := DataW.trod_int Try.underlying3 g5
  simp [cells1, Value.cells] at q5
  subst q5
  exact ⟨a0, a1, a2, a3, a4, a5, rfl⟩

set_option maxRecDepth 100000 in
theorem lifted (os : Os) (started : os.Started) (H : Type) (enc : TypeId × Value → H) :
    ReturnsInHanded {} Try.checked os 6 .any (Rows.civilRightSpec.pre6 enc Try.prog Try.f6 Rows.civilRightRow.domain false) (Rows.civilRightSpec.post enc Try.prog Try.f6 false true false false) := by
  refine returnsInHanded_of_change (C := Try.checked) own started (by kernel_rfl) Try.func6
    (ChangeSpec.witness6 (enc := enc) (C := Try.checked) false ⟨#[], #[.agg #[.int .i64 0, .int .i64 0, .int .i64 0, .int .i64 0, .int .i64 0, .int .i64 0], .int .i64 0, .int .i64 0, .int .i64 0, .int .i64 0], []⟩ 8 (by kernel_rfl) (by kernel_rfl) (by kernel_rfl) (by kernel_rfl)) ?_
  intro W base args ds gs before hval0 hW hcnd _
  have hval : ∀ (j : Nat) t v, Try.f6.params[j]? = some t → args[j]? = some v → Value.okWide Try.prog W .any base t v := hval0
  have hW' := hW
  obtain ⟨p, q, hA0, hV, rfl, hfz, hnd⟩ := hW
  have hA : DataW.TrodAll enc Try.prog W 0 (fun _ => true) true Try.f6.params.toList args.toList ds p := hA0
  rw [Try.params6] at hA hval
  obtain ⟨v0, vs0, d0, ds0, p0, q0, hargs, rfl, rfl, h0, r0⟩ := trodAll_cons hA
  obtain ⟨v1, vs1, d1, ds1, p1, q1, rfl, rfl, rfl, h1, r1⟩ := trodAll_cons r0
  obtain ⟨v2, vs2, d2, ds2, p2, q2, rfl, rfl, rfl, h2, r2⟩ := trodAll_cons r1
  obtain ⟨v3, vs3, d3, ds3, p3, q3, rfl, rfl, rfl, h3, r3⟩ := trodAll_cons r2
  obtain ⟨v4, vs4, d4, ds4, p4, q4, rfl, rfl, rfl, h4, r4⟩ := trodAll_cons r3
  obtain ⟨rfl, rfl, rfl⟩ := trodAll_nil r4
  obtain rfl : args = #[v0, v1, v2, v3, v4] := by cases args; simp_all
  obtain ⟨rfl, rfl⟩ := trodVars_none hV
  have k0 := h0
  have lt0 : ∀ x ∈ p0, x.block < W.heap.size := by obtain ⟨m, hm⟩ := k0; exact DataW.trod_lt m _ _ _ hm
  obtain ⟨b1, b2, b3, b4, b5, b6, rfl⟩ := open_moment (hval 0 30 v0 rfl rfl) h0
  obtain ⟨a1, rfl, rfl, rfl, w1⟩ := open_int Try.underlying3 (hval 1 3 v1 rfl rfl) h1
  obtain ⟨a2, rfl, rfl, rfl, w2⟩ := open_int Try.underlying3 (hval 2 3 v2 rfl rfl) h2
  obtain ⟨a3, rfl, rfl, rfl, w3⟩ := open_int Try.underlying3 (hval 3 3 v3 rfl rfl) h3
  obtain ⟨a4, rfl, rfl, rfl, w4⟩ := open_int Try.underlying3 (hval 4 3 v4 rfl rfl) h4
  clear hA0 hval0
  refine (walk b1 b2 b3 b4 b5 b6 a1 a2 a3 a4 W w1 w2).mono fun e W' ⟨he, bel⟩ => ?_
  subst he
  exact ⟨_, rfl, _, _, _, [], _, [], hW', trodAll_mk1 (shut_bool Try.underlying4 _), (trodAll_cons_mk (Below.trod laidOut (by kernel_rfl) (of_decide_eq_true (by kernel_rfl)) k0 bel lt0) (trodAll_cons_mk (shut_int Try.underlying3 w1) (trodAll_cons_mk (shut_int Try.underlying3 w2) (trodAll_cons_mk (shut_int Try.underlying3 w3) (trodAll_cons_mk (shut_int Try.underlying3 w4) trodAll_mk0))))), rfl, bel.frame _, fun h => by cases h⟩

theorem civilRight_holds : Rows.CivilRightSaid :=
  OpenClaim.holds_of_wide 6 Try.f6 rfl rfl rfl rfl rfl rfl rfl ⟨rfl, rfl, rfl, rfl, rfl⟩ rfl rfl rfl rfl rfl (by kernel_rfl) Try.func6 (by kernel_rfl)
    (of_decide_eq_true (by kernel_rfl)) (by unfold Func.isWrapper; first | (rw [if_pos (by decide +kernel)]; kernel_rfl) | (rw [if_neg (by decide +kernel)]; exact ⟨rfl, rfl⟩))
    (fun os started H enc _ => lifted os started H enc)

end Go.Proofs.Ytokigbdnihamiaa
