/- The reference's made: money. -/
import Derived.Test.YtengcdodoblabaaGreatDoorRDoB
namespace Go.Proofs.YtengcdodoblabaaGreatDoor
open Go.RowKit

set_option maxRecDepth 8000 in
set_option maxHeartbeats 4000000 in
theorem rmore_12 (a b : Val) (g n cap : Nat) (w : World) (hl : LA w (.slice (some ⟨g, 0, none⟩) n cap) [a, b]) :
    Calls Tryz.prog 63 #[.int .i64 12, .slice (some ⟨g, 0, none⟩) n cap] w (RetR w (moneyO a b)) := by
  obtain ⟨w1, hw1⟩ : ∃ w1, w1 = w.alloc (.cells #[.int .i64 0, .slice none 0 0] 27) := ⟨_, rfl⟩
  have HB := hid (show Below w.heap.size w w1 by rw [hw1]; exact up_alloc _ _)
  have Z := hid (show w1.heap[w.heap.size]? = some (.cells #[.int .i64 0, .slice none 0 0] 27 (0, 0)) by rw [hw1]; exact new_row _ _)
  have HP := hid (rpaid_any a b g n cap w1 (hl.on HB.out))
  have hs : w.heap.size + 1 ≤ w1.heap.size := (Array.getElem?_eq_some_iff.1 Z.out).1
  have HS := hid hs
  generalize moneyO a b = mo at *
  clear hl hs
  go_enter Tryz.func63, Tryz.ntmps63
  go_wp2_with fail
  rw [← hw1]
  clear hw1
  refine HP.out.mono ?_
  rintro e w2 ⟨hb2, hr⟩
  have HB2 := hid (up_trans HB.out hb2)
  have Z2 := hid (row_on hb2 Z.out)
  have z0 : w2.cell? ⟨w.heap.size, 0, none⟩ = some (.int .i64 0) := by rw [cell_of_row Z2.out]; rfl
  have z1 : w2.cell? ⟨w.heap.size, 1, none⟩ = some (.slice none 0 0) := by rw [cell_of_row Z2.out]; rfl
  have z2 : ∀ o, w2.frozen? ⟨w.heap.size, o, none⟩ = false := fun o => frozen_of_row Z2.out
  clear HP hb2 Z
  cases mo with
  | none =>
    obtain ⟨k, ad, m, cp, rfl⟩ := hr
    have E1 := hid (heap_setCell_same _ _ 1 _ _ (.slice ad m cp) (heap_setCell_same _ _ 0 _ _ (.int .i64 k) Z2.out))
    go_wp2
    refine bodyPost_ret (results_cell_tmp rfl _ _ w.heap.size _ rfl (run_loadVar_row _ _ 27 27 _ (0, 0) _ E1.out Tryz.underlying27 rfl (by kernel_rfl))) rfl ?_
    exact RetR.no rfl ((HB2.out.setCell (p := ⟨w.heap.size, 0, none⟩) (Nat.le_refl _) _).setCell (p := ⟨w.heap.size, 1, none⟩) (Nat.le_refl _) _)
  | some x =>
    obtain ⟨v, rfl, hv⟩ := hr
    obtain ⟨kx, fx⟩ := x
    obtain ⟨fv, rfl, hf⟩ := hv
    obtain ⟨ad, cp, rfl, _⟩ := hf.ia.shape
    dsimp only at hf ⊢
    obtain ⟨e1, e2, _⟩ := put_end (k := kx) HB2.out Z2.out (hf.low HS.out)
    have E1 := hid e1
    have E2 := hid e2
    clear e1 e2 hf
    go_wp2
    refine bodyPost_ret (results_cell_tmp rfl _ _ w.heap.size _ rfl (run_loadVar_row _ _ 27 27 _ (0, 0) _ E1.out Tryz.underlying27 rfl (by kernel_rfl))) rfl ?_
    exact E2.out

set_option maxRecDepth 8000 in
set_option maxHeartbeats 4000000 in
theorem rmade_12 (a b : Val) (r : Mom) (g n cap : Nat) (w : World) (hl : LA w (.slice (some ⟨g, 0, none⟩) n cap) [a, b]) :
    Calls Tryz.prog 23 #[.int .i64 12, .slice (some ⟨g, 0, none⟩) n cap, momV r] w (RetR w (moneyO a b)) := by
  unfold momV
  obtain ⟨w1, hw1⟩ : ∃ w1, w1 = (w.alloc (.cells #[.int .i64 r.y, .int .i64 r.m, .int .i64 r.d, .int .i64 r.h, .int .i64 r.i, .int .i64 r.s] 32)).alloc (.cells #[.int .i64 0, .slice none 0 0] 27) := ⟨_, rfl⟩
  have HB := hid (show Below w.heap.size w w1 by rw [hw1]; exact up_trans (up_alloc _ _) (up_alloc _ _))
  have Z := hid (show w1.heap[w.heap.size + 1]? = some (.cells #[.int .i64 0, .slice none 0 0] 27 (0, 0)) by rw [hw1]; exact row_at (by simp))
  have HP := hid (rmore_12 a b g n cap w1 (hl.on HB.out))
  have hs : w.heap.size + 1 + 1 ≤ w1.heap.size := (Array.getElem?_eq_some_iff.1 Z.out).1
  have HS := hid hs
  generalize moneyO a b = mo at *
  clear hl hs
  go_enter Tryz.func23, Tryz.ntmps23
  go_wp2_with fail
  rw [← hw1]
  clear hw1
  refine HP.out.mono ?_
  rintro e w2 ⟨hb2, hr⟩
  have HB2 := hid (up_trans HB.out hb2)
  have Z2 := hid (row_on hb2 Z.out)
  have z0 : w2.cell? ⟨w.heap.size + 1, 0, none⟩ = some (.int .i64 0) := by rw [cell_of_row Z2.out]; rfl
  have z1 : w2.cell? ⟨w.heap.size + 1, 1, none⟩ = some (.slice none 0 0) := by rw [cell_of_row Z2.out]; rfl
  have z2 : ∀ o, w2.frozen? ⟨w.heap.size + 1, o, none⟩ = false := fun o => frozen_of_row Z2.out
  clear HP hb2 Z
  cases mo with
  | none =>
    obtain ⟨k, ad, m, cp, rfl⟩ := hr
    have E1 := hid (heap_setCell_same _ _ 1 _ _ (.slice ad m cp) (heap_setCell_same _ _ 0 _ _ (.int .i64 k) Z2.out))
    go_wp2
    refine bodyPost_ret (results_cell_tmp rfl _ _ (w.heap.size + 1) _ rfl (run_loadVar_row _ _ 27 27 _ (0, 0) _ E1.out Tryz.underlying27 rfl (by kernel_rfl))) rfl ?_
    exact RetR.no rfl ((HB2.out.setCell (p := ⟨w.heap.size + 1, 0, none⟩) (Nat.le_succ _) _).setCell (p := ⟨w.heap.size + 1, 1, none⟩) (Nat.le_succ _) _)
  | some x =>
    obtain ⟨v, rfl, hv⟩ := hr
    obtain ⟨kx, fx⟩ := x
    obtain ⟨fv, rfl, hf⟩ := hv
    obtain ⟨ad, cp, rfl, _⟩ := hf.ia.shape
    dsimp only at hf ⊢
    have HF := hid (NV.low (B' := w.heap.size) (NV.set (j := 1) (u := .slice ad fx.length cp) (NV.set (j := 0) (u := .int .i64 kx) (show NV (w.heap.size + 1 + 1) w2 (.agg #[.int .i64 kx, .slice ad fx.length cp]) ⟨kx, fx⟩ from ⟨_, rfl, hf.low HS.out⟩) (R := w.heap.size + 1) (by omega)) (R := w.heap.size + 1) (by omega)) (by omega))
    have E1 := hid (heap_setCell_same _ _ 1 _ _ (.slice ad fx.length cp) (heap_setCell_same _ _ 0 _ _ (.int .i64 kx) Z2.out))
    clear hf
    go_wp2
    refine bodyPost_ret (results_cell_tmp rfl _ _ (w.heap.size + 1) _ rfl (run_loadVar_row _ _ 27 27 _ (0, 0) _ E1.out Tryz.underlying27 rfl (by kernel_rfl))) rfl ?_
    exact RetR.yes rfl ((HB2.out.setCell (p := ⟨w.heap.size + 1, 0, none⟩) (Nat.le_succ _) _).setCell (p := ⟨w.heap.size + 1, 1, none⟩) (Nat.le_succ _) _) HF.out
end Go.Proofs.YtengcdodoblabaaGreatDoor
