/- The reference's Right, walked. -/
import Derived.Test.YtengcdodoblabaaGreatDoorRefR
namespace Go.Proofs.YtengcdodoblabaaGreatDoor
open Go.RowKit

set_option maxRecDepth 8000 in
set_option maxHeartbeats 4000000 in
theorem rr_out (x : Val) (v : Value) (w : World) (hv : VA w v x) (hk : x.kind < 4 ∨ 10 < x.kind) :
    Calls Tryz.prog 24 #[v] w fun e w' => e = .returned (.bool false) ∧ Below w.heap.size w w' := by
  obtain ⟨k, f⟩ := x
  obtain ⟨fv, rfl, hf⟩ := hv
  obtain ⟨ad, cap, rfl, _⟩ := hf.shape
  have HB := hid (up_alloc w (.cells #[.int .i64 k, .slice ad f.length cap] 27))
  dsimp only at *
  clear hf
  generalize f.length = n at *
  rcases hk with hk | hk
  · have g1 : decide (k < 4) = true := decide_eq_true hk
    go_enter Tryz.func24, Tryz.ntmps24
    go_wp2
    go_quiet (fail)
    go_wp2
    go_ret
    exact ⟨rfl, below_drewN HB.out _⟩
  · have g1 : decide (k < 4) = false := decide_eq_false (by omega)
    have g2 : decide (k > 10) = true := decide_eq_true hk
    have g3 : decide (10 < k) = true := decide_eq_true hk
    go_enter Tryz.func24, Tryz.ntmps24
    go_wp2
    go_quiet (fail)
    go_wp2
    go_ret
    exact ⟨rfl, below_drewN HB.out _⟩

set_option maxRecDepth 8000 in
set_option maxHeartbeats 4000000 in
theorem rr_len (x : Val) (v : Value) (w : World) (hv : VA w v x) (h4 : 4 ≤ x.kind) (h10 : x.kind ≤ 10) (hl : ((x.f.length : Int) == fieldsL.getD x.kind.toNat 0) = false) :
    Calls Tryz.prog 24 #[v] w fun e w' => e = .returned (.bool false) ∧ Below w.heap.size w w' := by
  obtain ⟨k, f⟩ := x
  obtain ⟨fv, rfl, hf⟩ := hv
  obtain ⟨ad, cap, rfl, _⟩ := hf.shape
  have HB := hid (up_alloc w (.cells #[.int .i64 k, .slice ad f.length cap] 27))
  dsimp only at *
  clear hf
  have HF := hid fun w => fields_any k w h4 h10
  generalize f.length = n at *
  generalize fieldsL.getD k.toNat 0 = z at *
  have g1 : decide (k < 4) = false := decide_eq_false (by omega)
  have g2 : decide (k > 10) = false := decide_eq_false (by omega)
  have g3 : decide (10 < k) = false := decide_eq_false (by omega)
  have g4 : ((n : Int) != z) = true := by simpa using hl
  clear hl h4 h10
  go_enter Tryz.func24, Tryz.ntmps24
  go_wp2
  go_quiet ((go_at_call 64; exact (HF.out _).mono (fun e w' h => ⟨h.1, _, h.2⟩)))
  go_wp2
  go_ret
  exact ⟨rfl, below_drewN HB.out _⟩

set_option maxRecDepth 8000 in
set_option maxHeartbeats 4000000 in
theorem rr_4 (a b c : Int) (v : Value) (w : World) (hv : IA w v [a, b, c]) :
    Calls Tryz.prog 24 #[.agg #[.int .i64 4, v]] w fun e w' => e = .returned (.bool (Ci.dayB a b c)) ∧ Below w.heap.size w w' := by
  have HU := hid (up_alloc w (.cells #[.int .i64 4, v] 27))
  obtain ⟨bb, oo, cap, rfl, hl, hc, hlt, hcs⟩ := (hv.on HU.out).has (by simp)
  have HF := hid fun w => fields_any 4 w (by decide) (by decide)
  rw [show fieldsL.getD (Int.toNat 4) 0 = 3 by decide] at HF
  have q0 := hcs 0 (by simp)
  have q1 := hcs 1 (by simp)
  have q2 := hcs 2 (by simp)
  simp only [List.length_cons, List.length_nil, Nat.zero_add, Nat.reduceAdd, List.getD_cons_zero, List.getD_cons_succ, Nat.add_zero] at *
  clear hv hcs
  have H1 := hid fun w => Ci.rday_any a b c w
  generalize Ci.dayB a b c = r1 at *
  go_enter Tryz.func24, Tryz.ntmps24
  go_wp2
  go_quiet ((go_at_call 64; exact (HF.out _).mono (fun e w' h => ⟨h.1, _, h.2⟩)))
  go_wp2
  go_quiet ((go_at_call 65; exact (H1.out _).mono (fun e w' h => ⟨h.1, _, h.2⟩)))
  go_wp2
  go_ret
  exact ⟨rfl, below_drewN (below_drewN HU.out _) _⟩

set_option maxRecDepth 8000 in
set_option maxHeartbeats 4000000 in
theorem rr_5 (a b c : Int) (v : Value) (w : World) (hv : IA w v [a, b, c]) :
    Calls Tryz.prog 24 #[.agg #[.int .i64 5, v]] w fun e w' => e = .returned (.bool (Ci.clockB a b c)) ∧ Below w.heap.size w w' := by
  have HU := hid (up_alloc w (.cells #[.int .i64 5, v] 27))
  obtain ⟨bb, oo, cap, rfl, hl, hc, hlt, hcs⟩ := (hv.on HU.out).has (by simp)
  have HF := hid fun w => fields_any 5 w (by decide) (by decide)
  rw [show fieldsL.getD (Int.toNat 5) 0 = 3 by decide] at HF
  have q0 := hcs 0 (by simp)
  have q1 := hcs 1 (by simp)
  have q2 := hcs 2 (by simp)
  simp only [List.length_cons, List.length_nil, Nat.zero_add, Nat.reduceAdd, List.getD_cons_zero, List.getD_cons_succ, Nat.add_zero] at *
  clear hv hcs
  have H1 := hid fun w => Ci.rclock_any a b c w
  generalize Ci.clockB a b c = r1 at *
  go_enter Tryz.func24, Tryz.ntmps24
  go_wp2
  go_quiet ((go_at_call 64; exact (HF.out _).mono (fun e w' h => ⟨h.1, _, h.2⟩)))
  go_wp2
  go_quiet ((go_at_call 66; exact (H1.out _).mono (fun e w' h => ⟨h.1, _, h.2⟩)))
  go_wp2
  go_ret
  exact ⟨rfl, below_drewN (below_drewN HU.out _) _⟩

set_option maxRecDepth 8000 in
set_option maxHeartbeats 4000000 in
theorem rr_6 (a b c d u z : Int) (v : Value) (w : World) (hv : IA w v [a, b, c, d, u, z]) :
    Calls Tryz.prog 24 #[.agg #[.int .i64 6, v]] w fun e w' => e = .returned (.bool (Ci.dayB a b c && Ci.clockB d u z)) ∧ Below w.heap.size w w' := by
  have HU := hid (up_alloc w (.cells #[.int .i64 6, v] 27))
  obtain ⟨bb, oo, cap, rfl, hl, hc, hlt, hcs⟩ := (hv.on HU.out).has (by simp)
  have HF := hid fun w => fields_any 6 w (by decide) (by decide)
  rw [show fieldsL.getD (Int.toNat 6) 0 = 6 by decide] at HF
  have q0 := hcs 0 (by simp)
  have q1 := hcs 1 (by simp)
  have q2 := hcs 2 (by simp)
  have q3 := hcs 3 (by simp)
  have q4 := hcs 4 (by simp)
  have q5 := hcs 5 (by simp)
  simp only [List.length_cons, List.length_nil, Nat.zero_add, Nat.reduceAdd, List.getD_cons_zero, List.getD_cons_succ, Nat.add_zero] at *
  clear hv hcs
  have H1 := hid fun w => Ci.rday_any a b c w
  have H2 := hid fun w => Ci.rclock_any d u z w
  generalize Ci.dayB a b c = r1 at *
  generalize Ci.clockB d u z = r2 at *
  cases r1
  all_goals
    go_enter Tryz.func24, Tryz.ntmps24
    go_wp2
    go_quiet ((go_at_call 64; exact (HF.out _).mono (fun e w' h => ⟨h.1, _, h.2⟩)))
    go_wp2
    go_quiet ((first | (go_at_call 65; exact (H1.out _).mono (fun e w' h => ⟨h.1, _, h.2⟩)) | (go_at_call 66; exact (H2.out _).mono (fun e w' h => ⟨h.1, _, h.2⟩))))
    go_wp2
    go_ret
    exact ⟨by simp, below_drewN (below_drewN HU.out _) _⟩

set_option maxRecDepth 8000 in
set_option maxHeartbeats 4000000 in
theorem rr_7 (a b : Int) (v : Value) (w : World) (hv : IA w v [a, b]) :
    Calls Tryz.prog 24 #[.agg #[.int .i64 7, v]] w fun e w' => e = .returned (.bool (normB a b)) ∧ Below w.heap.size w w' := by
  have HU := hid (up_alloc w (.cells #[.int .i64 7, v] 27))
  obtain ⟨bb, oo, cap, rfl, hl, hc, hlt, hcs⟩ := (hv.on HU.out).has (by simp)
  have HF := hid fun w => fields_any 7 w (by decide) (by decide)
  rw [show fieldsL.getD (Int.toNat 7) 0 = 2 by decide] at HF
  have q0 := hcs 0 (by simp)
  have q1 := hcs 1 (by simp)
  simp only [List.length_cons, List.length_nil, Nat.zero_add, Nat.reduceAdd, List.getD_cons_zero, List.getD_cons_succ, Nat.add_zero] at *
  clear hv hcs
  have H1 := hid fun w => rdec_any a b w
  generalize normB a b = r1 at *
  go_enter Tryz.func24, Tryz.ntmps24
  go_wp2
  go_quiet ((go_at_call 64; exact (HF.out _).mono (fun e w' h => ⟨h.1, _, h.2⟩)))
  go_wp2
  go_quiet ((go_at_call 67; exact (H1.out _).mono (fun e w' h => ⟨h.1, _, h.2⟩)))
  go_wp2
  go_ret
  exact ⟨rfl, below_drewN (below_drewN HU.out _) _⟩

set_option maxRecDepth 8000 in
set_option maxHeartbeats 4000000 in
theorem rr_8 (a b : Int) (v : Value) (w : World) (hv : IA w v [a, b]) :
    Calls Tryz.prog 24 #[.agg #[.int .i64 8, v]] w fun e w' => e = .returned (.bool (inB a 0 1000000000 && inB b (-999999999999999999) 999999999999999999)) ∧ Below w.heap.size w w' := by
  have HU := hid (up_alloc w (.cells #[.int .i64 8, v] 27))
  obtain ⟨bb, oo, cap, rfl, hl, hc, hlt, hcs⟩ := (hv.on HU.out).has (by simp)
  have HF := hid fun w => fields_any 8 w (by decide) (by decide)
  rw [show fieldsL.getD (Int.toNat 8) 0 = 2 by decide] at HF
  have q0 := hcs 0 (by simp)
  have q1 := hcs 1 (by simp)
  simp only [List.length_cons, List.length_nil, Nat.zero_add, Nat.reduceAdd, List.getD_cons_zero, List.getD_cons_succ, Nat.add_zero] at *
  clear hv hcs
  by_cases h1 : 0 ≤ a
  · by_cases h2 : a ≤ 1000000000
    · rw [inB_true h1 h2, Bool.true_and]
      by_cases h3 : -1000000000000000000 < b
      · by_cases h4 : b < 1000000000000000000
        · rw [inB_true (by omega) (by omega)]
          go_enter Tryz.func24, Tryz.ntmps24
          go_wp2
          go_quiet ((go_at_call 64; exact (HF.out _).mono (fun e w' h => ⟨h.1, _, h.2⟩)))
          go_wp2
          go_ret
          exact ⟨by first | rfl | (simp; omega), below_drewN HU.out _⟩
        · rw [inB_false (by omega)]
          go_enter Tryz.func24, Tryz.ntmps24
          go_wp2
          go_quiet ((go_at_call 64; exact (HF.out _).mono (fun e w' h => ⟨h.1, _, h.2⟩)))
          go_wp2
          go_ret
          exact ⟨by first | rfl | (simp; omega), below_drewN HU.out _⟩
      · rw [inB_false (by omega)]
        go_enter Tryz.func24, Tryz.ntmps24
        go_wp2
        go_quiet ((go_at_call 64; exact (HF.out _).mono (fun e w' h => ⟨h.1, _, h.2⟩)))
        go_wp2
        go_ret
        exact ⟨by first | rfl | (simp; omega), below_drewN HU.out _⟩
    · rw [inB_false (by omega), Bool.false_and]
      go_enter Tryz.func24, Tryz.ntmps24
      go_wp2
      go_quiet ((go_at_call 64; exact (HF.out _).mono (fun e w' h => ⟨h.1, _, h.2⟩)))
      go_wp2
      go_ret
      exact ⟨by first | rfl | (simp; omega), below_drewN HU.out _⟩
  · rw [inB_false (by omega), Bool.false_and]
    go_enter Tryz.func24, Tryz.ntmps24
    go_wp2
    go_quiet ((go_at_call 64; exact (HF.out _).mono (fun e w' h => ⟨h.1, _, h.2⟩)))
    go_wp2
    go_ret
    exact ⟨by first | rfl | (simp; omega), below_drewN HU.out _⟩

set_option maxRecDepth 8000 in
set_option maxHeartbeats 4000000 in
theorem rr_9 (a : Int) (v : Value) (w : World) (hv : IA w v [a]) :
    Calls Tryz.prog 24 #[.agg #[.int .i64 9, v]] w fun e w' => e = .returned (.bool (inB a 0 9007199254740991)) ∧ Below w.heap.size w w' := by
  have HU := hid (up_alloc w (.cells #[.int .i64 9, v] 27))
  obtain ⟨bb, oo, cap, rfl, hl, hc, hlt, hcs⟩ := (hv.on HU.out).has (by simp)
  have HF := hid fun w => fields_any 9 w (by decide) (by decide)
  rw [show fieldsL.getD (Int.toNat 9) 0 = 1 by decide] at HF
  have q0 := hcs 0 (by simp)
  simp only [List.length_cons, List.length_nil, Nat.zero_add, List.getD_cons_zero, Nat.add_zero] at *
  clear hv hcs
  by_cases h1 : 0 ≤ a
  · by_cases h2 : a ≤ 9007199254740991
    · rw [inB_true h1 h2]
      go_enter Tryz.func24, Tryz.ntmps24
      go_wp2
      go_quiet ((go_at_call 64; exact (HF.out _).mono (fun e w' h => ⟨h.1, _, h.2⟩)))
      go_wp2
      go_ret
      exact ⟨by first | rfl | (simp; omega), below_drewN HU.out _⟩
    · rw [inB_false (by omega)]
      go_enter Tryz.func24, Tryz.ntmps24
      go_wp2
      go_quiet ((go_at_call 64; exact (HF.out _).mono (fun e w' h => ⟨h.1, _, h.2⟩)))
      go_wp2
      go_ret
      exact ⟨by first | rfl | (simp; omega), below_drewN HU.out _⟩
  · rw [inB_false (by omega)]
    go_enter Tryz.func24, Tryz.ntmps24
    go_wp2
    go_quiet ((go_at_call 64; exact (HF.out _).mono (fun e w' h => ⟨h.1, _, h.2⟩)))
    go_wp2
    go_ret
    exact ⟨by first | rfl | (simp; omega), below_drewN HU.out _⟩

set_option maxRecDepth 8000 in
set_option maxHeartbeats 4000000 in
theorem rr_10 (a b c d u z : Int) (v : Value) (w : World) (hv : IA w v [a, b, c, d, u, z]) :
    Calls Tryz.prog 24 #[.agg #[.int .i64 10, v]] w fun e w' => e = .returned (.bool (Ci.dayB a b c && Ci.dayB d u z && decide (Ci.Civ.num a b c ≤ Ci.Civ.num d u z))) ∧ Below w.heap.size w w' := by
  have HU := hid (up_alloc w (.cells #[.int .i64 10, v] 27))
  obtain ⟨bb, oo, cap, rfl, hl, hc, hlt, hcs⟩ := (hv.on HU.out).has (by simp)
  have HF := hid fun w => fields_any 10 w (by decide) (by decide)
  rw [show fieldsL.getD (Int.toNat 10) 0 = 6 by decide] at HF
  have q0 := hcs 0 (by simp)
  have q1 := hcs 1 (by simp)
  have q2 := hcs 2 (by simp)
  have q3 := hcs 3 (by simp)
  have q4 := hcs 4 (by simp)
  have q5 := hcs 5 (by simp)
  simp only [List.length_cons, List.length_nil, Nat.zero_add, Nat.reduceAdd, List.getD_cons_zero, List.getD_cons_succ, Nat.add_zero] at *
  clear hv hcs
  have H1 := hid fun (x y t : Int) (w : World) (h : (x = a ∧ y = b ∧ t = c) ∨ (x = d ∧ y = u ∧ t = z)) => Ci.rday_any x y t w
  have hD := hid fun (x y t : Int) (w : World) (hm : Ci.Civ.vld x y t = true) (hy : 1 ≤ x ∧ x ≤ 9999) => (show Calls Tryz.prog 29 #[.int .i64 x, .int .i64 y, .int .i64 t] w _ from Ci.rdays_any x y t w (by omega) (by omega) ((Ci.Civ.vld_iff _ _ _).1 hm).1 ((Ci.Civ.vld_iff _ _ _).1 hm).2.1 ((Ci.Civ.vld_iff _ _ _).1 hm).2.2.1 (by have := ((Ci.Civ.vld_iff _ _ _).1 hm).2.2.2; have := Ci.len_le x y; omega))
  have b1 : Ci.dayB a b c = true → (1 ≤ a ∧ a ≤ 9999) ∧ Ci.Civ.vld a b c = true := fun h => by unfold Ci.dayB Ci.inB at h; simp only [Bool.and_eq_true, decide_eq_true_eq] at h; exact h
  have b2 : Ci.dayB d u z = true → (1 ≤ d ∧ d ≤ 9999) ∧ Ci.Civ.vld d u z = true := fun h => by unfold Ci.dayB Ci.inB at h; simp only [Bool.and_eq_true, decide_eq_true_eq] at h; exact h
  have H5 : Hid (Ci.dayB a b c = true → Ci.dayB d u z = true → ∀ x y t w, (x = a ∧ y = b ∧ t = c) ∨ (x = d ∧ y = u ∧ t = z) → Calls Tryz.prog 29 #[.int .i64 x, .int .i64 y, .int .i64 t] w fun e w' => e = .returned (.int .i64 (Ci.Civ.num x y t)) ∧ w' = w) := hid fun h1 h2 x y t w h => by
    rcases h with ⟨rfl, rfl, rfl⟩ | ⟨rfl, rfl, rfl⟩
    · exact hD.out _ _ _ w (b1 h1).2 (b1 h1).1
    · exact hD.out _ _ _ w (b2 h2).2 (b2 h2).1
  clear hD b1 b2
  generalize Ci.Civ.num = N at *
  generalize Ci.dayB = D at *
  cases hr1 : D a b c with
  | false =>
    have HA := hid fun w => H1.out a b c w (.inl ⟨rfl, rfl, rfl⟩)
    rw [hr1] at HA
    clear H1 H5 hr1
    go_enter Tryz.func24, Tryz.ntmps24
    go_wp2
    go_quiet ((go_at_call 64; exact (HF.out _).mono (fun e w' h => ⟨h.1, _, h.2⟩)))
    go_wp2
    go_quiet ((go_at_call 65; exact (HA.out _).mono (fun e w' h => ⟨h.1, _, h.2⟩)))
    go_wp2
    go_ret
    exact ⟨by first | rfl | simp, below_drewN (below_drewN HU.out _) _⟩
  | true =>
    cases hr2 : D d u z with
    | false =>
      have HA := hid fun (x y t : Int) (r : Bool) (w : World) (h : ((x = a ∧ y = b ∧ t = c) ∧ r = true) ∨ ((x = d ∧ y = u ∧ t = z) ∧ r = false)) => (show Calls Tryz.prog 65 #[.int .i64 x, .int .i64 y, .int .i64 t] w fun e w' => e = .returned (.bool r) ∧ w' = w from by
        rcases h with ⟨⟨rfl, rfl, rfl⟩, rfl⟩ | ⟨⟨rfl, rfl, rfl⟩, rfl⟩
        · rw [← hr1]; exact H1.out _ _ _ w (.inl ⟨rfl, rfl, rfl⟩)
        · rw [← hr2]; exact H1.out _ _ _ w (.inr ⟨rfl, rfl, rfl⟩))
      clear H1 H5 hr1 hr2
      go_enter Tryz.func24, Tryz.ntmps24
      go_wp2
      go_quiet ((go_at_call 64; exact (HF.out _).mono (fun e w' h => ⟨h.1, _, h.2⟩)))
      go_wp2
      go_quiet ((go_at_call 65; exact (HA.out _ _ _ _ _ (by first | exact Or.inl ⟨⟨rfl, rfl, rfl⟩, rfl⟩ | exact Or.inr ⟨⟨rfl, rfl, rfl⟩, rfl⟩)).mono (fun e w' h => ⟨h.1, _, h.2⟩)))
      go_wp2
      go_ret
      exact ⟨by first | rfl | simp, below_drewN (below_drewN HU.out _) _⟩
    | true =>
      have H2 := hid (H5.out hr1 hr2)
      go_enter Tryz.func24, Tryz.ntmps24
      go_wp2
      go_quiet ((go_at_call 64; exact (HF.out _).mono (fun e w' h => ⟨h.1, _, h.2⟩)))
      go_wp2
      go_quiet ((first | (go_at_call 65; exact (H1.out _ _ _ _ (by first | exact Or.inl ⟨rfl, rfl, rfl⟩ | exact Or.inr ⟨rfl, rfl, rfl⟩)).mono (fun e w' h => ⟨h.1, _, h.2⟩)) | (go_at_call 29; exact (H2.out _ _ _ _ (by first | exact Or.inl ⟨rfl, rfl, rfl⟩ | exact Or.inr ⟨rfl, rfl, rfl⟩)).mono (fun e w' h => ⟨h.1, _, h.2⟩))))
      go_wp2
      go_ret
      exact ⟨by first | rfl | simp, below_drewN (below_drewN HU.out _) _⟩
theorem rright_any (x : Val) (v : Value) (w : World) (hv : VA w v x) :
    Calls Tryz.prog 24 #[v] w fun e w' => e = .returned (.bool (rightB x)) ∧ Below w.heap.size w w' := by
  rw [← rrB_eq]
  by_cases hk : x.kind < 4 ∨ 10 < x.kind
  · rw [show rrB x = false by
      unfold rrB
      rcases hk with hk | hk
      · rw [decide_eq_false (show ¬ 4 ≤ x.kind by omega)]; simp
      · rw [decide_eq_false (show ¬ x.kind ≤ 10 by omega)]; simp]
    exact rr_out x v w hv hk
  · have h4 : 4 ≤ x.kind := by omega
    have h10 : x.kind ≤ 10 := by omega
    cases hl : ((x.f.length : Int) == fieldsL.getD x.kind.toNat 0) with
    | false =>
      rw [show rrB x = false by unfold rrB; rw [hl]; simp]
      exact rr_len x v w hv h4 h10 hl
    | true =>
      obtain ⟨k, f⟩ := x
      obtain ⟨fv, rfl, hf⟩ := hv
      dsimp only at *
      have hle := beq_iff_eq.1 hl
      have hk' : k = 4 ∨ k = 5 ∨ k = 6 ∨ k = 7 ∨ k = 8 ∨ k = 9 ∨ k = 10 := by omega
      rcases hk' with rfl | rfl | rfl | rfl | rfl | rfl | rfl
      · obtain ⟨a, b, c, rfl⟩ := len3 (f := f) (by have : (f.length : Int) = 3 := hle; omega)
        exact rr_4 a b c _ w hf
      · obtain ⟨a, b, c, rfl⟩ := len3 (f := f) (by have : (f.length : Int) = 3 := hle; omega)
        exact rr_5 a b c _ w hf
      · obtain ⟨a, b, c, d, u, z, rfl⟩ := len6 (f := f) (by have : (f.length : Int) = 6 := hle; omega)
        exact rr_6 a b c d u z _ w hf
      · obtain ⟨a, b, rfl⟩ := len2 (f := f) (by have : (f.length : Int) = 2 := hle; omega)
        exact rr_7 a b _ w hf
      · obtain ⟨a, b, rfl⟩ := len2 (f := f) (by have : (f.length : Int) = 2 := hle; omega)
        exact rr_8 a b _ w hf
      · obtain ⟨a, rfl⟩ := len1 (f := f) (by have : (f.length : Int) = 1 := hle; omega)
        exact rr_9 a _ w hf
      · obtain ⟨a, b, c, d, u, z, rfl⟩ := len6 (f := f) (by have : (f.length : Int) = 6 := hle; omega)
        exact rr_10 a b c d u z _ w hf
end Go.Proofs.YtengcdodoblabaaGreatDoor
