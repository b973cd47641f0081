/- A decimal in memory stripped of the zeros that end it, and brought to so many digits behind the point: what the loops of package dec leave. -/
import Derived.Test.YtengcdodoblabaaGreatDoorDeLeaf
namespace Go.Proofs.YtengcdodoblabaaGreatDoor.De
open Go.RowKit

def scaleAt (b : Nat) (w : World) : Nat := match w.cell? ⟨b, 1, none⟩ with | some (.int _ q) => q.toNat | _ => 0
theorem scaleAt_of {b : Nat} {m s : Int} {w : World} (h : DA b m s w) : scaleAt b w = s.toNat := by unfold scaleAt; rw [h.c1]

/-- one step of the norm -/
theorem norm_step (m : Int) (s : Nat) (hs : 0 < s) (hm : m % 10 = 0) : Dc.norm m s = Dc.norm (m / 10) (s - 1) := by
  obtain ⟨k, rfl⟩ : ∃ k, s = k + 1 := ⟨s - 1, by omega⟩
  rw [Dc.norm, if_pos hm]; rfl
theorem norm_stop (m : Int) (s : Nat) (h : s = 0 ∨ ¬ m % 10 = 0) : Dc.norm m s = (m, s) := by
  cases s with
  | zero => rfl
  | succ k => rw [Dc.norm, if_neg (by omega)]

set_option maxRecDepth 100000 in
set_option maxHeartbeats 1000000 in
theorem strip_any (b : Nat) (m : Int) (s : Nat) (w : World) (h : DA b m s w) (hs : s ≤ 18) (h0 : -1000000000000000000 < m) (h1 : m < 1000000000000000000) :
    Calls Tryz.prog 110 #[.pointer (some ⟨b, 0, none⟩)] w fun e w' => e = .returned (.tuple #[]) ∧ DA b (Dc.norm m s).1 (Dc.norm m s).2 w' ∧ Below b w w' := by
  go_enter Tryz.func110, Tryz.ntmps110
  go_wp2
  refine wp_scope_jumps 0 (fun a' w' => ∃ (n : Int) (t : Nat) (u2 u3 : Value), a' = { tmps := #[.pointer (some ⟨b, 0, none⟩), undef, u2, u3], defers := [] } ∧ DA b n t w' ∧ t ≤ 18 ∧ -1000000000000000000 < n ∧ n < 1000000000000000000 ∧ Hid (Dc.norm n t = Dc.norm m s) ∧ Below b w w') (fun _ w' => scaleAt b w') rfl ?_ ?_
  · go_wp2
    go_step3
    by_cases hz : s = 0 ∨ ¬ m % 10 = 0
    · have HN := hid (norm_stop m s hz)
      have HC : Hid (∀ w, DA b m s w → Calls Tryz.prog 120 #[.pointer (some ⟨b, 0, none⟩)] w fun e w' => e = .returned (.bool false) ∧ w' = w) := fun w h => by
        by_cases h5 : s = 0
        · subst h5; exact shorter_zero b m w h
        · exact shorter_no b m s w h (by omega) (by omega)
      go_wp2_with fail
      refine (HC.out _ h).mono ?_
      rintro e w1 ⟨rfl, rfl⟩
      go_wp2
      simp only [Exit.jump]
      go_end0
      rw [HN.out]
      exact ⟨rfl, h, Below.refl _ _⟩
    · have hm : m % 10 = 0 := by omega
      have HN := hid (norm_step m s (by omega) hm)
      have HC : Hid (∀ w, DA b m s w → Calls Tryz.prog 120 #[.pointer (some ⟨b, 0, none⟩)] w fun e w' => e = .returned (.bool true) ∧ DA b (m / 10) (s - 1) w' ∧ Below b w w') := fun w h => shorter_yes b m s w h (by omega) (by omega) hm h0 h1
      go_wp2_with fail
      refine (HC.out _ h).mono ?_
      rintro e w1 ⟨rfl, d1, b1⟩
      go_wp2
      go_step3
      refine ⟨rfl, m / 10, s - 1, _, _, rfl, ?_, by omega, by omega, by omega, HN.out.symm, b1⟩
      rw [show ((s - 1 : Nat) : Int) = (s : Int) - 1 by omega]; exact d1
  · rintro a' w' ⟨n, t, u2, u3, rfl, hd, ht, n0, n1, he, hb⟩
    by_cases hz : t = 0 ∨ ¬ n % 10 = 0
    · have HN := hid (norm_stop n t hz)
      have HC : Hid (∀ w, DA b n t w → Calls Tryz.prog 120 #[.pointer (some ⟨b, 0, none⟩)] w fun e w' => e = .returned (.bool false) ∧ w' = w) := fun w h => by
        by_cases h5 : t = 0
        · subst h5; exact shorter_zero b n w h
        · exact shorter_no b n t w h (by omega) (by omega)
      go_wp2_with fail
      refine (HC.out _ hd).mono ?_
      rintro e w1 ⟨rfl, rfl⟩
      go_wp2
      simp only [Exit.jump]
      go_end0
      rw [← he.out, HN.out]
      exact ⟨rfl, hd, hb⟩
    · have hm : n % 10 = 0 := by omega
      have HN := hid (norm_step n t (by omega) hm)
      have HC : Hid (∀ w, DA b n t w → Calls Tryz.prog 120 #[.pointer (some ⟨b, 0, none⟩)] w fun e w' => e = .returned (.bool true) ∧ DA b (n / 10) (t - 1) w' ∧ Below b w w') := fun w h => shorter_yes b n t w h (by omega) (by omega) hm n0 n1
      go_wp2_with fail
      refine (HC.out _ hd).mono ?_
      rintro e w1 ⟨rfl, d1, b1⟩
      go_wp2
      go_step3
      refine ⟨rfl, ⟨n / 10, t - 1, _, _, rfl, ?_, by omega, by omega, by omega, ?_, hb.trans b1⟩, ?_⟩
      · rw [show ((t - 1 : Nat) : Int) = (t : Int) - 1 by omega]; exact d1
      · exact HN.out.symm.trans he.out
      · rw [scaleAt_of d1, scaleAt_of hd]; omega

theorem down_step (m : Int) (s to : Nat) (h : to < s) (hm : m % 10 = 0) : Dc.down m (s - to) = Dc.down (m / 10) (s - 1 - to) := by
  rw [show s - to = (s - 1 - to) + 1 by omega, Dc.down, if_pos hm]
theorem down_stop (m : Int) (s to : Nat) (h : to < s) (hm : ¬ m % 10 = 0) : Dc.down m (s - to) = none := by
  rw [show s - to = (s - 1 - to) + 1 by omega, Dc.down, if_neg hm]
theorem up_step (m : Int) (s to : Nat) (h : s < to) (hm : -99999999999999999 ≤ m ∧ m ≤ 99999999999999999) : Dc.up m (to - s) = Dc.up (10 * m) (to - (s + 1)) := by
  rw [show to - s = (to - (s + 1)) + 1 by omega, Dc.up, if_pos hm]
theorem up_stop (m : Int) (s to : Nat) (h : s < to) (hm : ¬ (-99999999999999999 ≤ m ∧ m ≤ 99999999999999999)) : Dc.up m (to - s) = none := by
  rw [show to - s = (to - (s + 1)) + 1 by omega, Dc.up, if_neg hm]

set_option maxRecDepth 100000 in
set_option maxHeartbeats 2000000 in
theorem reach_down (b : Nat) (m : Int) (s to : Nat) (w : World) (h : DA b m s w) (hs : s ≤ 18) (hto : to ≤ 18) (ht : to < s) (h0 : -1000000000000000000 < m) (h1 : m < 1000000000000000000) :
    Calls Tryz.prog 108 #[.pointer (some ⟨b, 0, none⟩), .int .i64 to] w fun e w' => e = .returned (.bool (Dc.down m (s - to)).isSome) ∧ Below b w w' ∧ ∀ v, Dc.down m (s - to) = some v → DA b v to w' := by
  have hmf : ∀ (fn : Fn) (first cap : Array Value) (w : World), (Instr.makeFunc fn first cap).run Tryz.prog w = .ok (.func fn first cap) w := fun _ _ _ _ => rfl
  have hc1 := h.c1
  go_enter Tryz.func108, Tryz.ntmps108
  go_wp2
  refine wp_scope_jumps 0 (fun a' w' => ∃ (n : Int) (t : Nat) (u6 u7 u8 u9 u10 u11 u12 u13 u14 u15 u16 u17 u18 u19 u20 u21 u22 u23 : Value), a' = { tmps := #[.pointer (some ⟨b, 0, none⟩), .int .i64 to, undef, undef, .bool false, .func (.func 120) #[.pointer (some ⟨b, 0, none⟩)] #[], u6, u7, u8, u9, u10, u11, u12, u13, u14, u15, u16, u17, u18, u19, u20, u21, u22, u23], defers := [] } ∧ DA b n t w' ∧ t ≤ 18 ∧ to ≤ t ∧ -1000000000000000000 < n ∧ n < 1000000000000000000 ∧ Hid (Dc.down n (t - to) = Dc.down m (s - to)) ∧ Below b w w') (fun _ w' => scaleAt b w') rfl ?_ ?_
  · go_wp2
    go_step3
    by_cases hz : s = to
    · omega
    · have hz2 : ((s : Int) == (to : Int)) = false := by simp; omega
      by_cases hm : m % 10 = 0
      · have HN := hid (down_step m s to (by omega) hm)
        have HC : Hid (∀ w, DA b m s w → Calls Tryz.prog 120 #[.pointer (some ⟨b, 0, none⟩)] w fun e w' => e = .returned (.bool true) ∧ DA b (m / 10) ((s : Int) - 1) w' ∧ Below b w w') := fun w h => shorter_yes b m s w h (by omega) (by omega) hm h0 h1
        go_wp2_with fail
        refine (HC.out _ h).mono ?_
        rintro e w1 ⟨rfl, d1, b1⟩
        go_wp2
        go_step3
        have d2 : DA b (m / 10) ((s - 1 : Nat) : Int) w1 := by rw [show ((s - 1 : Nat) : Int) = (s : Int) - 1 by omega]; exact d1
        refine ⟨rfl, m / 10, s - 1, _, _, _, _, _, _, _, _, _, _, _, _, _, _, _, _, _, _, rfl, d2, by omega, by omega, by omega, by omega, HN.out.symm, b1⟩
      · have HN := hid (down_stop m s to (by omega) hm)
        have HC : Hid (∀ w, DA b m s w → Calls Tryz.prog 120 #[.pointer (some ⟨b, 0, none⟩)] w fun e w' => e = .returned (.bool false) ∧ w' = w) := fun w h => shorter_no b m s w h (by omega) hm
        go_wp2_with fail
        refine (HC.out _ h).mono ?_
        rintro e w1 ⟨rfl, rfl⟩
        go_wp2
        simp only [Exit.jump]
        go_ret
        have e1 : Dc.down m (s - to) = none := by exact HN.out
        rw [e1]
        exact ⟨rfl, (Below.refl _ _), fun v hv => by cases hv⟩
  · rintro a' w' ⟨n, t, u6, u7, u8, u9, u10, u11, u12, u13, u14, u15, u16, u17, u18, u19, u20, u21, u22, u23, rfl, hd, ht18, htt, n0, n1, he, hb⟩
    have hc2 := hd.c1
    by_cases hz : t = to
    · subst hz
      go_wp2
      simp only [Exit.jump]
      go_ret
      have e1 : Dc.down m (s - t) = some n := by rw [← he.out, Nat.sub_self]; rfl
      rw [e1]
      exact ⟨rfl, hb, fun v hv => by obtain rfl := Option.some.inj hv; exact hd⟩
    · have hz2 : ((t : Int) == (to : Int)) = false := by simp; omega
      by_cases hm : n % 10 = 0
      · have HN := hid (down_step n t to (by omega) hm)
        have HC : Hid (∀ w, DA b n t w → Calls Tryz.prog 120 #[.pointer (some ⟨b, 0, none⟩)] w fun e w' => e = .returned (.bool true) ∧ DA b (n / 10) ((t : Int) - 1) w' ∧ Below b w w') := fun w h => shorter_yes b n t w h (by omega) (by omega) hm n0 n1
        go_wp2_with fail
        refine (HC.out _ hd).mono ?_
        rintro e w1 ⟨rfl, d1, b1⟩
        go_wp2
        go_step3
        have d2 : DA b (n / 10) ((t - 1 : Nat) : Int) w1 := by rw [show ((t - 1 : Nat) : Int) = (t : Int) - 1 by omega]; exact d1
        refine ⟨rfl, ⟨n / 10, t - 1, _, _, _, _, _, _, _, _, _, _, _, _, _, _, _, _, _, _, rfl, d2, by omega, by omega, by omega, by omega, HN.out.symm.trans he.out, hb.trans b1⟩, ?_⟩
        rw [scaleAt_of d1, scaleAt_of hd]; omega
      · have HN := hid (down_stop n t to (by omega) hm)
        have HC : Hid (∀ w, DA b n t w → Calls Tryz.prog 120 #[.pointer (some ⟨b, 0, none⟩)] w fun e w' => e = .returned (.bool false) ∧ w' = w) := fun w h => shorter_no b n t w h (by omega) hm
        go_wp2_with fail
        refine (HC.out _ hd).mono ?_
        rintro e w1 ⟨rfl, rfl⟩
        go_wp2
        simp only [Exit.jump]
        go_ret
        have e1 : Dc.down m (s - to) = none := by rw [← he.out]; exact HN.out
        rw [e1]
        exact ⟨rfl, hb, fun v hv => by cases hv⟩

set_option maxRecDepth 100000 in
set_option maxHeartbeats 2000000 in
theorem reach_up (b : Nat) (m : Int) (s to : Nat) (w : World) (h : DA b m s w) (hs : s ≤ 18) (hto : to ≤ 18) (ht : s ≤ to) (h0 : -1000000000000000000 < m) (h1 : m < 1000000000000000000) :
    Calls Tryz.prog 108 #[.pointer (some ⟨b, 0, none⟩), .int .i64 to] w fun e w' => e = .returned (.bool (Dc.up m (to - s)).isSome) ∧ Below b w w' ∧ ∀ v, Dc.up m (to - s) = some v → DA b v to w' := by
  have hmf : ∀ (fn : Fn) (first cap : Array Value) (w : World), (Instr.makeFunc fn first cap).run Tryz.prog w = .ok (.func fn first cap) w := fun _ _ _ _ => rfl
  have hc1 := h.c1
  go_enter Tryz.func108, Tryz.ntmps108
  go_wp2
  refine wp_scope_jumps 0 (fun a' w' => ∃ (n : Int) (t : Nat) (u6 u7 u8 u9 u10 u11 u12 u13 u14 u15 u16 u17 u18 u19 u20 u21 u22 u23 : Value), a' = { tmps := #[.pointer (some ⟨b, 0, none⟩), .int .i64 to, undef, undef, .bool false, .func (.func 119) #[.pointer (some ⟨b, 0, none⟩)] #[], u6, u7, u8, u9, u10, u11, u12, u13, u14, u15, u16, u17, u18, u19, u20, u21, u22, u23], defers := [] } ∧ DA b n t w' ∧ t ≤ 18 ∧ t ≤ to ∧ -1000000000000000000 < n ∧ n < 1000000000000000000 ∧ Hid (Dc.up n (to - t) = Dc.up m (to - s)) ∧ Below b w w') (fun _ w' => 18 - scaleAt b w') rfl ?_ ?_
  · go_wp2
    go_step3
    by_cases hz : s = to
    · subst hz
      go_wp2
      simp only [Exit.jump]
      go_ret
      have e1 : Dc.up m (s - s) = some m := by rw [Nat.sub_self]; rfl
      rw [e1]
      exact ⟨rfl, (Below.refl _ _), fun v hv => by obtain rfl := Option.some.inj hv; exact h⟩
    · have hz2 : ((s : Int) == (to : Int)) = false := by simp; omega
      by_cases hm : -99999999999999999 ≤ m ∧ m ≤ 99999999999999999
      · have HN := hid (up_step m s to (by omega) hm)
        have HC : Hid (∀ w, DA b m s w → Calls Tryz.prog 119 #[.pointer (some ⟨b, 0, none⟩)] w fun e w' => e = .returned (.bool true) ∧ DA b (10 * m) ((s : Int) + 1) w' ∧ Below b w w') := fun w h => longer_yes b m s w h (by omega) (by omega) hm.1 hm.2
        go_wp2_with fail
        refine (HC.out _ h).mono ?_
        rintro e w1 ⟨rfl, d1, b1⟩
        go_wp2
        go_step3
        have d2 : DA b (10 * m) ((s + 1 : Nat) : Int) w1 := by rw [show ((s + 1 : Nat) : Int) = (s : Int) + 1 by omega]; exact d1
        refine ⟨rfl, 10 * m, s + 1, _, _, _, _, _, _, _, _, _, _, _, _, _, _, _, _, _, _, rfl, d2, by omega, by omega, by omega, by omega, HN.out.symm, b1⟩
      · have HN := hid (up_stop m s to (by omega) hm)
        have HC : Hid (∀ w, DA b m s w → Calls Tryz.prog 119 #[.pointer (some ⟨b, 0, none⟩)] w fun e w' => e = .returned (.bool false) ∧ w' = w) := fun w h => longer_no b m s w h (by omega) hm
        go_wp2_with fail
        refine (HC.out _ h).mono ?_
        rintro e w1 ⟨rfl, rfl⟩
        go_wp2
        simp only [Exit.jump]
        go_ret
        have e1 : Dc.up m (to - s) = none := by exact HN.out
        rw [e1]
        exact ⟨rfl, (Below.refl _ _), fun v hv => by cases hv⟩
  · rintro a' w' ⟨n, t, u6, u7, u8, u9, u10, u11, u12, u13, u14, u15, u16, u17, u18, u19, u20, u21, u22, u23, rfl, hd, ht18, htt, n0, n1, he, hb⟩
    have hc2 := hd.c1
    by_cases hz : t = to
    · subst hz
      go_wp2
      simp only [Exit.jump]
      go_ret
      have e1 : Dc.up m (t - s) = some n := by rw [← he.out, Nat.sub_self]; rfl
      rw [e1]
      exact ⟨rfl, hb, fun v hv => by obtain rfl := Option.some.inj hv; exact hd⟩
    · have hz2 : ((t : Int) == (to : Int)) = false := by simp; omega
      by_cases hm : -99999999999999999 ≤ n ∧ n ≤ 99999999999999999
      · have HN := hid (up_step n t to (by omega) hm)
        have HC : Hid (∀ w, DA b n t w → Calls Tryz.prog 119 #[.pointer (some ⟨b, 0, none⟩)] w fun e w' => e = .returned (.bool true) ∧ DA b (10 * n) ((t : Int) + 1) w' ∧ Below b w w') := fun w h => longer_yes b n t w h (by omega) (by omega) hm.1 hm.2
        go_wp2_with fail
        refine (HC.out _ hd).mono ?_
        rintro e w1 ⟨rfl, d1, b1⟩
        go_wp2
        go_step3
        have d2 : DA b (10 * n) ((t + 1 : Nat) : Int) w1 := by rw [show ((t + 1 : Nat) : Int) = (t : Int) + 1 by omega]; exact d1
        refine ⟨rfl, ⟨10 * n, t + 1, _, _, _, _, _, _, _, _, _, _, _, _, _, _, _, _, _, _, rfl, d2, by omega, by omega, by omega, by omega, HN.out.symm.trans he.out, hb.trans b1⟩, ?_⟩
        rw [scaleAt_of d1, scaleAt_of hd]; omega
      · have HN := hid (up_stop n t to (by omega) hm)
        have HC : Hid (∀ w, DA b n t w → Calls Tryz.prog 119 #[.pointer (some ⟨b, 0, none⟩)] w fun e w' => e = .returned (.bool false) ∧ w' = w) := fun w h => longer_no b n t w h (by omega) hm
        go_wp2_with fail
        refine (HC.out _ hd).mono ?_
        rintro e w1 ⟨rfl, rfl⟩
        go_wp2
        simp only [Exit.jump]
        go_ret
        have e1 : Dc.up m (to - s) = none := by rw [← he.out]; exact HN.out
        rw [e1]
        exact ⟨rfl, hb, fun v hv => by cases hv⟩

theorem reach_any (b : Nat) (m : Int) (s to : Nat) (w : World) (h : DA b m s w) (hs : s ≤ 18) (hto : to ≤ 18) (h0 : -1000000000000000000 < m) (h1 : m < 1000000000000000000) :
    Calls Tryz.prog 108 #[.pointer (some ⟨b, 0, none⟩), .int .i64 to] w fun e w' => e = .returned (.bool (Dc.scaled m s to).isSome) ∧ Below b w w' ∧ ∀ v, Dc.scaled m s to = some v → DA b v to w' := by
  unfold Dc.scaled
  split
  · exact reach_down b m s to w h hs hto ‹_› h0 h1
  · exact reach_up b m s to w h hs hto (by omega) h0 h1
end Go.Proofs.YtengcdodoblabaaGreatDoor.De
