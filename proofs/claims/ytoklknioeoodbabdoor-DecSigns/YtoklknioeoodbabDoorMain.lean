/- What package dec answers of decimals: Norm, Scaled, Join, Cmp; each call leaves what was in memory as it was. -/
import Derived.Test.YtoklknioeoodbabDoorStrip
namespace Go.Proofs.YtoklknioeoodbabDoor
open Go.RowKit

theorem norm_bd' (m : Int) (s : Nat) (h0 : -1000000000000000000 < m) (h1 : m < 1000000000000000000) : -1000000000000000000 < (Dc.norm m s).1 ∧ (Dc.norm m s).1 < 1000000000000000000 := Dc.norm_bd s m _ h0 h1

set_option maxHeartbeats 1000000 in
theorem norm_any (m : Int) (s : Nat) (w : World) (hs : s ≤ 18) (h0 : -1000000000000000000 < m) (h1 : m < 1000000000000000000) :
    Calls Tryd.prog 11 #[.int .i64 m, .int .i64 s] w fun e w' => e = .returned (.tuple #[.int .i64 (Dc.norm m s).1, .int .i64 (Dc.norm m s).2]) ∧ Below w.heap.size w w' := by
  have HR : Hid (∀ w, Calls Tryd.prog 16 #[.agg #[.int .i64 m, .int .i64 s]] w fun e w' => e = .returned (.bool true) ∧ Below w.heap.size w w') := fun w => isRight_yes m s w h0 h1 (by omega) (by omega)
  have HS : Hid (∀ b w, DA b m s w → Calls Tryd.prog 19 #[.pointer (some ⟨b, 0, none⟩)] w fun e w' => e = .returned (.tuple #[]) ∧ DA b (Dc.norm m s).1 (Dc.norm m s).2 w' ∧ Below b w w') := fun b w h => strip_any b m s w h hs h0 h1
  have d0 := DA.new w m s
  clear h0 h1 hs
  go_enter Tryd.func11, Tryd.ntmps11
  go_wp2_with fail
  refine (HR.out _).mono ?_
  rintro e w1 ⟨rfl, b1⟩
  have d1 := d0.on b1 d0.size
  go_wp2_with fail
  refine (HS.out _ _ d1).mono ?_
  rintro e w2 ⟨rfl, d2, b2⟩
  have c0 := d2.c0
  have c1 := d2.c1
  go_wp2
  go_quiet (fail)
  go_wp2
  go_ret2
  exact ⟨rfl, below_drewN (((up_alloc _ _).trans (b1.mono (by simp))).trans b2) _⟩

def scV : Option Int → Value
  | some v => .tuple #[.int .i64 v, .bool true]
  | none => .tuple #[.int .i64 0, .bool false]

set_option maxHeartbeats 1000000 in
theorem scaled_any (m : Int) (s to : Nat) (w : World) (hs : s ≤ 18) (ht : to ≤ 18) (h0 : -1000000000000000000 < m) (h1 : m < 1000000000000000000) :
    Calls Tryd.prog 12 #[.int .i64 m, .int .i64 s, .int .i64 to] w fun e w' => e = .returned (scV (Dc.scaled m s to)) ∧ Below w.heap.size w w' := by
  have HR : Hid (∀ w, Calls Tryd.prog 16 #[.agg #[.int .i64 m, .int .i64 s]] w fun e w' => e = .returned (.bool true) ∧ Below w.heap.size w w') := fun w => isRight_yes m s w h0 h1 (by omega) (by omega)
  have HS : Hid (∀ b w, DA b m s w → Calls Tryd.prog 17 #[.pointer (some ⟨b, 0, none⟩), .int .i64 to] w fun e w' => e = .returned (.bool (Dc.scaled m s to).isSome) ∧ Below b w w' ∧ ∀ v, Dc.scaled m s to = some v → DA b v to w') := fun b w h => reach_any b m s to w h hs ht h0 h1
  have d0 := DA.new w m s
  clear h0 h1 hs ht
  generalize Dc.scaled m s to = r at HS ⊢
  cases r with
  | none =>
    go_enter Tryd.func12, Tryd.ntmps12
    go_wp2_with fail
    refine (HR.out _).mono ?_
    rintro e w1 ⟨rfl, b1⟩
    have d1 := d0.on b1 d0.size
    go_wp2_with fail
    refine (HS.out _ _ d1).mono ?_
    rintro e w2 ⟨rfl, b2, _⟩
    go_wp2
    go_ret2
    exact ⟨rfl, ((up_alloc _ _).trans (b1.mono (by simp))).trans b2⟩
  | some v =>
    go_enter Tryd.func12, Tryd.ntmps12
    go_wp2_with fail
    refine (HR.out _).mono ?_
    rintro e w1 ⟨rfl, b1⟩
    have d1 := d0.on b1 d0.size
    go_wp2_with fail
    refine (HS.out _ _ d1).mono ?_
    rintro e w2 ⟨rfl, b2, d2⟩
    have c0 := (d2 v rfl).c0
    clear d2
    go_wp2
    go_ret2
    exact ⟨rfl, ((up_alloc _ _).trans (b1.mono (by simp))).trans b2⟩

theorem join_bd (x : Int) (d : Nat) (p : Int) (hx : 0 ≤ x) (hp : p < Dc.ten d) (hb : x * Dc.ten d < 1000000000000000000) (hd : d ≤ 18) : x * Dc.ten d + p < 1000000000000000000 ∧ 0 ≤ x * Dc.ten d ∧ x < 1000000000000000000 ∧ p < 1000000000000000000 := by
  have h1 := Dc.ten_pos d
  have e18 : Dc.ten d * Dc.ten (18 - d) = 1000000000000000000 := by rw [← Dc.ten_add, show d + (18 - d) = 18 by omega, Dc.ten18]
  have h2 := Dc.ten_pos (18 - d)
  have h3 : x < Dc.ten (18 - d) := by
    rw [← e18, Int.mul_comm (Dc.ten d)] at hb
    exact Int.lt_of_mul_lt_mul_right hb (by omega)
  have h4 : (x + 1) * Dc.ten d ≤ Dc.ten (18 - d) * Dc.ten d := Int.mul_le_mul_of_nonneg_right (by omega) (by omega)
  rw [Int.add_mul, Int.mul_comm (Dc.ten (18 - d)), e18] at h4
  have h5 := ten_bd (18 - d) (by omega)
  have h6 := Int.mul_nonneg hx (show 0 ≤ Dc.ten d by omega)
  omega

set_option maxHeartbeats 1000000 in
theorem join_any (x p : Int) (d : Nat) (w : World) (hx : 0 ≤ x) (hp0 : 0 ≤ p) (hp : p < Dc.ten d) (hb : x * Dc.ten d < 1000000000000000000) (hd : d ≤ 18) :
    Calls Tryd.prog 10 #[.int .i64 x, .int .i64 p, .int .i64 d] w fun e w' => e = .returned (.tuple #[.int .i64 (Dc.norm (x * Dc.ten d + p) d).1, .int .i64 (Dc.norm (x * Dc.ten d + p) d).2, .bool true]) ∧ Below w.heap.size w w' := by
  obtain ⟨j1, j2, j3, j4⟩ := join_bd x d p hx hp hb hd
  have HR : Hid (∀ w, Calls Tryd.prog 16 #[.agg #[.int .i64 x, .int .i64 0]] w fun e w' => e = .returned (.bool true) ∧ Below w.heap.size w w') := fun w => isRight_yes x 0 w (by omega) j3 (by omega) (by omega)
  have HU : Hid (∀ b w, DA b x 0 w → Calls Tryd.prog 17 #[.pointer (some ⟨b, 0, none⟩), .int .i64 d] w fun e w' => e = .returned (.bool true) ∧ Below b w w' ∧ DA b (x * Dc.ten d) d w') := fun b w h => by
    have e : Dc.scaled x 0 d = some (x * Dc.ten d) := by
      unfold Dc.scaled
      rw [if_neg (by omega), Nat.sub_zero, Dc.up_eq _ _ (by omega) j3, if_pos (by omega)]
    have := reach_any b x 0 d w h (by omega) hd (by omega) j3
    rw [e] at this
    exact this.mono fun e w' h => ⟨h.1, h.2.1, h.2.2 _ rfl⟩
  have HP : Hid (∀ w, Calls Tryd.prog 18 #[.int .i64 d] w fun e w' => e = .returned (.int .i64 (Dc.ten d)) ∧ w' = w) := fun w => power_any d w hd
  have HS : Hid (∀ b w, DA b (x * Dc.ten d + p) d w → Calls Tryd.prog 19 #[.pointer (some ⟨b, 0, none⟩)] w fun e w' => e = .returned (.tuple #[]) ∧ DA b (Dc.norm (x * Dc.ten d + p) d).1 (Dc.norm (x * Dc.ten d + p) d).2 w' ∧ Below b w w') := fun b w h => strip_any b _ d w h hd (by omega) j1
  have d0 := DA.new w x 0
  generalize Dc.norm (x * Dc.ten d + p) d = r at HS ⊢
  generalize x * Dc.ten d = y at *
  generalize Dc.ten d = q at *
  clear hd
  go_enter Tryd.func10, Tryd.ntmps10
  go_wp2_with fail
  refine (HR.out _).mono ?_
  rintro e w1 ⟨rfl, b1⟩
  have d1 := d0.on b1 d0.size
  go_wp2_with fail
  refine (HU.out _ _ d1).mono ?_
  rintro e w2 ⟨rfl, b2, d2⟩
  have c0 := d2.c0
  have f0 := d2.f 0
  go_wp2_with fail
  refine (HP.out _).mono ?_
  rintro e w3 ⟨rfl, rfl⟩
  go_wp2_with fail
  refine (HS.out _ _ (d2.set0 (y + p))).mono ?_
  rintro e w4 ⟨rfl, d4, b4⟩
  have e0 := d4.c0
  have e1 := d4.c1
  go_wp2
  go_quiet (fail)
  go_wp2
  go_ret3
  exact ⟨rfl, below_drewN ((((up_alloc _ _).trans (b1.mono (by simp))).trans b2).trans ((show Below w.heap.size _ _ from (Below.refl w.heap.size _).setCell (p := ⟨w.heap.size, 0, none⟩) (Nat.le_refl _) _).trans b4)) _⟩

theorem hl_bd (m : Int) (s : Nat) (hs : s ≤ 18) (h0 : -1000000000000000000 < m) (h1 : m < 1000000000000000000) :
    m.tdiv (Dc.ten s) = Dc.hi m s ∧ (-9223372036854775808 ≤ Dc.hi m s ∧ Dc.hi m s ≤ 9223372036854775807) ∧ wrap64 (m.tmod (Dc.ten s) * Dc.ten (18 - s)) = Dc.lo m s := by
  obtain ⟨a1, a2, a3, a4, a5⟩ := Dc.parts m s hs
  have hp := Dc.ten_pos (18 - s)
  have hq := ten_bd (18 - s) (by omega)
  have hv : -1000000000000000000000000000000000000 < Dc.val m s ∧ Dc.val m s < 1000000000000000000000000000000000000 := by
    unfold Dc.val
    by_cases hm : 0 ≤ m
    · have := Int.mul_le_mul_of_nonneg_left hq.2 hm
      have := Int.mul_nonneg hm (show 0 ≤ Dc.ten (18 - s) by omega)
      omega
    · have := Int.mul_le_mul_of_nonneg_left hq.2 (show 0 ≤ -m by omega)
      have := Int.mul_nonneg (show 0 ≤ -m by omega) (show 0 ≤ Dc.ten (18 - s) by omega)
      rw [Int.neg_mul] at *
      omega
  refine ⟨rfl, by omega, ?_⟩
  · exact IntWalk.wrap64_in (Dc.lo m s) (by omega)

set_option maxHeartbeats 1000000 in
theorem split_any (m : Int) (s : Nat) (w : World) (hs : s ≤ 18) (h0 : -1000000000000000000 < m) (h1 : m < 1000000000000000000) :
    Calls Tryd.prog 21 #[.agg #[.int .i64 m, .int .i64 s]] w fun e w' => e = .returned (.tuple #[.int .i64 (Dc.hi m s), .int .i64 (Dc.lo m s)]) ∧ Below w.heap.size w w' := by
  obtain ⟨e1, e3, e2⟩ := hl_bd m s hs h0 h1
  rw [← e1] at e3
  have HP : Hid (∀ w, Calls Tryd.prog 18 #[.int .i64 s] w fun e w' => e = .returned (.int .i64 (Dc.ten s)) ∧ w' = w) := fun w => power_any s w hs
  have HQ : Hid (∀ w, Calls Tryd.prog 18 #[.int .i64 (18 - (s : Int))] w fun e w' => e = .returned (.int .i64 (Dc.ten (18 - s))) ∧ w' = w) := fun w => by
    have := power_any (18 - s) w (by omega)
    rwa [show ((18 - s : Nat) : Int) = 18 - (s : Int) by omega] at this
  have hp := Dc.ten_pos s
  have hne : Dc.ten s ≠ 0 := by omega
  have E1 := hid e1
  have E2 := hid e2
  clear e1 e2
  generalize Dc.ten s = p at *
  generalize Dc.ten (18 - s) = q at *
  go_enter Tryd.func21, Tryd.ntmps21
  go_wp2_with fail
  refine (HP.out _).mono ?_
  rintro e w1 ⟨rfl, rfl⟩
  go_wp2
  go_quiet ((go_at_call 18; exact (HQ.out _).mono (fun e w' h => ⟨h.1, _, h.2⟩)))
  go_wp2
  go_ret2
  refine ⟨?_, below_drewN (up_alloc _ _) _⟩
  show Ending.returned (.tuple #[.int .i64 (m.tdiv p), .int .i64 (wrap64 (m.tmod p * q))]) = _
  rw [E1.out, E2.out]

def orV (x y : Int) : Int := if x ≠ 0 then x else y
set_option maxHeartbeats 1000000 in
theorem or_any (b : Nat) (x y : Int) (w : World) (c0 : w.cell? ⟨b, 0, none⟩ = some (.int .i64 x)) (c1 : w.cell? ⟨b, 1, none⟩ = some (.int .i64 y)) :
    Calls Tryd.prog 22 #[.slice (some ⟨b, 0, none⟩) 2 2] w fun e w' => e = .returned (.int .i64 (orV x y)) ∧ w' = w := by
  by_cases hx : x = 0
  · subst hx
    rw [show orV 0 y = y by simp [orV]]
    by_cases hy : y = 0
    · subst hy
      go_enter Tryd.func22, Tryd.ntmps22
      go_wp2_with fail
      refine wp_loop_rounds 3 ?_
      rw [rounds_succ]
      go_wp2
      rw [rounds_succ]
      go_wp2
      rw [rounds_succ]
      go_wp2
      go_ret
      exact ⟨rfl, rfl⟩
    · have hy' : (y != 0) = true := by simpa using hy
      go_enter Tryd.func22, Tryd.ntmps22
      go_wp2_with fail
      refine wp_loop_rounds 2 ?_
      rw [rounds_succ]
      go_wp2
      rw [rounds_succ]
      go_wp2
      go_ret
      exact ⟨rfl, rfl⟩
  · have hx' : (x != 0) = true := by simpa using hx
    rw [show orV x y = x by simp [orV, hx]]
    go_enter Tryd.func22, Tryd.ntmps22
    go_wp2_with fail
    refine wp_loop_rounds 1 ?_
    rw [rounds_succ]
    go_wp2
    go_ret
    exact ⟨rfl, rfl⟩

set_option maxHeartbeats 1000000 in
theorem cmp_any (m : Int) (s : Nat) (n : Int) (t : Nat) (w : World) (hs : s ≤ 18) (ht : t ≤ 18) (h0 : -1000000000000000000 < m) (h1 : m < 1000000000000000000) (k0 : -1000000000000000000 < n) (k1 : n < 1000000000000000000) :
    Calls Tryd.prog 15 #[.int .i64 m, .int .i64 s, .int .i64 n, .int .i64 t] w fun e w' => e = .returned (.int .i64 (Dc.cmp m s n t)) ∧ Below w.heap.size w w' := by
  have HR : Hid (∀ w, Calls Tryd.prog 16 #[.agg #[.int .i64 m, .int .i64 s]] w fun e w' => e = .returned (.bool true) ∧ Below w.heap.size w w') := fun w => isRight_yes m s w h0 h1 (by omega) (by omega)
  have HQ : Hid (∀ w, Calls Tryd.prog 16 #[.agg #[.int .i64 n, .int .i64 t]] w fun e w' => e = .returned (.bool true) ∧ Below w.heap.size w w') := fun w => isRight_yes n t w k0 k1 (by omega) (by omega)
  have H1 := hid (fun w => split_any m s w hs h0 h1)
  have H2 := hid (fun w => split_any n t w ht k0 k1)
  have HE : Hid (Dc.cmp m s n t = orV (Dc.ord (Dc.hi m s) (Dc.hi n t)) (Dc.ord (Dc.lo m s) (Dc.lo n t))) := rfl
  have HC := hid compare_any
  have HO := hid or_any
  have d0 := DA.new w m s
  have d1 := d0.on (up_alloc _ (.cells #[.int .i64 n, .int .i64 t] 39)) d0.size
  have d2 : DA (w.heap.size + 1) n t ((w.alloc (.cells #[.int .i64 m, .int .i64 s] 39)).alloc (.cells #[.int .i64 n, .int .i64 t] 39)) := by
    have := DA.new (w.alloc (.cells #[.int .i64 m, .int .i64 s] 39)) n t
    rwa [World.size_alloc] at this
  generalize Dc.hi m s = p at *
  generalize Dc.hi n t = q at *
  generalize Dc.lo m s = u at *
  generalize Dc.lo n t = v at *
  clear h0 h1 hs ht k0 k1
  go_enter Tryd.func15, Tryd.ntmps15
  go_wp2_with fail
  refine (HR.out _).mono ?_
  rintro e w1 ⟨rfl, b1⟩
  have f1 := d1.on b1 d1.size
  have f2 := d2.on b1 d2.size
  have z10 := f1.c0
  have z11 := f1.c1
  have z12 := f2.c0
  have z13 := f2.c1
  clear d0 d1 d2
  go_wp2_with fail
  refine (HQ.out _).mono ?_
  rintro e w2 ⟨rfl, b2⟩
  have g1 := f1.on b2 f1.size
  have g2 := f2.on b2 f2.size
  clear z10 z11 z12 z13
  have z20 := g1.c0
  have z21 := g1.c1
  go_wp2_with fail
  refine (H1.out _).mono ?_
  rintro e w3 ⟨rfl, b3⟩
  have k2 := g2.on b3 g2.size
  clear z20 z21
  have z32 := k2.c0
  have z33 := k2.c1
  go_wp2_with fail
  refine (H2.out _).mono ?_
  rintro e w4 ⟨rfl, b4⟩
  clear z32 z33
  go_wp2_with fail
  refine (HC.out _ _ _).mono ?_
  rintro e w5 ⟨rfl, rfl⟩
  go_wp2_with fail
  refine (HC.out _ _ _).mono ?_
  rintro e w5 ⟨rfl, rfl⟩
  go_wp2_with fail
  refine (HO.out _ (Dc.ord p q) (Dc.ord u v) _ (by go_simp) (by go_simp)).mono ?_
  rintro e w5 ⟨rfl, rfl⟩
  go_wp2
  go_ret
  refine ⟨ret_int HE.out.symm, ?_⟩
  exact up_trans (up_trans (up_trans (up_trans (up_trans (up_trans (up_alloc _ _) (up_alloc _ _)) b1) b2) b3) b4) (up_alloc _ _)
end Go.Proofs.YtoklknioeoodbabDoor
