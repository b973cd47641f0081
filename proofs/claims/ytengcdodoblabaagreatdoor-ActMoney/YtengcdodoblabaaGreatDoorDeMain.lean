/- What package dec answers of decimals: Norm, Scaled, Join, Cmp; each call leaves what was in memory as it was. -/
import Derived.Test.YtengcdodoblabaaGreatDoorDeStrip
namespace Go.Proofs.YtengcdodoblabaaGreatDoor.De
open Go.RowKit

theorem norm_bd' (m : Int) (s : Nat) (h0 : -1000000000000000000 < m) (h1 : m < 1000000000000000000) : -1000000000000000000 < (Dc.norm m s).1 ∧ (Dc.norm m s).1 < 1000000000000000000 := Dc.norm_bd s m _ h0 h1

set_option maxHeartbeats 1000000 in
theorem norm_any (m : Int) (s : Nat) (w : World) (hs : s ≤ 18) (h0 : -1000000000000000000 < m) (h1 : m < 1000000000000000000) :
    Calls Tryz.prog 100 #[.int .i64 m, .int .i64 s] w fun e w' => e = .returned (.tuple #[.int .i64 (Dc.norm m s).1, .int .i64 (Dc.norm m s).2]) ∧ Below w.heap.size w w' := by
  have HR : Hid (∀ w, Calls Tryz.prog 107 #[.agg #[.int .i64 m, .int .i64 s]] w fun e w' => e = .returned (.bool true) ∧ Below w.heap.size w w') := fun w => isRight_yes m s w h0 h1 (by omega) (by omega)
  have HS : Hid (∀ b w, DA b m s w → Calls Tryz.prog 110 #[.pointer (some ⟨b, 0, none⟩)] w fun e w' => e = .returned (.tuple #[]) ∧ DA b (Dc.norm m s).1 (Dc.norm m s).2 w' ∧ Below b w w') := fun b w h => strip_any b m s w h hs h0 h1
  have d0 := DA.new w m s
  clear h0 h1 hs
  go_enter Tryz.func100, Tryz.ntmps100
  go_wp2_with fail
  refine (HR.out _).mono ?_
  rintro e w1 ⟨rfl, b1⟩
  have d1 := d0.on b1 d0.size
  go_wp2_with fail
  refine (HS.out _ _ d1).mono ?_
  rintro e w2 ⟨rfl, d2, b2⟩
  have c0 := d2.c0
  have c1 := d2.c1
  go_wp2
  go_quiet (fail)
  go_wp2
  go_ret2
  exact ⟨rfl, below_drewN (((up_alloc _ _).trans (b1.mono (by simp))).trans b2) _⟩

def scV : Option Int → Value
  | some v => .tuple #[.int .i64 v, .bool true]
  | none => .tuple #[.int .i64 0, .bool false]

set_option maxHeartbeats 1000000 in
theorem scaled_any (m : Int) (s to : Nat) (w : World) (hs : s ≤ 18) (ht : to ≤ 18) (h0 : -1000000000000000000 < m) (h1 : m < 1000000000000000000) :
    Calls Tryz.prog 86 #[.int .i64 m, .int .i64 s, .int .i64 to] w fun e w' => e = .returned (scV (Dc.scaled m s to)) ∧ Below w.heap.size w w' := by
  have HR : Hid (∀ w, Calls Tryz.prog 107 #[.agg #[.int .i64 m, .int .i64 s]] w fun e w' => e = .returned (.bool true) ∧ Below w.heap.size w w') := fun w => isRight_yes m s w h0 h1 (by omega) (by omega)
  have HS : Hid (∀ b w, DA b m s w → Calls Tryz.prog 108 #[.pointer (some ⟨b, 0, none⟩), .int .i64 to] w fun e w' => e = .returned (.bool (Dc.scaled m s to).isSome) ∧ Below b w w' ∧ ∀ v, Dc.scaled m s to = some v → DA b v to w') := fun b w h => reach_any b m s to w h hs ht h0 h1
  have d0 := DA.new w m s
  clear h0 h1 hs ht
  generalize Dc.scaled m s to = r at HS ⊢
  cases r with
  | none =>
    go_enter Tryz.func86, Tryz.ntmps86
    go_wp2_with fail
    refine (HR.out _).mono ?_
    rintro e w1 ⟨rfl, b1⟩
    have d1 := d0.on b1 d0.size
    go_wp2_with fail
    refine (HS.out _ _ d1).mono ?_
    rintro e w2 ⟨rfl, b2, _⟩
    go_wp2
    go_ret2
    exact ⟨rfl, ((up_alloc _ _).trans (b1.mono (by simp))).trans b2⟩
  | some v =>
    go_enter Tryz.func86, Tryz.ntmps86
    go_wp2_with fail
    refine (HR.out _).mono ?_
    rintro e w1 ⟨rfl, b1⟩
    have d1 := d0.on b1 d0.size
    go_wp2_with fail
    refine (HS.out _ _ d1).mono ?_
    rintro e w2 ⟨rfl, b2, d2⟩
    have c0 := (d2 v rfl).c0
    clear d2
    go_wp2
    go_ret2
    exact ⟨rfl, ((up_alloc _ _).trans (b1.mono (by simp))).trans b2⟩

theorem join_bd (x : Int) (d : Nat) (p : Int) (hx : 0 ≤ x) (hp : p < Dc.ten d) (hb : x * Dc.ten d < 1000000000000000000) (hd : d ≤ 18) : x * Dc.ten d + p < 1000000000000000000 ∧ 0 ≤ x * Dc.ten d ∧ x < 1000000000000000000 ∧ p < 1000000000000000000 := by
  have h1 := Dc.ten_pos d
  have e18 : Dc.ten d * Dc.ten (18 - d) = 1000000000000000000 := by rw [← Dc.ten_add, show d + (18 - d) = 18 by omega, Dc.ten18]
  have h2 := Dc.ten_pos (18 - d)
  have h3 : x < Dc.ten (18 - d) := by
    rw [← e18, Int.mul_comm (Dc.ten d)] at hb
    exact Int.lt_of_mul_lt_mul_right hb (by omega)
  have h4 : (x + 1) * Dc.ten d ≤ Dc.ten (18 - d) * Dc.ten d := Int.mul_le_mul_of_nonneg_right (by omega) (by omega)
  rw [Int.add_mul, Int.mul_comm (Dc.ten (18 - d)), e18] at h4
  have h5 := ten_bd (18 - d) (by omega)
  have h6 := Int.mul_nonneg hx (show 0 ≤ Dc.ten d by omega)
  omega

set_option maxHeartbeats 1000000 in
theorem join_any (x p : Int) (d : Nat) (w : World) (hx : 0 ≤ x) (hp0 : 0 ≤ p) (hp : p < Dc.ten d) (hb : x * Dc.ten d < 1000000000000000000) (hd : d ≤ 18) :
    Calls Tryz.prog 84 #[.int .i64 x, .int .i64 p, .int .i64 d] w fun e w' => e = .returned (.tuple #[.int .i64 (Dc.norm (x * Dc.ten d + p) d).1, .int .i64 (Dc.norm (x * Dc.ten d + p) d).2, .bool true]) ∧ Below w.heap.size w w' := by
  obtain ⟨j1, j2, j3, j4⟩ := join_bd x d p hx hp hb hd
  have HR : Hid (∀ w, Calls Tryz.prog 107 #[.agg #[.int .i64 x, .int .i64 0]] w fun e w' => e = .returned (.bool true) ∧ Below w.heap.size w w') := fun w => isRight_yes x 0 w (by omega) j3 (by omega) (by omega)
  have HU : Hid (∀ b w, DA b x 0 w → Calls Tryz.prog 108 #[.pointer (some ⟨b, 0, none⟩), .int .i64 d] w fun e w' => e = .returned (.bool true) ∧ Below b w w' ∧ DA b (x * Dc.ten d) d w') := fun b w h => by
    have e : Dc.scaled x 0 d = some (x * Dc.ten d) := by
      unfold Dc.scaled
      rw [if_neg (by omega), Nat.sub_zero, Dc.up_eq _ _ (by omega) j3, if_pos (by omega)]
    have := reach_any b x 0 d w h (by omega) hd (by omega) j3
    rw [e] at this
    exact this.mono fun e w' h => ⟨h.1, h.2.1, h.2.2 _ rfl⟩
  have HP : Hid (∀ w, Calls Tryz.prog 109 #[.int .i64 d] w fun e w' => e = .returned (.int .i64 (Dc.ten d)) ∧ w' = w) := fun w => power_any d w hd
  have HS : Hid (∀ b w, DA b (x * Dc.ten d + p) d w → Calls Tryz.prog 110 #[.pointer (some ⟨b, 0, none⟩)] w fun e w' => e = .returned (.tuple #[]) ∧ DA b (Dc.norm (x * Dc.ten d + p) d).1 (Dc.norm (x * Dc.ten d + p) d).2 w' ∧ Below b w w') := fun b w h => strip_any b _ d w h hd (by omega) j1
  have d0 := DA.new w x 0
  generalize Dc.norm (x * Dc.ten d + p) d = r at HS ⊢
  generalize x * Dc.ten d = y at *
  generalize Dc.ten d = q at *
  clear hd
  go_enter Tryz.func84, Tryz.ntmps84
  go_wp2_with fail
  refine (HR.out _).mono ?_
  rintro e w1 ⟨rfl, b1⟩
  have d1 := d0.on b1 d0.size
  go_wp2_with fail
  refine (HU.out _ _ d1).mono ?_
  rintro e w2 ⟨rfl, b2, d2⟩
  have c0 := d2.c0
  have f0 := d2.f 0
  go_wp2_with fail
  refine (HP.out _).mono ?_
  rintro e w3 ⟨rfl, rfl⟩
  go_wp2_with fail
  refine (HS.out _ _ (d2.set0 (y + p))).mono ?_
  rintro e w4 ⟨rfl, d4, b4⟩
  have e0 := d4.c0
  have e1 := d4.c1
  go_wp2
  go_quiet (fail)
  go_wp2
  go_ret3
  exact ⟨rfl, below_drewN ((((up_alloc _ _).trans (b1.mono (by simp))).trans b2).trans ((show Below w.heap.size _ _ from (Below.refl w.heap.size _).setCell (p := ⟨w.heap.size, 0, none⟩) (Nat.le_refl _) _).trans b4)) _⟩

theorem hl_bd (m : Int) (s : Nat) (hs : s ≤ 18) (h0 : -1000000000000000000 < m) (h1 : m < 1000000000000000000) :
    m.tdiv (Dc.ten s) = Dc.hi m s ∧ (-9223372036854775808 ≤ Dc.hi m s ∧ Dc.hi m s ≤ 9223372036854775807) ∧ wrap64 (m.tmod (Dc.ten s) * Dc.ten (18 - s)) = Dc.lo m s := by
  obtain ⟨a1, a2, a3, a4, a5⟩ := Dc.parts m s hs
  have hp := Dc.ten_pos (18 - s)
  have hq := ten_bd (18 - s) (by omega)
  have hv : -1000000000000000000000000000000000000 < Dc.val m s ∧ Dc.val m s < 1000000000000000000000000000000000000 := by
    unfold Dc.val
    by_cases hm : 0 ≤ m
    · have := Int.mul_le_mul_of_nonneg_left hq.2 hm
      have := Int.mul_nonneg hm (show 0 ≤ Dc.ten (18 - s) by omega)
      omega
    · have := Int.mul_le_mul_of_nonneg_left hq.2 (show 0 ≤ -m by omega)
      have := Int.mul_nonneg (show 0 ≤ -m by omega) (show 0 ≤ Dc.ten (18 - s) by omega)
      rw [Int.neg_mul] at *
      omega
  refine ⟨rfl, by omega, ?_⟩
  · exact IntWalk.wrap64_in (Dc.lo m s) (by omega)

def orV (x y : Int) : Int := if x ≠ 0 then x else y
end Go.Proofs.YtengcdodoblabaaGreatDoor.De
