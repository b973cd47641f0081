/- law8.Child: a sign's value, or one that may be. -/
import Derived.Test.YtengcdodoblabaaDoorVal
namespace Go.Proofs.YtengcdodoblabaaDoor
open Go.RowKit

/-- How many digits a number has, up to a million and one. -/
def dgt (v : Int) : Int := if v < 10 then 1 else if v < 100 then 2 else if v < 1000 then 3 else if v < 10000 then 4 else if v < 100000 then 5 else if v < 1000000 then 6 else 7
theorem dgt_bd (v : Int) : 1 ≤ dgt v ∧ dgt v ≤ 7 := by
  unfold dgt
  repeat (first | (split; (constructor <;> decide)) | (constructor <;> decide) | split)
/-- A sign's value as it is typed, or one that may be. -/
def Kid (x : Val) : Prop := (∃ v e, x = ⟨1, [v, dgt v + e]⟩ ∧ 0 ≤ v ∧ v ≤ 1000001 ∧ 0 ≤ e ∧ e ≤ 1) ∨ (∃ z, x = ⟨2, [z]⟩ ∧ -2 ≤ z ∧ z ≤ 1073741824) ∨ x = ⟨3, []⟩ ∨ rightB x = true
def ChildOk (n : Int) : Prop := ∃ x : Val, Kid x ∧ ∀ w, Calls Tryd.prog 15 #[.int .i64 n] w fun e w' => ∃ u, e = .returned u ∧ NV w.heap.size w' u x ∧ Below w.heap.size w w'
theorem tab18 (j : Nat) (hj : j < 18) : ∃ z, 0 ≤ z ∧ z ≤ 1000001 ∧ ∀ w : World, (w.alloc (.cells #[.int .i64 0, .int .i64 1, .int .i64 2, .int .i64 5, .int .i64 12, .int .i64 13, .int .i64 24, .int .i64 29, .int .i64 31, .int .i64 60, .int .i64 99, .int .i64 100, .int .i64 2024, .int .i64 9999, .int .i64 10000, .int .i64 999, .int .i64 1000000, .int .i64 1000001] 3)).cell? ⟨w.heap.size, j, none⟩ = some (.int .i64 z) := by
  rcases (by omega : j = 0 ∨ j = 1 ∨ j = 2 ∨ j = 3 ∨ j = 4 ∨ j = 5 ∨ j = 6 ∨ j = 7 ∨ j = 8 ∨ j = 9 ∨ j = 10 ∨ j = 11 ∨ j = 12 ∨ j = 13 ∨ j = 14 ∨ j = 15 ∨ j = 16 ∨ j = 17) with rfl | rfl | rfl | rfl | rfl | rfl | rfl | rfl | rfl | rfl | rfl | rfl | rfl | rfl | rfl | rfl | rfl | rfl
  all_goals exact ⟨_, by decide, by decide, fun w => (cell_of_row (new_row w (.cells #[.int .i64 0, .int .i64 1, .int .i64 2, .int .i64 5, .int .i64 12, .int .i64 13, .int .i64 24, .int .i64 29, .int .i64 31, .int .i64 60, .int .i64 99, .int .i64 100, .int .i64 2024, .int .i64 9999, .int .i64 10000, .int .i64 999, .int .i64 1000000, .int .i64 1000001] 3))).trans rfl⟩
theorem tab14 (j : Nat) (hj : j < 14) : ∃ z, -2 ≤ z ∧ z ≤ 1073741824 ∧ ∀ w : World, (w.alloc (.cells #[.int .i64 0, .int .i64 1, .int .i64 2, .int .i64 3, .int .i64 4, .int .i64 6, .int .i64 7, .int .i64 (-1), .int .i64 (-2), .int .i64 12, .int .i64 60, .int .i64 9782, .int .i64 3920, .int .i64 1073741824] 3)).cell? ⟨w.heap.size, j, none⟩ = some (.int .i64 z) := by
  rcases (by omega : j = 0 ∨ j = 1 ∨ j = 2 ∨ j = 3 ∨ j = 4 ∨ j = 5 ∨ j = 6 ∨ j = 7 ∨ j = 8 ∨ j = 9 ∨ j = 10 ∨ j = 11 ∨ j = 12 ∨ j = 13) with rfl | rfl | rfl | rfl | rfl | rfl | rfl | rfl | rfl | rfl | rfl | rfl | rfl | rfl
  all_goals exact ⟨_, by decide, by decide, fun w => (cell_of_row (new_row w (.cells #[.int .i64 0, .int .i64 1, .int .i64 2, .int .i64 3, .int .i64 4, .int .i64 6, .int .i64 7, .int .i64 (-1), .int .i64 (-2), .int .i64 12, .int .i64 60, .int .i64 9782, .int .i64 3920, .int .i64 1073741824] 3))).trans rfl⟩

theorem ten_v (t : Nat) (ht : t ≤ 7) : (t = 0 ∧ De.Dc.ten t = 1) ∨ (t = 1 ∧ De.Dc.ten t = 10) ∨ (t = 2 ∧ De.Dc.ten t = 100) ∨ (t = 3 ∧ De.Dc.ten t = 1000) ∨ (t = 4 ∧ De.Dc.ten t = 10000) ∨ (t = 5 ∧ De.Dc.ten t = 100000) ∨ (t = 6 ∧ De.Dc.ten t = 1000000) ∨ (t = 7 ∧ De.Dc.ten t = 10000000) := by
  rcases (by omega : t = 0 ∨ t = 1 ∨ t = 2 ∨ t = 3 ∨ t = 4 ∨ t = 5 ∨ t = 6 ∨ t = 7) with rfl | rfl | rfl | rfl | rfl | rfl | rfl | rfl <;> simp <;> decide
theorem dig_next (v : Int) (t : Nat) (ht : t ≤ 6) (v0 : 0 ≤ v) (v1 : v ≤ 1000001) (h : 10 ≤ v / De.Dc.ten t) : t + 1 ≤ 6 ∧ v / De.Dc.ten t / 10 = v / De.Dc.ten (t + 1) ∧ De.Dc.ten (t + 1) ≤ v := by
  have e := De.Dc.tenS t
  have hp := De.Dc.ten_pos t
  have hq : 0 ≤ v / De.Dc.ten t := Int.ediv_nonneg v0 (by omega)
  have h3 : De.Dc.ten t * (v / De.Dc.ten t) ≤ v := Int.mul_ediv_self_le (by omega)
  rw [Int.ediv_ediv_of_nonneg (by omega), Int.mul_comm, ← e]
  refine ⟨?_, rfl, ?_⟩
  · rcases ten_v t (by omega) with ⟨h1, h2⟩ | ⟨h1, h2⟩ | ⟨h1, h2⟩ | ⟨h1, h2⟩ | ⟨h1, h2⟩ | ⟨h1, h2⟩ | ⟨h1, h2⟩ | ⟨h1, h2⟩ <;> rw [h2] at h <;> omega
  · have : De.Dc.ten t * 10 ≤ De.Dc.ten t * (v / De.Dc.ten t) := Int.mul_le_mul_of_nonneg_left h (by omega)
    omega
theorem dig_last (v : Int) (t : Nat) (ht : t ≤ 6) (v0 : 0 ≤ v) (h : v / De.Dc.ten t < 10) (hq : t = 0 ∨ De.Dc.ten t ≤ v) : dgt v = (t : Int) + 1 := by
  rcases ten_v t (by omega) with ⟨h1, h2⟩ | ⟨h1, h2⟩ | ⟨h1, h2⟩ | ⟨h1, h2⟩ | ⟨h1, h2⟩ | ⟨h1, h2⟩ | ⟨h1, h2⟩ | ⟨h1, h2⟩
  all_goals
    rw [h2] at h hq
    subst h1
    unfold dgt
    repeat (first | omega | split)

set_option maxRecDepth 8000 in
set_option maxHeartbeats 4000000 in
theorem child_number (n : Int) (h0 : 0 ≤ n) (h1 : n ≤ 2199023255552) (hm : n % 8 = 0 ∨ n % 8 = 1 ∨ n % 8 = 2) : ChildOk n := by
  have H8 := hid fun w => lwithin_any n 8 w (by decide) (by decide) (by omega) (by omega)
  obtain ⟨k, hk, hkn⟩ : ∃ k : Nat, n.tdiv 8 = k ∧ (k : Int) ≤ 2199023255552 := ⟨(n.tdiv 8).toNat, by rw [Int.tdiv_eq_ediv_of_nonneg h0]; omega, by rw [Int.tdiv_eq_ediv_of_nonneg h0]; omega⟩
  have H18 := hid fun w => lwithin_any (k : Int) 18 w (by decide) (by decide) (by omega) (by omega)
  obtain ⟨j, hj⟩ : ∃ j : Nat, (k : Int) % 18 = j := ⟨((k : Int) % 18).toNat, by omega⟩
  have hj18 : j < 18 := by omega
  rw [hj] at H18
  have hk18 : (k : Int).tdiv 18 = (k : Int) / 18 := Int.tdiv_eq_ediv_of_nonneg (by omega)
  have H2 := hid fun w => lwithin_any ((k : Int) / 18) 2 w (by decide) (by decide) (by omega) (by omega)
  obtain ⟨ee, hee⟩ : ∃ ee, ee = (k : Int) / 18 % 2 := ⟨_, rfl⟩
  have hee0 : 0 ≤ ee ∧ ee ≤ 1 := by omega
  rw [← hee] at H2
  obtain ⟨e0, e1⟩ := hee0
  obtain ⟨v, v0, v1, hv⟩ := tab18 j hj18
  refine ⟨⟨1, [v, dgt v + ee]⟩, .inl ⟨v, ee, rfl, v0, v1, e0, e1⟩, fun w => ?_⟩
  have hd := dgt_bd v
  obtain ⟨d0, d1⟩ := hd
  clear hj hee
  obtain ⟨wz, hwz⟩ : ∃ wz, wz = w.alloc (.cells #[.int .i64 0, .slice none 0 0] 24) := ⟨_, rfl⟩
  have ZZ := hid (show wz.heap[w.heap.size]? = some (.cells #[.int .i64 0, .slice none 0 0] 24 (0, 0)) by rw [hwz]; exact new_row _ _)
  have HBz := hid (show Below w.heap.size w wz by rw [hwz]; exact up_alloc _ _)
  have hsz : w.heap.size < wz.heap.size := by rw [hwz]; simp
  have HV := hid hv
  clear hv
  rcases hm with hm | hm | hm
  all_goals
    rw [hm] at H8
    have c0 := HV.out wz
    have hj2 : (j : Int) < 18 := by omega
    obtain ⟨wl, hwl⟩ : ∃ wl, wl = wz.alloc (.cells #[.int .i64 0, .int .i64 1, .int .i64 2, .int .i64 5, .int .i64 12, .int .i64 13, .int .i64 24, .int .i64 29, .int .i64 31, .int .i64 60, .int .i64 99, .int .i64 100, .int .i64 2024, .int .i64 9999, .int .i64 10000, .int .i64 999, .int .i64 1000000, .int .i64 1000001] 3) := ⟨_, rfl⟩
    have ZL := hid (show wl.heap[w.heap.size]? = some (.cells #[.int .i64 0, .slice none 0 0] 24 (0, 0)) by rw [hwl]; exact ((up_alloc wz _).block _ hsz).trans ZZ.out)
    have HBl := hid (show Below w.heap.size w wl by rw [hwl]; exact up_trans HBz.out (up_alloc _ _))
    go_enter Tryd.func15, Tryd.ntmps15
    go_wp2_with fail
    rw [← hwz]
    clear hwz
    refine (H8.out _).mono ?_
    rintro e wn ⟨rfl, hw⟩
    obtain rfl := hw.symm
    clear hw
    go_wp2_with fail
    rw [← hwl]
    refine (H18.out _).mono ?_
    rintro e wn ⟨rfl, hw⟩
    obtain rfl := hw.symm
    clear hw
    rw [← hwl] at c0
    have HL2 := hid (show wz.heap.size ≤ wl.heap.size by rw [hwl]; simp)
    clear hwl
    go_wp2
    go_loop [5, 6] (fun v5 v6 => ∃ t : Nat, t ≤ 6 ∧ v5 = .int .i64 ((t : Int) + 1) ∧ v6 = .int .i64 (v / De.Dc.ten t) ∧ (t = 0 ∨ De.Dc.ten t ≤ v)) (fun _ v6 => (intOf v6).toNat)
    case atStart => exact ⟨0, by omega, rfl, by rw [De.Dc.ten0, Int.ediv_one], .inl rfl⟩
    case round =>
      obtain ⟨t, ht, rfl, rfl, hq⟩ := hrel
      have hq0 : 0 ≤ v / De.Dc.ten t := Int.ediv_nonneg v0 (by have := De.Dc.ten_pos t; omega)
      have hqm : v / De.Dc.ten t ≤ 1000001 := Int.le_trans (Int.ediv_le_self _ v0) v1
      by_cases h10 : 10 ≤ v / De.Dc.ten t
      case pos =>
        obtain ⟨n1, n2, n3⟩ := dig_next v t ht v0 v1 h10
        have HN2 := hid n2
        clear n2
        generalize v / De.Dc.ten t = q at *
        have hlt : (q / 10).toNat < q.toNat := by omega
        have HLT := hid hlt
        clear hlt
        go_wp2
        go_round
        case rel => exact ⟨t + 1, n1, by simp, by rw [HN2.out], .inr n3⟩
        case measure => simp only [intOf]; exact HLT.out
      case neg =>
        have hl := dig_last v t ht v0 (by omega) hq
        obtain ⟨x, hx⟩ : ∃ x, x = (t : Int) + 1 := ⟨_, rfl⟩
        have HXD := hid (show x = dgt v from hx.trans hl.symm)
        generalize v / De.Dc.ten t = q at *
        clear hq hl
        have hxb : 1 ≤ x ∧ x ≤ 7 := by omega
        obtain ⟨x0, x1⟩ := hxb
        rw [← hx]
        clear hx ht d0 d1
        go_wp2_with fail
        refine (H2.out _).mono ?_
        rintro e wn ⟨rfl, hw⟩
        obtain rfl := hw.symm
        clear hw
        have z0 : (wl.alloc (.cells #[.int .i64 (v), .int .i64 (x + ee)] 3)).cell? ⟨w.heap.size, 0, none⟩ = some (.int .i64 0) := by rw [cell_of_row (((up_alloc wl _).block _ (Nat.lt_of_lt_of_le hsz HL2.out)).trans ZL.out)]; rfl
        have z1 : (wl.alloc (.cells #[.int .i64 (v), .int .i64 (x + ee)] 3)).cell? ⟨w.heap.size, 1, none⟩ = some (.slice none 0 0) := by rw [cell_of_row (((up_alloc wl _).block _ (Nat.lt_of_lt_of_le hsz HL2.out)).trans ZL.out)]; rfl
        have z2 : ∀ o, (wl.alloc (.cells #[.int .i64 (v), .int .i64 (x + ee)] 3)).frozen? ⟨w.heap.size, o, none⟩ = false := fun o => frozen_of_row (((up_alloc wl _).block _ (Nat.lt_of_lt_of_le hsz HL2.out)).trans ZL.out)
        obtain ⟨K1, K2, K3⟩ := put_res (k := 1) (sl := .slice (some ⟨wl.heap.size, 0, none⟩) 2 2) (x := ⟨1, [v, x + ee]⟩) (((up_alloc wl (.cells #[.int .i64 (v), .int .i64 (x + ee)] 3)).block _ (Nat.lt_of_lt_of_le hsz HL2.out)).trans ZL.out) (up_trans HBl.out (up_alloc _ _)) (Nat.le_refl _) ⟨_, rfl, NA.at [v, x + ee] (new_row wl _) (Nat.lt_of_lt_of_le hsz HL2.out) (by simp)⟩
        have K1 := hid K1
        have K2 := hid K2
        have K3 := hid K3
        go_wp2
        exact bodyPost_ret (v := .agg #[.int .i64 1, .slice (some ⟨wl.heap.size, 0, none⟩) 2 2]) (results_cell_row rfl _ _ w.heap.size 24 _ (0, 0) _ rfl K1.out Tryd.underlying24 rfl (by kernel_rfl)) rfl ⟨_, rfl, by rw [← HXD.out]; exact K3.out, K2.out⟩

set_option maxRecDepth 8000 in
set_option maxHeartbeats 4000000 in
theorem child_word (n : Int) (h0 : 0 ≤ n) (h1 : n ≤ 2199023255552) (hm : n % 8 = 3 ∨ n % 8 = 4) : ChildOk n := by
  have H8 := hid fun w => lwithin_any n 8 w (by decide) (by decide) (by omega) (by omega)
  obtain ⟨k, hk, hkn⟩ : ∃ k : Nat, n.tdiv 8 = k ∧ (k : Int) ≤ 2199023255552 := ⟨(n.tdiv 8).toNat, by rw [Int.tdiv_eq_ediv_of_nonneg h0]; omega, by rw [Int.tdiv_eq_ediv_of_nonneg h0]; omega⟩
  have H14 := hid fun w => lwithin_any (k : Int) 14 w (by decide) (by decide) (by omega) (by omega)
  obtain ⟨j, hj⟩ : ∃ j : Nat, (k : Int) % 14 = j := ⟨((k : Int) % 14).toNat, by omega⟩
  have hj14 : j < 14 := by omega
  rw [hj] at H14
  obtain ⟨v, v0, v1, hv⟩ := tab14 j hj14
  refine ⟨⟨2, [v]⟩, .inr (.inl ⟨v, rfl, v0, v1⟩), fun w => ?_⟩
  clear hj
  obtain ⟨wz, hwz⟩ : ∃ wz, wz = w.alloc (.cells #[.int .i64 0, .slice none 0 0] 24) := ⟨_, rfl⟩
  have ZZ := hid (show wz.heap[w.heap.size]? = some (.cells #[.int .i64 0, .slice none 0 0] 24 (0, 0)) by rw [hwz]; exact new_row _ _)
  have HBz := hid (show Below w.heap.size w wz by rw [hwz]; exact up_alloc _ _)
  have hsz : w.heap.size < wz.heap.size := by rw [hwz]; simp
  have HV := hid hv
  clear hv
  rcases hm with hm | hm
  all_goals
    rw [hm] at H8
    have c0 := HV.out wz
    have hj2 : (j : Int) < 14 := by omega
    obtain ⟨wl, hwl⟩ : ∃ wl, wl = wz.alloc (.cells #[.int .i64 0, .int .i64 1, .int .i64 2, .int .i64 3, .int .i64 4, .int .i64 6, .int .i64 7, .int .i64 (-1), .int .i64 (-2), .int .i64 12, .int .i64 60, .int .i64 9782, .int .i64 3920, .int .i64 1073741824] 3) := ⟨_, rfl⟩
    have ZL := hid (show wl.heap[w.heap.size]? = some (.cells #[.int .i64 0, .slice none 0 0] 24 (0, 0)) by rw [hwl]; exact ((up_alloc wz _).block _ hsz).trans ZZ.out)
    have HBl := hid (show Below w.heap.size w wl by rw [hwl]; exact up_trans HBz.out (up_alloc _ _))
    have HL2 := hid (show wz.heap.size ≤ wl.heap.size by rw [hwl]; simp)
    go_enter Tryd.func15, Tryd.ntmps15
    go_wp2_with fail
    rw [← hwz]
    clear hwz
    refine (H8.out _).mono ?_
    rintro e wn ⟨rfl, hw⟩
    obtain rfl := hw.symm
    clear hw
    go_wp2_with fail
    rw [← hwl]
    refine (H14.out _).mono ?_
    rintro e wn ⟨rfl, hw⟩
    obtain rfl := hw.symm
    clear hw
    rw [← hwl] at c0
    clear hwl
    have z0 : (wl.alloc (.cells #[.int .i64 (v)] 3)).cell? ⟨w.heap.size, 0, none⟩ = some (.int .i64 0) := by rw [cell_of_row (((up_alloc wl _).block _ (Nat.lt_of_lt_of_le hsz HL2.out)).trans ZL.out)]; rfl
    have z1 : (wl.alloc (.cells #[.int .i64 (v)] 3)).cell? ⟨w.heap.size, 1, none⟩ = some (.slice none 0 0) := by rw [cell_of_row (((up_alloc wl _).block _ (Nat.lt_of_lt_of_le hsz HL2.out)).trans ZL.out)]; rfl
    have z2 : ∀ o, (wl.alloc (.cells #[.int .i64 (v)] 3)).frozen? ⟨w.heap.size, o, none⟩ = false := fun o => frozen_of_row (((up_alloc wl _).block _ (Nat.lt_of_lt_of_le hsz HL2.out)).trans ZL.out)
    obtain ⟨K1, K2, K3⟩ := put_res (k := 2) (sl := .slice (some ⟨wl.heap.size, 0, none⟩) 1 1) (x := ⟨2, [v]⟩) (w5 := (wl.alloc (.cells #[.int .i64 (v)] 3))) (((up_alloc wl _).block _ (Nat.lt_of_lt_of_le hsz HL2.out)).trans ZL.out) (up_trans HBl.out (up_alloc _ _)) (Nat.le_refl _) ⟨_, rfl, NA.at [v] (new_row wl _) (Nat.lt_of_lt_of_le hsz HL2.out) (by simp)⟩
    have K1 := hid K1
    have K2 := hid K2
    have K3 := hid K3
    go_wp2
    exact bodyPost_ret (v := .agg #[.int .i64 2, .slice (some ⟨wl.heap.size, 0, none⟩) 1 1]) (results_cell_row rfl _ _ w.heap.size 24 _ (0, 0) _ rfl K1.out Tryd.underlying24 rfl (by kernel_rfl)) rfl ⟨_, rfl, K3.out, K2.out⟩

set_option maxRecDepth 8000 in
set_option maxHeartbeats 4000000 in
theorem child_mark (n : Int) (h0 : 0 ≤ n) (h1 : n ≤ 2199023255552) (hm : n % 8 = 5) : ChildOk n := by
  have H8 := hid fun w => lwithin_any n 8 w (by decide) (by decide) (by omega) (by omega)
  obtain ⟨k, hk, hkn⟩ : ∃ k : Nat, n.tdiv 8 = k ∧ (k : Int) ≤ 2199023255552 := ⟨(n.tdiv 8).toNat, by rw [Int.tdiv_eq_ediv_of_nonneg h0]; omega, by rw [Int.tdiv_eq_ediv_of_nonneg h0]; omega⟩
  refine ⟨⟨3, []⟩, .inr (.inr (.inl rfl)), fun w => ?_⟩
  obtain ⟨wz, hwz⟩ : ∃ wz, wz = w.alloc (.cells #[.int .i64 0, .slice none 0 0] 24) := ⟨_, rfl⟩
  have ZZ := hid (show wz.heap[w.heap.size]? = some (.cells #[.int .i64 0, .slice none 0 0] 24 (0, 0)) by rw [hwz]; exact new_row _ _)
  have HBz := hid (show Below w.heap.size w wz by rw [hwz]; exact up_alloc _ _)
  have hsz : w.heap.size < wz.heap.size := by rw [hwz]; simp
  have ZL := ZZ
  have HBl := HBz
  rw [hm] at H8
  go_enter Tryd.func15, Tryd.ntmps15
  go_wp2_with fail
  rw [← hwz]
  clear hwz
  refine (H8.out _).mono ?_
  rintro e wn ⟨rfl, hw⟩
  obtain rfl := hw.symm
  clear hw
  have z0 : wz.cell? ⟨w.heap.size, 0, none⟩ = some (.int .i64 0) := by rw [cell_of_row ZL.out]; rfl
  have z1 : wz.cell? ⟨w.heap.size, 1, none⟩ = some (.slice none 0 0) := by rw [cell_of_row ZL.out]; rfl
  have z2 : ∀ o, wz.frozen? ⟨w.heap.size, o, none⟩ = false := fun o => frozen_of_row ZL.out
  obtain ⟨K1, K2, K3⟩ := put_res (k := 3) (sl := .slice none 0 0) (x := ⟨3, []⟩) (w5 := wz) ZL.out HBl.out (Nat.le_refl _) ⟨_, rfl, .inl ⟨rfl, rfl⟩⟩
  have K1 := hid K1
  have K2 := hid K2
  have K3 := hid K3
  go_wp2
  exact bodyPost_ret (v := .agg #[.int .i64 3, .slice none 0 0]) (results_cell_row rfl _ _ w.heap.size 24 _ (0, 0) _ rfl K1.out Tryd.underlying24 rfl (by kernel_rfl)) rfl ⟨_, rfl, K3.out, K2.out⟩

set_option maxRecDepth 8000 in
set_option maxHeartbeats 4000000 in
theorem child_value (n : Int) (h0 : 0 ≤ n) (h1 : n ≤ 2199023255552) (hm : n % 8 = 6 ∨ n % 8 = 7) : ChildOk n := by
  have H8 := hid fun w => lwithin_any n 8 w (by decide) (by decide) (by omega) (by omega)
  obtain ⟨k, hk, hkn⟩ : ∃ k : Nat, n.tdiv 8 = k ∧ (k : Int) ≤ 2199023255552 := ⟨(n.tdiv 8).toNat, by rw [Int.tdiv_eq_ediv_of_nonneg h0]; omega, by rw [Int.tdiv_eq_ediv_of_nonneg h0]; omega⟩
  have i0 : i64 (k : Int) := by unfold i64; omega
  have e3 : (k : Int).tdiv 3 = (k : Int) / 3 := Int.tdiv_eq_ediv_of_nonneg (by omega)
  have e5 : (k : Int).tdiv 5 = (k : Int) / 5 := Int.tdiv_eq_ediv_of_nonneg (by omega)
  obtain ⟨x, hkk, hr, hV⟩ := lvalue_any (k : Int) ((k : Int) / 3) ((k : Int) / 5) i0 (by unfold i64; omega) (by unfold i64; omega)
  refine ⟨x, .inr (.inr (.inr hr)), fun w => ?_⟩
  have HV := hid hV
  clear hV hr hkk
  obtain ⟨wz, hwz⟩ : ∃ wz, wz = w.alloc (.cells #[.int .i64 0, .slice none 0 0] 24) := ⟨_, rfl⟩
  have ZZ := hid (show wz.heap[w.heap.size]? = some (.cells #[.int .i64 0, .slice none 0 0] 24 (0, 0)) by rw [hwz]; exact new_row _ _)
  have HBz := hid (show Below w.heap.size w wz by rw [hwz]; exact up_alloc _ _)
  have hsz : w.heap.size < wz.heap.size := by rw [hwz]; simp
  rcases hm with hm | hm
  all_goals
    rw [hm] at H8
    go_enter Tryd.func15, Tryd.ntmps15
    go_wp2_with fail
    rw [← hwz]
    clear hwz
    refine (H8.out _).mono ?_
    rintro e wn ⟨rfl, hw⟩
    obtain rfl := hw.symm
    clear hw
    go_wp2_with fail
    refine (HV.out _).mono ?_
    rintro e wl ⟨u, rfl, hu, hb⟩
    have HBl := hid (up_trans HBz.out hb)
    have ZL := hid ((hb.block _ hsz).trans ZZ.out)
    obtain ⟨kx, fx⟩ := x
    obtain ⟨fv, rfl, hf⟩ := hu
    dsimp only at hf ⊢
    obtain ⟨ad, cap, rfl, _⟩ := hf.ia.shape
    have HF := hid (hf.low (Nat.le_of_lt_succ (Nat.lt_succ_of_lt hsz) |> fun _ => (show w.heap.size + 1 ≤ wz.heap.size from hsz)))
    clear hf hb
    have z0 : wl.cell? ⟨w.heap.size, 0, none⟩ = some (.int .i64 0) := by rw [cell_of_row ZL.out]; rfl
    have z1 : wl.cell? ⟨w.heap.size, 1, none⟩ = some (.slice none 0 0) := by rw [cell_of_row ZL.out]; rfl
    have z2 : ∀ o, wl.frozen? ⟨w.heap.size, o, none⟩ = false := fun o => frozen_of_row ZL.out
    obtain ⟨K1, K2, K3⟩ := put_res (k := kx) (sl := .slice ad fx.length cap) (x := ⟨kx, fx⟩) (w5 := wl) ZL.out HBl.out (Nat.le_refl _) ⟨_, rfl, HF.out⟩
    have K1 := hid K1
    have K2 := hid K2
    have K3 := hid K3
    go_wp2
    exact bodyPost_ret (v := .agg #[.int .i64 kx, .slice ad fx.length cap]) (results_cell_row rfl _ _ w.heap.size 24 _ (0, 0) _ rfl K1.out Tryd.underlying24 rfl (by kernel_rfl)) rfl ⟨_, rfl, K3.out, K2.out⟩

theorem child_any (n : Int) (h0 : 0 ≤ n) (h1 : n ≤ 2199023255552) : ChildOk n := by
  rcases (by omega : (n % 8 = 0 ∨ n % 8 = 1 ∨ n % 8 = 2) ∨ (n % 8 = 3 ∨ n % 8 = 4) ∨ n % 8 = 5 ∨ (n % 8 = 6 ∨ n % 8 = 7)) with h | h | h | h
  · exact child_number n h0 h1 h
  · exact child_word n h0 h1 h
  · exact child_mark n h0 h1 h
  · exact child_value n h0 h1 h
end Go.Proofs.YtengcdodoblabaaDoor
