/- CiMath, CiLeaf, CiMid, CiDays, CiAdd, CiRef, CiExt, CiRight, CiRightMore, CiBase: these texts, one behind the other. -/
import Derived.Test.YtannndpamhgknaaGreatDoorProg
import Derived.WalkKit
import Derived.WalkSpells
import Derived.Deep.QuietTactic
import Derived.BigQuiet
import Derived.WalkSmall
import Derived.ChangeKeysEq
import Derived.Deep.RegionWith
/- Plain facts on days: the number of a day, the way back from it, leap years, lengths of months; no program is spoken of. -/
namespace Go.Proofs.YtannndpamhgknaaGreatDoor.Ci
namespace Civ
def lp (y : Int) : Bool := decide (y % 4 = 0) && (decide (y % 100 ≠ 0) || decide (y % 400 = 0))
def len (y m : Int) : Int := if m = 2 then (if lp y then 29 else 28) else if m = 4 ∨ m = 6 ∨ m = 9 ∨ m = 11 then 30 else 31
def aM (m : Int) : Int := (153 * m + 2) / 5
def mY (y m : Int) : Int := if m < 3 then y - 1 else y
def mM (m : Int) : Int := if m < 3 then m + 9 else m - 3
def aY (y : Int) : Int := 365 * y + y / 4 - y / 100

theorem yr_core (f r u v q t : Int) (hf0 : 0 ≤ f) (hf : f ≤ 3) (h0 : 0 ≤ r) (h1 : r ≤ 36523) (hu : u = r / 1461) (hv : v = r - 1461 * u) (hq : q = (24 * f + r) / 1460) (ht : t = (r - q) / 365) :
    t / 4 = u ∧ 0 ≤ t ∧ t ≤ 99 ∧ 365 * t + u ≤ r ∧ (r ≤ 365 * t + u + 364 ∨ (t % 4 = 3 ∧ r = 365 * t + u + 365)) := by
  have hv0 : 0 ≤ v := by omega
  have hv1 : v ≤ 1460 := by omega
  have hu0 : 0 ≤ u := by omega
  have hu1 : u ≤ 24 := by omega
  have hr : r = 1461 * u + v := by omega
  by_cases hc : u + v + 24 * f < 1460
  · have hq' : q = u := by omega
    have : t = 4 * u + v / 365 := by omega
    omega
  · have hq' : q = u + 1 := by omega
    have h3 : t = 4 * u + 3 := by omega
    have hv2 : 1364 ≤ v := by omega
    omega

def yOf (n : Int) : Int := (n - n / 1460 + n / 36524 - n / 146096) / 365

theorem yr (n : Int) (h0 : 0 ≤ n) (h1 : n ≤ 146096) :
    0 ≤ yOf n ∧ yOf n ≤ 399 ∧ aY (yOf n) ≤ n ∧ n ≤ aY (yOf n) + 364 + (if lp (yOf n + 1) then 1 else 0) := by
  by_cases h : n = 146096
  · subst h; decide
  · have hg : n / 146096 = 0 := by omega
    generalize hf : n / 36524 = f
    have hf0 : 0 ≤ f := by omega
    have hf3 : f ≤ 3 := by omega
    generalize hr : n - 36524 * f = r
    have hr0 : 0 ≤ r := by omega
    have hr1 : r ≤ 36523 := by omega
    have he : n / 1460 = 25 * f + (24 * f + r) / 1460 := by omega
    have hy : yOf n = 100 * f + (r - (24 * f + r) / 1460) / 365 := by unfold yOf; rw [hg, hf, he]; omega
    have hc := yr_core f r _ _ _ _ hf0 hf3 hr0 hr1 rfl rfl rfl rfl
    generalize (r - (24 * f + r) / 1460) / 365 = t at *
    generalize r / 1461 = u at *
    obtain ⟨c1, c2, c3, c4, c5⟩ := hc
    have hA : aY (yOf n) = 36524 * f + 365 * t + u := by unfold aY; rw [hy]; omega
    rw [hA]
    refine ⟨by omega, by omega, by omega, ?_⟩
    rcases c5 with c5 | ⟨c5, c6⟩
    · split <;> omega
    · have hl : lp (yOf n + 1) = true := by
        rw [hy]; unfold lp
        have a1 : (100 * f + t + 1) % 4 = 0 := by omega
        by_cases a2 : t = 99
        · subst a2
          have : u = 24 := by omega
          omega
        · have a3 : (100 * f + t + 1) % 100 ≠ 0 := by omega
          simp [a1, a3]
      rw [if_pos hl]; omega

/-- days ahead of the year that begins in March -/
def G (Y : Int) : Int := 365 * Y + Y / 4 - Y / 100 + Y / 400
def num (y m d : Int) : Int := (mY y m / 400) * 146097 + aY (mY y m - mY y m / 400 * 400) + aM (mM m) + d - 1 - 719468
def vld (y m d : Int) : Bool := decide (1 ≤ m) && decide (m ≤ 12) && decide (1 ≤ d) && decide (d ≤ len y m)
theorem vld_iff (y m d : Int) : vld y m d = true ↔ 1 ≤ m ∧ m ≤ 12 ∧ 1 ≤ d ∧ d ≤ len y m := by
  unfold vld; simp [and_assoc]

theorem G_eq (Y : Int) : (Y / 400) * 146097 + aY (Y - Y / 400 * 400) = G Y := by
  unfold aY G; omega

theorem lp_lo (Y : Int) : (lp Y = true ∧ Y % 4 = 0 ∧ (Y % 100 ≠ 0 ∨ Y % 400 = 0)) ∨ (lp Y = false ∧ (Y % 4 ≠ 0 ∨ (Y % 100 = 0 ∧ Y % 400 ≠ 0))) := by
  unfold lp
  by_cases h4 : Y % 4 = 0 <;> by_cases h100 : Y % 100 = 0 <;> by_cases h400 : Y % 400 = 0 <;> simp [h4, h100, h400]

theorem G_succ (Y : Int) : G (Y + 1) = G Y + 365 + (if lp (Y + 1) then 1 else 0) := by
  rcases lp_lo (Y + 1) with ⟨h, a, b⟩ | ⟨h, a⟩ <;> rw [h] <;> unfold G <;> simp <;> omega

theorem G_mono (Y Z : Int) (h : Y ≤ Z) : G Y + 365 * (Z - Y) ≤ G Z := by unfold G; omega

theorem lp_era (Y k : Int) : lp (Y + 400 * k) = lp Y := by
  unfold lp
  have h1 : (Y + 400 * k) % 4 = Y % 4 := by omega
  have h2 : (Y + 400 * k) % 100 = Y % 100 := by omega
  have h3 : (Y + 400 * k) % 400 = Y % 400 := by omega
  rw [h1, h2, h3]

/-- the month that a day of a year is in, counted from March -/
theorem mon (n : Int) (h0 : 0 ≤ n) (h1 : n ≤ 365) :
    0 ≤ (5 * n + 2) / 153 ∧ (5 * n + 2) / 153 ≤ 11 ∧ aM ((5 * n + 2) / 153) ≤ n ∧ n < aM ((5 * n + 2) / 153 + 1) := by
  unfold aM; omega

/-- a month is as long as the months from March on tell -/
theorem len_mar (y m : Int) (h1 : 1 ≤ m) (h2 : m ≤ 12) : (mM m ≠ 11 ∧ aM (mM m + 1) - aM (mM m) = len y m) ∨ (m = 2 ∧ aM (mM m) = 337 ∧ len y m = 28 + (if lp y then 1 else 0)) := by
  have : m = 1 ∨ m = 2 ∨ m = 3 ∨ m = 4 ∨ m = 5 ∨ m = 6 ∨ m = 7 ∨ m = 8 ∨ m = 9 ∨ m = 10 ∨ m = 11 ∨ m = 12 := by omega
  rcases this with rfl | rfl | rfl | rfl | rfl | rfl | rfl | rfl | rfl | rfl | rfl | rfl <;> first | (left; refine ⟨by decide, ?_⟩; simp [len, mM, aM]; done) | (right; refine ⟨rfl, by decide, ?_⟩; simp [len]; split <;> rfl)

def ofY (k : Int) : Int := yOf (k + 719468 - (k + 719468) / 146097 * 146097)
def ofD (k : Int) : Int := (k + 719468 - (k + 719468) / 146097 * 146097) - aY (ofY k)
def ofM (k : Int) : Int := (5 * ofD k + 2) / 153
def cY (k : Int) : Int := if ofM k < 10 then ofY k + (k + 719468) / 146097 * 400 else ofY k + (k + 719468) / 146097 * 400 + 1
def cM (k : Int) : Int := if ofM k < 10 then ofM k + 3 else ofM k - 9
def cD (k : Int) : Int := ofD k - aM (ofM k) + 1

theorem num_G (y m d : Int) : num y m d = G (mY y m) + aM (mM m) + d - 719469 := by
  unfold num; rw [G_eq]; omega

theorem of_facts (k : Int) : ∃ Y M D : Int, cY k = (if M < 10 then Y else Y + 1) ∧ cM k = (if M < 10 then M + 3 else M - 9) ∧ cD k = D + 1 ∧ 0 ≤ M ∧ M ≤ 11 ∧ 0 ≤ D ∧
    D < aM (M + 1) - aM M ∧ aM M + D ≤ 364 + (if lp (Y + 1) then 1 else 0) ∧ G Y + aM M + D = k + 719468 := by
  refine ⟨ofY k + (k + 719468) / 146097 * 400, ofM k, ofD k - aM (ofM k), rfl, rfl, rfl, ?_⟩
  have hy := yr (k + 719468 - (k + 719468) / 146097 * 146097) (by omega) (by omega)
  obtain ⟨y0, y1, y2, y3⟩ := hy
  change 0 ≤ ofY k at y0
  change ofY k ≤ 399 at y1
  change aY (ofY k) ≤ _ at y2
  change _ ≤ aY (ofY k) + 364 + (if lp (ofY k + 1) then 1 else 0) at y3
  have hl : lp (ofY k + (k + 719468) / 146097 * 400 + 1) = lp (ofY k + 1) := by
    rw [show ofY k + (k + 719468) / 146097 * 400 + 1 = ofY k + 1 + 400 * ((k + 719468) / 146097) by omega, lp_era]
  have hd : ofD k = (k + 719468 - (k + 719468) / 146097 * 146097) - aY (ofY k) := rfl
  have hd0 : 0 ≤ ofD k := by omega
  have hd1 : ofD k ≤ 364 + (if lp (ofY k + 1) then 1 else 0) := by omega
  have hd2 : ofD k ≤ 365 := by split at hd1 <;> omega
  have hm := mon (ofD k) hd0 hd2
  obtain ⟨m0, m1, m2, m3⟩ := hm
  change 0 ≤ ofM k at m0
  change ofM k ≤ 11 at m1
  change aM (ofM k) ≤ _ at m2
  change _ < aM (ofM k + 1) at m3
  have hG := G_eq (ofY k + (k + 719468) / 146097 * 400)
  have e1 : (ofY k + (k + 719468) / 146097 * 400) / 400 = (k + 719468) / 146097 := by omega
  rw [e1, show ofY k + (k + 719468) / 146097 * 400 - (k + 719468) / 146097 * 400 = ofY k by omega] at hG
  rw [hl]
  refine ⟨m0, m1, by omega, by omega, by omega, by omega⟩

theorem of_num (k : Int) : num (cY k) (cM k) (cD k) = k ∧ vld (cY k) (cM k) (cD k) = true := by
  obtain ⟨Y, M, D, hY, hM, hD, m0, m1, d0, d1, d2, hG⟩ := of_facts k
  rw [num_G, vld_iff]
  have e1 : mY (cY k) (cM k) = Y := by unfold mY; rw [hY, hM]; split <;> split <;> omega
  have e2 : mM (cM k) = M := by unfold mM; rw [hM]; split <;> split <;> omega
  have c0 : 1 ≤ cM k ∧ cM k ≤ 12 := by rw [hM]; split <;> omega
  refine ⟨by rw [e1, e2, hD]; omega, c0.1, c0.2, by omega, ?_⟩
  rcases len_mar (cY k) (cM k) c0.1 c0.2 with ⟨a, b⟩ | ⟨a, b, c⟩
  · rw [e2] at a b; omega
  · rw [e2] at b
    have hM11 : M = 11 := by rw [hM] at a; split at a <;> omega
    have hY1 : cY k = Y + 1 := by rw [hY, hM11]; simp
    rw [c, hY1, hD]; split at d2 <;> simp_all <;> omega

theorem num_lt (y m d y' m' d' : Int) (hv : vld y m d = true) (hv' : vld y' m' d' = true) (h : y < y' ∨ y = y' ∧ (m < m' ∨ m = m' ∧ d < d')) : num y m d < num y' m' d' := by
  obtain ⟨a, b, c, e⟩ := (vld_iff _ _ _).1 hv
  obtain ⟨a', b', c', e'⟩ := (vld_iff _ _ _).1 hv'
  rw [num_G, num_G]
  have hA0 : 0 ≤ aM (mM m') := by unfold aM mM; split <;> omega
  by_cases hYY : mY y m < mY y' m'
  · -- a year less
    have g1 := G_mono (mY y m + 1) (mY y' m') (by omega)
    have g2 := G_succ (mY y m)
    have hb : aM (mM m) + d ≤ 365 + (if lp (mY y m + 1) then 1 else 0) := by
      rcases len_mar y m a b with ⟨p, q⟩ | ⟨p, q, r⟩
      · have : aM (mM m + 1) ≤ 337 := by
          have : mM m + 1 ≤ 11 := by unfold mM at *; split at p <;> split <;> omega
          unfold aM; omega
        split <;> omega
      · have : mY y m + 1 = y := by unfold mY; rw [p]; simp
        rw [this]; omega
    omega
  · have hYe : mY y m = mY y' m' := by unfold mY at *; omega
    rw [hYe]
    have hmm : mM m < mM m' ∨ (m = m' ∧ d < d') := by unfold mY at hYe; unfold mM; omega
    rcases hmm with hmm | ⟨rfl, hd⟩
    · have hk : aM (mM m + 1) ≤ aM (mM m') := by unfold aM; omega
      rcases len_mar y m a b with ⟨p, q⟩ | ⟨p, q, r⟩
      · omega
      · have : mM m = 11 := by rw [p]; rfl
        have : mM m' ≤ 11 := by unfold mM; split <;> omega
        omega
    · omega

theorem num_inj (y m d y' m' d' : Int) (hv : vld y m d = true) (hv' : vld y' m' d' = true) (h : num y m d = num y' m' d') : y = y' ∧ m = m' ∧ d = d' := by
  have h1 := num_lt y m d y' m' d' hv hv'
  have h2 := num_lt y' m' d' y m d hv' hv
  omega

theorem of_back (y m d : Int) (hv : vld y m d = true) : cY (num y m d) = y ∧ cM (num y m d) = m ∧ cD (num y m d) = d := by
  obtain ⟨a, b⟩ := of_num (num y m d)
  exact num_inj _ _ _ _ _ _ b hv a

end Civ
end Go.Proofs.YtannndpamhgknaaGreatDoor.Ci

/- What the small functions of package civil and of the reference answer: divisions that round down, days ahead of a year and of a month, leap years, lengths of months, bounds; each for every argument in the stated range, each leaving the world as it is. -/
namespace Go.Proofs.YtannndpamhgknaaGreatDoor.Ci
open Go.RowKit

theorem ret_int {k : IntKind} {a b : Int} (h : a = b) : Ending.returned (.int k a) = .returned (.int k b) := by rw [h]
theorem ret_bool {a b : Bool} (h : a = b) : Ending.returned (.bool a) = .returned (.bool b) := by rw [h]

theorem floor_neg (n d : Int) (hd : 0 < d) (h : n.tmod d < 0) : n.tdiv d - 1 = n / d := by
  rw [Int.tmod_eq_emod] at h
  rw [Int.tdiv_eq_ediv, Int.sign_eq_one_of_pos hd]
  have h4 := Int.emod_nonneg n (show d ≠ 0 by omega)
  split at h
  · omega
  · rename_i hc; rw [if_neg hc]; omega
theorem floor_pos (n d : Int) (hd : 0 < d) (h : 0 ≤ n.tmod d) : n.tdiv d = n / d := by
  rw [Int.tmod_eq_emod] at h
  rw [Int.tdiv_eq_ediv, Int.sign_eq_one_of_pos hd]
  have h5 := Int.emod_lt_of_pos n hd
  split at h
  · rename_i hc; rw [if_pos hc]; omega
  · omega
theorem tmod_neg (n d : Int) (hd : 0 < d) (h : n.tmod d < 0) : n.tmod d + d = n % d := by
  rw [Int.tmod_eq_emod] at *
  have h4 := Int.emod_nonneg n (show d ≠ 0 by omega)
  split at h
  · omega
  · rename_i hc; rw [if_neg hc]; omega
theorem tmod_pos (n d : Int) (hd : 0 < d) (h : 0 ≤ n.tmod d) : n.tmod d = n % d := by
  rw [Int.tmod_eq_emod] at *
  have h5 := Int.emod_lt_of_pos n hd
  split at h
  · rename_i hc; rw [if_pos hc]; omega
  · omega
theorem tm0 (n d : Int) (hd : 0 < d) : n.tmod d = 0 ↔ n % d = 0 := by
  have h4 := Int.emod_nonneg n (show d ≠ 0 by omega)
  have h5 := Int.emod_lt_of_pos n hd
  rw [Int.tmod_eq_emod]
  split
  · omega
  · rename_i hc
    have : ¬ d ∣ n := fun h => hc (Or.inr h)
    have h6 : n % d ≠ 0 := fun h => this (Int.dvd_of_emod_eq_zero h)
    constructor
    · intro h; omega
    · intro h; exact absurd h h6

theorem div_bd (n d : Int) (hd : 2 ≤ d) (h3 : -9223372036854775807 ≤ n) (h4 : n ≤ 9223372036854775807) : -9223372036854775807 ≤ n / d ∧ n / d ≤ 9223372036854775807 := by
  have h1 := Int.emod_nonneg n (show d ≠ 0 by omega)
  have h5 := Int.emod_lt_of_pos n (show 0 < d by omega)
  have h6 := Int.mul_ediv_add_emod n d
  by_cases hq : 0 ≤ n / d
  · have : 2 * (n / d) ≤ d * (n / d) := Int.mul_le_mul_of_nonneg_right hd hq
    omega
  · have : d * (n / d) ≤ 2 * (n / d) := Int.mul_le_mul_of_nonpos_right hd (by omega)
    by_cases hn : 0 ≤ n
    · have := Int.ediv_nonneg hn (show 0 ≤ d by omega); omega
    · have h7 : n ≤ n / d := by
        have : (-n) * 1 ≤ (-n) * d := Int.mul_le_mul_of_nonneg_left (by omega) (by omega)
        exact Int.le_ediv_of_mul_le (by omega) (by rw [Int.neg_mul, Int.neg_mul] at this; omega)
      omega

set_option maxHeartbeats 400000 in
theorem cfloor_any (n d : Int) (w : World) (h1 : 2 ≤ d) (h2 : d ≤ 1000000) (h3 : -9223372036854775807 ≤ n) (h4 : n ≤ 9223372036854775807) :
    Calls Tryz.prog 140 #[.int .i64 n, .int .i64 d] w fun e w' => e = .returned (.int .i64 (n / d)) ∧ w' = w := by
  go_enter Tryz.func140, Tryz.ntmps140
  go_wp2
  · go_ret
    have hb := div_bd n d h1 h3 h4
    refine ⟨ret_int ?_, rfl⟩
    rw [floor_neg n d (by omega) ‹_›]
    exact IntWalk.wrap64_in _ (by omega)
  · go_ret
    exact ⟨ret_int (floor_pos n d (by omega) ‹_›), rfl⟩

set_option maxHeartbeats 400000 in
theorem rfloor_any (n d : Int) (w : World) (h1 : 2 ≤ d) (h2 : d ≤ 1000000) (h3 : -9223372036854775807 ≤ n) (h4 : n ≤ 9223372036854775807) :
    Calls Tryz.prog 54 #[.int .i64 n, .int .i64 d] w fun e w' => e = .returned (.int .i64 (n / d)) ∧ w' = w := by
  go_enter Tryz.func54, Tryz.ntmps54
  go_wp2
  · go_ret
    have hb := div_bd n d h1 h3 h4
    refine ⟨ret_int ?_, rfl⟩
    rw [floor_neg n d (by omega) ‹_›]
    exact IntWalk.wrap64_in _ (by omega)
  · go_ret
    exact ⟨ret_int (floor_pos n d (by omega) ‹_›), rfl⟩

set_option maxHeartbeats 400000 in
theorem aY_any (y : Int) (w : World) (h0 : 0 ≤ y) (h1 : y ≤ 100000) :
    Calls Tryz.prog 141 #[.int .i64 y] w fun e w' => e = .returned (.int .i64 (Civ.aY y)) ∧ w' = w := by
  go_enter Tryz.func141, Tryz.ntmps141
  go_wp2
  go_ret
  exact ⟨ret_int (by unfold Civ.aY; omega), rfl⟩

set_option maxHeartbeats 400000 in
theorem aM_any (m : Int) (w : World) (h0 : 0 ≤ m) (h1 : m ≤ 100000) :
    Calls Tryz.prog 142 #[.int .i64 m] w fun e w' => e = .returned (.int .i64 (Civ.aM m)) ∧ w' = w := by
  go_enter Tryz.func142, Tryz.ntmps142
  go_wp2
  go_ret
  exact ⟨ret_int (by unfold Civ.aM; omega), rfl⟩

set_option maxHeartbeats 400000 in
theorem rleap_any (y : Int) (w : World) :
    Calls Tryz.prog 77 #[.int .i64 y] w fun e w' => e = .returned (.bool (Civ.lp y)) ∧ w' = w := by
  have a4 := tm0 y 4 (by omega)
  have a100 := tm0 y 100 (by omega)
  have a400 := tm0 y 400 (by omega)
  have A : Hid ((y.tmod 4 = 0 ↔ y % 4 = 0) ∧ (y.tmod 100 = 0 ↔ y % 100 = 0) ∧ (y.tmod 400 = 0 ↔ y % 400 = 0)) := ⟨a4, a100, a400⟩
  clear a4 a100 a400
  go_enter Tryz.func77, Tryz.ntmps77
  go_wp2
  all_goals
    go_ret
    obtain ⟨a4, a100, a400⟩ := A.out
    refine ⟨ret_bool (Bool.eq_iff_iff.2 ?_), rfl⟩
    unfold Civ.lp
    simp_all

set_option maxHeartbeats 400000 in
theorem rlen_any (y m : Int) (w : World) :
    Calls Tryz.prog 52 #[.int .i64 y, .int .i64 m] w fun e w' => e = .returned (.int .i64 (Civ.len y m)) ∧ w' = w := by
  by_cases h2 : m = 2
  · subst h2
    cases hl : Civ.lp y
    all_goals
      have L : Hid (Civ.lp y = _) := hl
      have hc := rleap_any y
      rw [hl] at hc
      clear hl
      have HC : Hid (∀ w, Calls Tryz.prog 77 #[.int .i64 y] w fun e w' => e = .returned (.bool _) ∧ w' = w) := hc
      clear hc
      go_enter Tryz.func52, Tryz.ntmps52
      go_wp2_with (go_at_call 77; refine (HC.out _).mono ?_; rintro e w' ⟨rfl, rfl⟩)
      go_ret
      refine ⟨ret_int ?_, rfl⟩
      unfold Civ.len
      rw [L.out]
      rfl
  · have b2 : (m == 2) = false := by simp [h2]
    by_cases h4 : m = 4 ∨ m = 6 ∨ m = 9 ∨ m = 11
    · have e30 : Hid (Civ.len y m = 30) := by unfold Hid Civ.len; rw [if_neg h2, if_pos h4]
      clear h2
      rcases h4 with rfl | rfl | rfl | rfl
      all_goals
        go_enter Tryz.func52, Tryz.ntmps52
        go_wp2
        go_ret
        exact ⟨ret_int e30.out.symm, rfl⟩
    · have e31 : Hid (Civ.len y m = 31) := by unfold Hid Civ.len; rw [if_neg h2, if_neg h4]
      have b4 : (m == 4) = false := by simp; omega
      have b6 : (m == 6) = false := by simp; omega
      have b9 : (m == 9) = false := by simp; omega
      have b11 : (m == 11) = false := by simp; omega
      clear h2 h4
      go_enter Tryz.func52, Tryz.ntmps52
      go_wp2
      go_ret
      exact ⟨ret_int e31.out.symm, rfl⟩

def inB (n a b : Int) : Bool := decide (a ≤ n) && decide (n ≤ b)
theorem inB_iff {n a b : Int} : inB n a b = true ↔ a ≤ n ∧ n ≤ b := by unfold inB; simp

set_option maxHeartbeats 400000 in
theorem cwithin_any (n a b : Int) (w : World) :
    Calls Tryz.prog 111 #[.int .i64 n, .int .i64 a, .int .i64 b] w fun e w' => e = .returned (.bool (inB n a b)) ∧ w' = w := by
  go_enter Tryz.func111, Tryz.ntmps111
  go_wp2
  all_goals
    go_ret
    refine ⟨ret_bool (Bool.eq_iff_iff.2 ?_), rfl⟩
    unfold inB
    simp
    omega

set_option maxHeartbeats 400000 in
theorem lwithin_any (n d : Int) (w : World) (h1 : 1 ≤ d) (h2 : d ≤ 100000000) :
    Calls Tryz.prog 51 #[.int .i64 n, .int .i64 d] w fun e w' => e = .returned (.int .i64 (n % d)) ∧ w' = w := by
  go_enter Tryz.func51, Tryz.ntmps51
  go_wp2
  · go_ret
    refine ⟨ret_int ?_, rfl⟩
    rw [tmod_neg n d (by omega) ‹_›]
    have h4 := Int.emod_nonneg n (show d ≠ 0 by omega)
    have h5 := Int.emod_lt_of_pos n (show 0 < d by omega)
    exact IntWalk.wrap64_in _ (by omega)
  · go_ret
    exact ⟨ret_int (tmod_pos n d (by omega) ‹_›), rfl⟩
end Go.Proofs.YtannndpamhgknaaGreatDoor.Ci

/- What package civil answers of days that are: the number of a day, the way back from it, whether a day is between two years, weekdays, lengths; each call leaves what was in memory as it was. -/
namespace Go.Proofs.YtannndpamhgknaaGreatDoor.Ci
open Go.RowKit
theorem aY_bd (y : Int) (h0 : 0 ≤ y) (h1 : y ≤ 399) : 0 ≤ Civ.aY y ∧ Civ.aY y ≤ 146097 := by unfold Civ.aY; omega
theorem aM_bd (m : Int) (h0 : 0 ≤ m) (h1 : m ≤ 11) : 0 ≤ Civ.aM m ∧ Civ.aM m ≤ 400 := by unfold Civ.aM; omega
theorem num_lo (y m d : Int) (h3 : m < 3) : Civ.num y m d = (y - 1) / 400 * 146097 + Civ.aY (y - 1 - (y - 1) / 400 * 400) + Civ.aM (m - 3 + 12) + d - 1 - 719468 := by
  unfold Civ.num Civ.mY Civ.mM; simp only [if_pos h3]; rw [show m + 9 = m - 3 + 12 by omega]
theorem num_hi (y m d : Int) (h3 : ¬ m < 3) : Civ.num y m d = y / 400 * 146097 + Civ.aY (y - y / 400 * 400) + Civ.aM (m - 3) + d - 1 - 719468 := by
  unfold Civ.num Civ.mY Civ.mM; simp only [if_neg h3]

set_option maxHeartbeats 400000 in
theorem number_any (y m d : Int) (w : World) (hy0 : -1000000 ≤ y) (hy1 : y ≤ 1000000) (hm0 : 1 ≤ m) (hm1 : m ≤ 12) (hd0 : 1 ≤ d) (hd1 : d ≤ 31) :
    Calls Tryz.prog 126 #[.agg #[.int .i64 y, .int .i64 m, .int .i64 d]] w fun e w' => e = .returned (.int .i64 (Civ.num y m d)) ∧ Below w.heap.size w w' := by
  by_cases h3 : m < 3
  · have HN : Hid (Civ.num y m d = (y - 1) / 400 * 146097 + Civ.aY (y - 1 - (y - 1) / 400 * 400) + Civ.aM (m - 3 + 12) + d - 1 - 719468) := num_lo y m d h3
    have b1 := aY_bd (y - 1 - (y - 1) / 400 * 400) (by omega) (by omega)
    have b2 := aM_bd (m - 3 + 12) (by omega) (by omega)
    go_enter Tryz.func126, Tryz.ntmps126
    go_wp2
    go_quiet (fail)
    go_wp2_with (go_at_call 140; refine (cfloor_any _ _ _ (by omega) (by omega) (by omega) (by omega)).mono ?_; rintro e w' ⟨rfl, rfl⟩)
    go_quiet ((first | (go_at_call 141; refine (aY_any _ _ ?_ ?_).mono (fun e w' h => ⟨h.1, _, h.2⟩) <;> omega) | (go_at_call 142; refine (aM_any _ _ ?_ ?_).mono (fun e w' h => ⟨h.1, _, h.2⟩) <;> omega)))
    go_wp2
    go_ret
    exact ⟨ret_int HN.out.symm, below_drewN (below_drewN ((Below.refl _ _).alloc (Nat.le_refl _) _) _) _⟩
  · have HN : Hid (Civ.num y m d = y / 400 * 146097 + Civ.aY (y - y / 400 * 400) + Civ.aM (m - 3) + d - 1 - 719468) := num_hi y m d h3
    have b1 := aY_bd (y - y / 400 * 400) (by omega) (by omega)
    have b2 := aM_bd (m - 3) (by omega) (by omega)
    go_enter Tryz.func126, Tryz.ntmps126
    go_wp2
    go_quiet (fail)
    go_wp2_with (go_at_call 140; refine (cfloor_any _ _ _ (by omega) (by omega) (by omega) (by omega)).mono ?_; rintro e w' ⟨rfl, rfl⟩)
    go_quiet ((first | (go_at_call 141; refine (aY_any _ _ ?_ ?_).mono (fun e w' h => ⟨h.1, _, h.2⟩) <;> omega) | (go_at_call 142; refine (aM_any _ _ ?_ ?_).mono (fun e w' h => ⟨h.1, _, h.2⟩) <;> omega)))
    go_wp2
    go_ret
    exact ⟨ret_int HN.out.symm, below_drewN (below_drewN ((Below.refl _ _).alloc (Nat.le_refl _) _) _) _⟩

theorem mM_bd (n : Int) (h0 : 0 ≤ n) (h1 : n ≤ 365) : 0 ≤ (5 * n + 2) / 153 ∧ (5 * n + 2) / 153 ≤ 11 := by omega
set_option maxHeartbeats 1000000 in
theorem dateOf_in (k : Int) (w : World) (h0 : -9000000000000000000 ≤ k) (h1 : k ≤ 9000000000000000000) :
    Calls Tryz.prog 125 #[.int .i64 k] w fun e w' => e = .returned (.agg #[.int .i64 (Civ.cY k), .int .i64 (Civ.cM k), .int .i64 (Civ.cD k)]) ∧ Below w.heap.size w w' := by
  have hy := Civ.yr (k + 719468 - (k + 719468) / 146097 * 146097) (by omega) (by omega)
  obtain ⟨y0, y1, y2, y3⟩ := hy
  have hd : (k + 719468 - (k + 719468) / 146097 * 146097) - Civ.aY (Civ.ofY k) ≤ 365 := by
    unfold Civ.ofY; split at y3 <;> omega
  have y2' : Civ.aY (Civ.ofY k) ≤ (k + 719468 - (k + 719468) / 146097 * 146097) := y2
  have y0' : 0 ≤ Civ.ofY k := y0
  have y1' : Civ.ofY k ≤ 399 := y1
  have HY : Hid (Civ.ofY k = (k + 719468 - (k + 719468) / 146097 * 146097 - (k + 719468 - (k + 719468) / 146097 * 146097) / 1460 + (k + 719468 - (k + 719468) / 146097 * 146097) / 36524 - (k + 719468 - (k + 719468) / 146097 * 146097) / 146096) / 365) := rfl
  have b1 := aY_bd (Civ.ofY k) y0' y1'
  have HD : Hid (Civ.ofD k = (k + 719468 - (k + 719468) / 146097 * 146097) - Civ.aY (Civ.ofY k)) := rfl
  have hd0 : 0 ≤ Civ.ofD k := by rw [HD.out]; omega
  have hd1 : Civ.ofD k ≤ 365 := by rw [HD.out]; omega
  have HM : Hid (Civ.ofM k = (5 * Civ.ofD k + 2) / 153) := rfl
  have m01 := mM_bd (Civ.ofD k) hd0 hd1
  have m0 : 0 ≤ Civ.ofM k := m01.1
  have m1 : Civ.ofM k ≤ 11 := m01.2
  have b2 := aM_bd (Civ.ofM k) m0 m1
  clear y0 y1 y2 y3 m01
  have hd9 : 0 ≤ (k + 719468 - (k + 719468) / 146097 * 146097) - Civ.aY (Civ.ofY k) := by omega
  clear y2'
  by_cases hm : Civ.ofM k < 10
  · have HC : Hid (Civ.cY k = Civ.ofY k + (k + 719468) / 146097 * 400 ∧ Civ.cM k = Civ.ofM k + 3 ∧ Civ.cD k = Civ.ofD k - Civ.aM (Civ.ofM k) + 1) := ⟨if_pos hm, if_pos hm, rfl⟩
    go_enter Tryz.func125, Tryz.ntmps125
    go_wp2_with (go_at_call 140; refine (cfloor_any _ _ _ (by omega) (by omega) (by omega) (by omega)).mono ?_; rintro e w' ⟨rfl, rfl⟩)
    rw [← HY.out]
    refine (aY_any _ _ y0' (by omega)).mono ?_
    rintro e w' ⟨rfl, rfl⟩
    go_wp2_with fail
    rw [← HD.out, ← HM.out]
    refine (aM_any _ _ m0 (by omega)).mono ?_
    rintro e w' ⟨rfl, rfl⟩
    go_wp2
    refine bodyPost_ret (v := .agg #[.int .i64 (Civ.ofY k + (k + 719468) / 146097 * 400), .int .i64 (Civ.ofM k + 3), .int .i64 (Civ.ofD k - Civ.aM (Civ.ofM k) + 1)]) (by simp [results, Tryz.results125, go_sem]) rfl ⟨?_, ?_⟩
    · obtain ⟨e1, e2, e3⟩ := HC.out
      rw [e1, e2, e3]
    · exact (Below.refl _ _).alloc (Nat.le_refl _) _
  · have HC : Hid (Civ.cY k = Civ.ofY k + (k + 719468) / 146097 * 400 + 1 ∧ Civ.cM k = Civ.ofM k - 9 ∧ Civ.cD k = Civ.ofD k - Civ.aM (Civ.ofM k) + 1) := ⟨if_neg hm, if_neg hm, rfl⟩
    go_enter Tryz.func125, Tryz.ntmps125
    go_wp2_with (go_at_call 140; refine (cfloor_any _ _ _ (by omega) (by omega) (by omega) (by omega)).mono ?_; rintro e w' ⟨rfl, rfl⟩)
    rw [← HY.out]
    refine (aY_any _ _ y0' (by omega)).mono ?_
    rintro e w' ⟨rfl, rfl⟩
    go_wp2_with fail
    rw [← HD.out, ← HM.out]
    refine (aM_any _ _ m0 (by omega)).mono ?_
    rintro e w' ⟨rfl, rfl⟩
    go_wp2
    refine bodyPost_ret (v := .agg #[.int .i64 (Civ.ofY k + (k + 719468) / 146097 * 400 + 1), .int .i64 (Civ.ofM k - 9), .int .i64 (Civ.ofD k - Civ.aM (Civ.ofM k) + 1)]) (by simp [results, Tryz.results125, go_sem]) rfl ⟨?_, ?_⟩
    · obtain ⟨e1, e2, e3⟩ := HC.out
      rw [e1, e2, e3]
    · exact (Below.refl _ _).alloc (Nat.le_refl _) _
theorem info3 : (Tryz.prog.info? 3).isSome = true := by kernel_rfl
theorem cells3 : Tryz.prog.cellsOf 3 = 1 := by kernel_rfl
theorem part_int (w : World) (k : Int) (xs : Array Value) (i : Nat) (h : xs[i]? = some (.int .i64 k)) : (part 3 xs i).run Tryz.prog w = .ok (.int .i64 k) w := by
  simp [part, h]
theorem equalIn_int3 (w : World) (a b : Int) : (Op.equalIn 9999 3 (.int .i64 a) (.int .i64 b)).run Tryz.prog w = .ok (a == b) w := by
  have h := run_equalIn_int (P := Tryz.prog) w 9998 3 .i64 .i64 a b Tryz.underlying3
  exact h
theorem eqItems_step (w : World) (x x' : Int) (xs ys : Array Value) (i : Nat) (is : List Nat) (h : xs[i * 1]? = some (.int .i64 x)) (h' : ys[i * 1]? = some (.int .i64 x')) :
    (Op.eqItems 9999 3 1 xs ys (i :: is)).run Tryz.prog w = if (x == x') = true then (Op.eqItems 9999 3 1 xs ys is).run Tryz.prog w else .ok false w := by
  simp only [Op.eqItems, Sem.run_bind, part_int w x xs _ h, part_int w x' ys _ h', equalIn_int3, Result.andThen_ok]
  cases x == x' <;> simp
theorem eqItems_date (w : World) (y m d y' m' d' : Int) : (Op.eqItems 9999 3 1 #[.int .i64 y, .int .i64 m, .int .i64 d] #[.int .i64 y', .int .i64 m', .int .i64 d'] [0, 1, 2]).run Tryz.prog w = .ok ((y == y') && (m == m') && (d == d')) w := by
  rw [eqItems_step w y y' _ _ 0 _ rfl rfl, eqItems_step w m m' _ _ 1 _ rfl rfl, eqItems_step w d d' _ _ 2 _ rfl rfl]
  cases y == y' <;> cases m == m' <;> cases d == d' <;> simp [Op.eqItems]
theorem eql_date (w : World) (y m d y' m' d' : Int) : (binOp .eql 151 (.agg #[.int .i64 y, .int .i64 m, .int .i64 d]) (.agg #[.int .i64 y', .int .i64 m', .int .i64 d'])).run Tryz.prog w = .ok (.bool ((y == y') && (m == m') && (d == d'))) w := by
  obtain ⟨i, hi⟩ := Option.isSome_iff_exists.1 info3
  simp only [binOp]
  have h1 := run_equalIn_array (w := w) (P := Tryz.prog) 9999 #[.int .i64 y, .int .i64 m, .int .i64 d] #[.int .i64 y', .int .i64 m', .int .i64 d'] Tryz.underlying151 hi
  rw [cells3, show List.range 3 = [0, 1, 2] from rfl, eqItems_date] at h1
  simp [Op.equal, Op.maxDepth, h1]
/-- a world that has grown out of w: below w's size it is as w is -/
structure Ext (w : World) where
  out : World
  below : Below w.heap.size w out

theorem Ext.cells {w : World} (s : Ext w) (b o : Nat) (h : b < w.heap.size) : s.out.cell? ⟨b, o, none⟩ = w.cell? ⟨b, o, none⟩ := s.below.cell (p := ⟨b, o, none⟩) h
theorem Ext.to {w w' : World} (s : Ext w) (h : Below s.out.heap.size s.out w') : ∃ s' : Ext w, w' = s'.out :=
  ⟨⟨w', s.below.trans (h.mono s.below.size)⟩, rfl⟩
section
variable {P : Program}
theorem wp_region_ext {id : Nat} {Q : Exit → Act → World → Prop} {a : Act} {w : World} {l : List Oper} (hm : P.follows .mixedOrders = true) (hB : Region.lexB .any l.toArray = true)
    (h : wpQuiet P l.toArray (fun w' => ∃ s : Ext w, w' = s.out) (fun a' => ∀ w', (∃ s : Ext w, w' = s.out) → Q .normal a' w') l a) : (Code.region id l.toArray true).wp P Q a w :=
  wp_region_quiet (C := fun w' => ∃ s : Ext w, w' = s.out) hm hB ⟨⟨w.drew, (Below.refl _ _).drew⟩, rfl⟩ (by simpa using h)
end

set_option maxHeartbeats 400000 in
theorem isB_out (y m d a b : Int) (w : World) (h : inB y a b = false) :
    Calls Tryz.prog 110 #[.agg #[.int .i64 y, .int .i64 m, .int .i64 d], .int .i64 a, .int .i64 b] w fun e w' => e = .returned (.bool false) ∧ Below w.heap.size w w' := by
  have HC : Hid (∀ w, Calls Tryz.prog 111 #[.int .i64 y, .int .i64 a, .int .i64 b] w fun e w' => e = .returned (.bool false) ∧ w' = w) := fun w => by rw [← h]; exact cwithin_any y a b w
  clear h
  go_enter Tryz.func110, Tryz.ntmps110
  go_wp2
  go_quiet ((go_at_call 111; exact (HC.out _).mono (fun e w' h => ⟨h.1, _, h.2⟩)))
  go_wp2
  go_ret
  exact ⟨rfl, below_drewN ((Below.refl _ _).alloc (Nat.le_refl _) _) _⟩

theorem num_bd (y m d : Int) (hy0 : -1000000 ≤ y) (hy1 : y ≤ 1000000) (hm0 : 1 ≤ m) (hm1 : m ≤ 12) (hd0 : 1 ≤ d) (hd1 : d ≤ 31) : -400000000 ≤ Civ.num y m d ∧ Civ.num y m d ≤ 400000000 := by
  unfold Civ.num Civ.aY Civ.aM Civ.mY Civ.mM; split <;> omega
theorem len_le (y m : Int) : 28 ≤ Civ.len y m ∧ Civ.len y m ≤ 31 := by
  unfold Civ.len; split; split <;> omega; split <;> omega

set_option maxHeartbeats 1000000 in
theorem isB_in (y m d a b : Int) (w : World) (h : inB y a b = true) (hv : Civ.vld y m d = true) (hy0 : -1000000 ≤ y) (hy1 : y ≤ 1000000) :
    Calls Tryz.prog 110 #[.agg #[.int .i64 y, .int .i64 m, .int .i64 d], .int .i64 a, .int .i64 b] w fun e w' => e = .returned (.bool true) ∧ Below w.heap.size w w' := by
  have HC : Hid (∀ w, Calls Tryz.prog 111 #[.int .i64 y, .int .i64 a, .int .i64 b] w fun e w' => e = .returned (.bool true) ∧ w' = w) := fun w => by rw [← h]; exact cwithin_any y a b w
  clear h
  obtain ⟨v1, v2, v3, v4⟩ := (Civ.vld_iff _ _ _).1 hv
  have hl := len_le y m
  have HN : Hid (∀ w, Calls Tryz.prog 126 #[.agg #[.int .i64 y, .int .i64 m, .int .i64 d]] w fun e w' => e = .returned (.int .i64 (Civ.num y m d)) ∧ Below w.heap.size w w') := fun w => number_any y m d w hy0 hy1 v1 v2 v3 (by omega)
  have hb := num_bd y m d hy0 hy1 v1 v2 v3 (by omega)
  have HD : Hid (∀ w, Calls Tryz.prog 125 #[.int .i64 (Civ.num y m d)] w fun e w' => e = .returned (.agg #[.int .i64 y, .int .i64 m, .int .i64 d]) ∧ Below w.heap.size w w') := fun w => by
    obtain ⟨e1, e2, e3⟩ := Civ.of_back y m d hv
    have := dateOf_in (Civ.num y m d) w (by omega) (by omega)
    rw [e1, e2, e3] at this
    exact this
  clear hv v1 v2 v3 v4 hl hb hy0 hy1
  generalize Civ.num y m d = k at *
  go_enter Tryz.func110, Tryz.ntmps110
  go_wp2
  have heq : ∀ w, (binOp .eql 151 (.agg #[.int .i64 y, .int .i64 m, .int .i64 d]) (.agg #[.int .i64 y, .int .i64 m, .int .i64 d])).run Tryz.prog w = .ok (.bool true) w := fun w => by rw [eql_date]; simp
  have hcell := fun s : Ext (w.alloc (Obj.cells #[Value.int IntKind.i64 y, Value.int IntKind.i64 m, Value.int IntKind.i64 d] 151)) => fun b o => s.cells b o
  have hne : Nonempty (Ext (w.alloc (Obj.cells #[Value.int IntKind.i64 y, Value.int IntKind.i64 m, Value.int IntKind.i64 d] 151))) := ⟨⟨_, Below.refl _ _⟩⟩
  refine wp_region_ext (by kernel_rfl) (by kernel_rfl) ?_
  repeat (go_big_quiet_step ((first | (go_at_call 111; exact (HC.out _).mono (fun e w' h => ⟨h.1, _, h.2⟩)) | (go_at_call 126; exact (HN.out _).mono (fun e w' h => ⟨h.1, Ext.to _ h.2⟩)) | (go_at_call 125; exact (HD.out _).mono (fun e w' h => ⟨h.1, Ext.to _ h.2⟩)))))
  refine wpQuiet_nil ?_
  rintro _ ⟨s, rfl⟩
  go_wp2
  go_ret
  exact ⟨rfl, ((Below.refl _ _).alloc (Nat.le_refl _) _).trans (s.below.mono (by simp))⟩
end Go.Proofs.YtannndpamhgknaaGreatDoor.Ci

/- What package civil's own calls Days, Weekday, Length, Civil answer of days that are, and how many months on a day is; each call leaves what was in memory as it was. -/
namespace Go.Proofs.YtannndpamhgknaaGreatDoor.Ci
open Go.RowKit

theorem up_trans {w a b : World} (h1 : Below w.heap.size w a) (h2 : Below a.heap.size a b) : Below w.heap.size w b := h1.trans (h2.mono h1.size)
theorem up_alloc (w : World) (o : Obj) : Below w.heap.size w (w.alloc o) := (Below.refl _ _).alloc (Nat.le_refl _) _
theorem bcell {W w1 : World} (hb : Below W.heap.size W w1) : (∀ b o, b < W.heap.size → w1.cell? ⟨b, o, none⟩ = W.cell? ⟨b, o, none⟩) ∧ (∀ b o, b < W.heap.size → w1.frozen? ⟨b, o, none⟩ = W.frozen? ⟨b, o, none⟩) :=
  ⟨fun b o h => hb.cell (p := ⟨b, o, none⟩) h, fun b o h => hb.frozen (p := ⟨b, o, none⟩) h⟩

/-- so many months on: the year, the month, the day -/
def onY (y m mo : Int) : Int := (y * 12 + m - 1 + mo) / 12
def onM (y m mo : Int) : Int := y * 12 + m - 1 + mo - 12 * onY y m mo + 1
def onD (y m d mo : Int) : Int := if Civ.len (onY y m mo) (onM y m mo) < d then Civ.len (onY y m mo) (onM y m mo) else d

end Go.Proofs.YtannndpamhgknaaGreatDoor.Ci

/- What civil.Add answers of a day of the years 1 to 9999, of any months and any days: the day that the chapter's own way reckons, or none; it leaves what was in memory as it was. -/
namespace Go.Proofs.YtannndpamhgknaaGreatDoor.Ci
open Go.RowKit

theorem hid {p : Prop} (h : p) : Hid p := h

def addK (y m d mo da : Int) : Int := Civ.num (onY y m mo) (onM y m mo) (onD y m d mo) + da
def addOk (y m d mo da : Int) : Bool := inB mo (-1000000) 1000000 && inB da (-10000000) 10000000 && inB (Civ.cY (addK y m d mo da)) 1 9999
def tup (a b c : Int) (x : Bool) : Value := .tuple #[.int .i64 a, .int .i64 b, .int .i64 c, .bool x]
def addV (y m d mo da : Int) : Value := if addOk y m d mo da then tup (Civ.cY (addK y m d mo da)) (Civ.cM (addK y m d mo da)) (Civ.cD (addK y m d mo da)) true else tup 0 0 0 false

end Go.Proofs.YtannndpamhgknaaGreatDoor.Ci

/- What the reference's own calls Days, Weekday, Civil, Add answer: the same numbers as package civil's; they leave the world as it is. -/
namespace Go.Proofs.YtannndpamhgknaaGreatDoor.Ci
open Go.RowKit

theorem rnum_lo (y m d : Int) (h0 : 1 ≤ m) (h : m ≤ 2) : Civ.num y m d = 146097 * ((y - 1) / 400) + 365 * (y - 1 - 400 * ((y - 1) / 400)) + (y - 1 - 400 * ((y - 1) / 400)) / 4 - (y - 1 - 400 * ((y - 1) / 400)) / 100 + ((153 * ((m + 9) % 12) + 2) / 5 + d - 1) - 719468 := by
  unfold Civ.num Civ.aY Civ.aM Civ.mY Civ.mM
  have e : (m + 9) % 12 = m + 9 := by omega
  rw [if_pos (by omega), if_pos (by omega), e]
  omega
theorem rnum_hi (y m d : Int) (h0 : 2 < m) (h : m ≤ 12) : Civ.num y m d = 146097 * (y / 400) + 365 * (y - 400 * (y / 400)) + (y - 400 * (y / 400)) / 4 - (y - 400 * (y / 400)) / 100 + ((153 * ((m + 9) % 12) + 2) / 5 + d - 1) - 719468 := by
  unfold Civ.num Civ.aY Civ.aM Civ.mY Civ.mM
  have e : (m + 9) % 12 = m - 3 := by omega
  rw [if_neg (by omega), if_neg (by omega), e]
  omega

set_option maxHeartbeats 400000 in
theorem rdays_any (y m d : Int) (w : World) (hy0 : -1000000 ≤ y) (hy1 : y ≤ 1000000) (hm0 : 1 ≤ m) (hm1 : m ≤ 12) (hd0 : 1 ≤ d) (hd1 : d ≤ 31) :
    Calls Tryz.prog 34 #[.int .i64 y, .int .i64 m, .int .i64 d] w fun e w' => e = .returned (.int .i64 (Civ.num y m d)) ∧ w' = w := by
  by_cases h2 : m ≤ 2
  · have HN := hid (rnum_lo y m d hm0 h2)
    go_enter Tryz.func34, Tryz.ntmps34
    go_wp2_with (go_at_call 54; refine (rfloor_any _ _ _ (by omega) (by omega) (by omega) (by omega)).mono ?_; rintro e w' ⟨rfl, rfl⟩)
    go_ret
    exact ⟨ret_int HN.out.symm, rfl⟩
  · have HN := hid (rnum_hi y m d (by omega) hm1)
    go_enter Tryz.func34, Tryz.ntmps34
    go_wp2_with (go_at_call 54; refine (rfloor_any _ _ _ (by omega) (by omega) (by omega) (by omega)).mono ?_; rintro e w' ⟨rfl, rfl⟩)
    go_ret
    exact ⟨ret_int HN.out.symm, rfl⟩
end Go.Proofs.YtannndpamhgknaaGreatDoor.Ci

/- A region that draws its order, whose calls may make memory: one walk in the order of the text serves every order; what the worlds on the way read of old memory is handed to the walk. -/
namespace Go.Proofs.YtannndpamhgknaaGreatDoor.Ci
open Go.RowKit
section
variable {P : Program}
theorem wp_region_ext2 {id : Nat} {Q : Exit → Act → World → Prop} {a : Act} {w : World} {l : List Oper} (hm : P.follows .mixedOrders = true) (hB : Region.lexB .any l.toArray = true)
    (h : Nonempty (Ext w) → (∀ (s : Ext w) (b o : Nat), b < w.heap.size → s.out.cell? ⟨b, o, none⟩ = w.cell? ⟨b, o, none⟩) → wpQuiet P l.toArray (fun w' => ∃ s : Ext w, w' = s.out) (fun a' => ∀ w', (∃ s : Ext w, w' = s.out) → Q .normal a' w') l a) : (Code.region id l.toArray true).wp P Q a w :=
  wp_region_ext hm hB (h ⟨⟨_, Below.refl _ _⟩⟩ (fun s b o => s.cells b o))
end
end Go.Proofs.YtannndpamhgknaaGreatDoor.Ci

/- What civil.Right answers of any moment at all, and the reference's Right: true just if the year is 1 to 9999, the calendar has the day, and the time is one of a day; where reckoning with a moment's numbers wraps round, no day that is comes back as that moment. -/
namespace Go.Proofs.YtannndpamhgknaaGreatDoor.Ci
open Go.RowKit

theorem div_bd2 (n d : Int) (hd : 2 ≤ d) (h3 : -9223372036854775808 ≤ n) (h4 : n ≤ 9223372036854775807) : -9223372036854775808 ≤ n / d ∧ n / d ≤ 9223372036854775807 := by
  have h1 := Int.emod_nonneg n (show d ≠ 0 by omega)
  have h5 := Int.emod_lt_of_pos n (show 0 < d by omega)
  have h6 := Int.mul_ediv_add_emod n d
  by_cases hq : 0 ≤ n / d
  · have : 2 * (n / d) ≤ d * (n / d) := Int.mul_le_mul_of_nonneg_right hd hq
    omega
  · have : d * (n / d) ≤ 2 * (n / d) := Int.mul_le_mul_of_nonpos_right hd (by omega)
    by_cases hn : 0 ≤ n
    · have := Int.ediv_nonneg hn (show 0 ≤ d by omega); omega
    · have h7 : n ≤ n / d := by
        have : (-n) * 1 ≤ (-n) * d := Int.mul_le_mul_of_nonneg_left (by omega) (by omega)
        exact Int.le_ediv_of_mul_le (by omega) (by rw [Int.neg_mul, Int.neg_mul] at this; omega)
      omega

set_option maxHeartbeats 400000 in
theorem cfloor_all (n d : Int) (w : World) (h1 : 2 ≤ d) (h2 : d ≤ 1000000) (h3 : -9223372036854775808 ≤ n) (h4 : n ≤ 9223372036854775807) :
    Calls Tryz.prog 140 #[.int .i64 n, .int .i64 d] w fun e w' => e = .returned (.int .i64 (n / d)) ∧ w' = w := by
  go_enter Tryz.func140, Tryz.ntmps140
  go_wp2
  · go_ret
    have hb := div_bd2 n d h1 h3 h4
    refine ⟨ret_int ?_, rfl⟩
    rw [floor_neg n d (by omega) ‹_›]
    exact IntWalk.wrap64_in _ (by omega)
  · go_ret
    exact ⟨ret_int (floor_pos n d (by omega) ‹_›), rfl⟩

theorem wrap_bd (x : Int) : -9223372036854775808 ≤ wrap64 x ∧ wrap64 x ≤ 9223372036854775807 := by unfold wrap64; omega

/-- days ahead of a month, of any number -/
def aMw (m : Int) : Int := wrap64 ((wrap64 (wrap64 (153 * m) + 2)).tdiv 5)
set_option maxHeartbeats 400000 in
theorem aMw_any (m : Int) (w : World) :
    Calls Tryz.prog 142 #[.int .i64 m] w fun e w' => e = .returned (.int .i64 (aMw m)) ∧ w' = w := by
  go_enter Tryz.func142, Tryz.ntmps142
  go_wp2
  go_ret
  exact ⟨rfl, rfl⟩

set_option maxHeartbeats 400000 in
theorem number_w (y m d : Int) (hy0 : 1 ≤ y) (hy1 : y ≤ 9999) :
    ∃ k : Int, (-9223372036854775808 ≤ k ∧ k ≤ 9223372036854775807) ∧ ∀ w, Calls Tryz.prog 126 #[.agg #[.int .i64 y, .int .i64 m, .int .i64 d]] w fun e w' => e = .returned (.int .i64 k) ∧ Below w.heap.size w w' := by
  by_cases hm : wrap64 (m - 3) < 0
  · refine ⟨wrap64 (wrap64 (wrap64 (wrap64 ((y - 1) / 400 * 146097 + Civ.aY (y - 1 - (y - 1) / 400 * 400) + aMw (wrap64 (wrap64 (m - 3) + 12))) + d) - 1) - 719468), wrap_bd _, fun w => ?_⟩
    have b1 := aY_bd (y - 1 - (y - 1) / 400 * 400) (by omega) (by omega)
    go_enter Tryz.func126, Tryz.ntmps126
    go_wp2
    go_quiet (fail)
    go_wp2_with (go_at_call 140; refine (cfloor_any _ _ _ (by omega) (by omega) (by omega) (by omega)).mono ?_; rintro e w' ⟨rfl, rfl⟩)
    go_quiet ((first | (go_at_call 141; refine (aY_any _ _ ?_ ?_).mono (fun e w' h => ⟨h.1, _, h.2⟩) <;> omega) | (go_at_call 142; refine (aMw_any _ _).mono (fun e w' h => ⟨h.1, _, h.2⟩))))
    go_wp2
    go_ret
    exact ⟨rfl, below_drewN (below_drewN ((Below.refl _ _).alloc (Nat.le_refl _) _) _) _⟩
  · refine ⟨wrap64 (wrap64 (wrap64 (wrap64 (y / 400 * 146097 + Civ.aY (y - y / 400 * 400) + aMw (wrap64 (m - 3))) + d) - 1) - 719468), wrap_bd _, fun w => ?_⟩
    have b1 := aY_bd (y - y / 400 * 400) (by omega) (by omega)
    go_enter Tryz.func126, Tryz.ntmps126
    go_wp2
    go_quiet (fail)
    go_wp2_with (go_at_call 140; refine (cfloor_any _ _ _ (by omega) (by omega) (by omega) (by omega)).mono ?_; rintro e w' ⟨rfl, rfl⟩)
    go_quiet ((first | (go_at_call 141; refine (aY_any _ _ ?_ ?_).mono (fun e w' h => ⟨h.1, _, h.2⟩) <;> omega) | (go_at_call 142; refine (aMw_any _ _).mono (fun e w' h => ⟨h.1, _, h.2⟩))))
    go_wp2
    go_ret
    exact ⟨rfl, below_drewN (below_drewN ((Below.refl _ _).alloc (Nat.le_refl _) _) _) _⟩

set_option maxHeartbeats 1000000 in
theorem dateOf_n (k0 n k : Int) (w : World) (hn : wrap64 (k0 + 719468) = n) (hk : n = k + 719468) :
    Calls Tryz.prog 125 #[.int .i64 k0] w fun e w' => e = .returned (.agg #[.int .i64 (Civ.cY k), .int .i64 (Civ.cM k), .int .i64 (Civ.cD k)]) ∧ Below w.heap.size w w' := by
  have nb := wrap_bd (k0 + 719468)
  rw [hn] at nb
  have hy := Civ.yr (n - n / 146097 * 146097) (by omega) (by omega)
  obtain ⟨y0, y1, y2, y3⟩ := hy
  have HY : Hid (Civ.ofY k = (n - n / 146097 * 146097 - (n - n / 146097 * 146097) / 1460 + (n - n / 146097 * 146097) / 36524 - (n - n / 146097 * 146097) / 146096) / 365) := by rw [hk]; rfl
  have eY : Civ.ofY k = Civ.yOf (n - n / 146097 * 146097) := by rw [hk]; rfl
  rw [← eY] at y0 y1 y2 y3
  have hd : (n - n / 146097 * 146097) - Civ.aY (Civ.ofY k) ≤ 365 := by split at y3 <;> omega
  have b1 := aY_bd (Civ.ofY k) y0 y1
  have HD : Hid (Civ.ofD k = (n - n / 146097 * 146097) - Civ.aY (Civ.ofY k)) := by rw [hk]; rfl
  have hd0 : 0 ≤ Civ.ofD k := by rw [HD.out]; omega
  have hd1 : Civ.ofD k ≤ 365 := by rw [HD.out]; omega
  have HM : Hid (Civ.ofM k = (5 * Civ.ofD k + 2) / 153) := rfl
  have m01 := mM_bd (Civ.ofD k) hd0 hd1
  have m0 : 0 ≤ Civ.ofM k := m01.1
  have m1 : Civ.ofM k ≤ 11 := m01.2
  have b2 := aM_bd (Civ.ofM k) m0 m1
  have hd9 : 0 ≤ (n - n / 146097 * 146097) - Civ.aY (Civ.ofY k) := by omega
  clear y2 y3 m01 eY
  have hr : wrap64 (n - wrap64 (n / 146097 * 146097)) = n - n / 146097 * 146097 := by unfold wrap64; omega
  by_cases hm : Civ.ofM k < 10
  · have HC : Hid (Civ.cY k = Civ.ofY k + n / 146097 * 400 ∧ Civ.cM k = Civ.ofM k + 3 ∧ Civ.cD k = Civ.ofD k - Civ.aM (Civ.ofM k) + 1) := by rw [hk]; exact ⟨if_pos hm, if_pos hm, rfl⟩
    clear hk
    go_enter Tryz.func125, Tryz.ntmps125
    go_wp2_with (go_at_call 140; refine (cfloor_all _ _ _ (by omega) (by omega) (by omega) (by omega)).mono ?_; rintro e w' ⟨rfl, rfl⟩)
    rw [← HY.out]
    refine (aY_any _ _ y0 (by omega)).mono ?_
    rintro e w' ⟨rfl, rfl⟩
    go_wp2_with fail
    rw [← HD.out, ← HM.out]
    refine (aM_any _ _ m0 (by omega)).mono ?_
    rintro e w' ⟨rfl, rfl⟩
    go_wp2
    refine bodyPost_ret (v := .agg #[.int .i64 (Civ.ofY k + n / 146097 * 400), .int .i64 (Civ.ofM k + 3), .int .i64 (Civ.ofD k - Civ.aM (Civ.ofM k) + 1)]) (by simp [results, Tryz.results125, go_sem]) rfl ⟨?_, ?_⟩
    · obtain ⟨e1, e2, e3⟩ := HC.out
      rw [e1, e2, e3]
    · exact (Below.refl _ _).alloc (Nat.le_refl _) _
  · have HC : Hid (Civ.cY k = Civ.ofY k + n / 146097 * 400 + 1 ∧ Civ.cM k = Civ.ofM k - 9 ∧ Civ.cD k = Civ.ofD k - Civ.aM (Civ.ofM k) + 1) := by rw [hk]; exact ⟨if_neg hm, if_neg hm, rfl⟩
    clear hk
    go_enter Tryz.func125, Tryz.ntmps125
    go_wp2_with (go_at_call 140; refine (cfloor_all _ _ _ (by omega) (by omega) (by omega) (by omega)).mono ?_; rintro e w' ⟨rfl, rfl⟩)
    rw [← HY.out]
    refine (aY_any _ _ y0 (by omega)).mono ?_
    rintro e w' ⟨rfl, rfl⟩
    go_wp2_with fail
    rw [← HD.out, ← HM.out]
    refine (aM_any _ _ m0 (by omega)).mono ?_
    rintro e w' ⟨rfl, rfl⟩
    go_wp2
    refine bodyPost_ret (v := .agg #[.int .i64 (Civ.ofY k + n / 146097 * 400 + 1), .int .i64 (Civ.ofM k - 9), .int .i64 (Civ.ofD k - Civ.aM (Civ.ofM k) + 1)]) (by simp [results, Tryz.results125, go_sem]) rfl ⟨?_, ?_⟩
    · obtain ⟨e1, e2, e3⟩ := HC.out
      rw [e1, e2, e3]
    · exact (Below.refl _ _).alloc (Nat.le_refl _) _

set_option maxHeartbeats 1000000 in
theorem isB_not (y m d a b : Int) (w : World) (h : inB y a b = true) (hv : Civ.vld y m d = false) (hy0 : 1 ≤ y) (hy1 : y ≤ 9999) :
    Calls Tryz.prog 110 #[.agg #[.int .i64 y, .int .i64 m, .int .i64 d], .int .i64 a, .int .i64 b] w fun e w' => e = .returned (.bool false) ∧ Below w.heap.size w w' := by
  have HC : Hid (∀ w, Calls Tryz.prog 111 #[.int .i64 y, .int .i64 a, .int .i64 b] w fun e w' => e = .returned (.bool true) ∧ w' = w) := fun w => by rw [← h]; exact cwithin_any y a b w
  clear h
  obtain ⟨k0, kb, hN⟩ := number_w y m d hy0 hy1
  have HN := hid hN
  clear hN
  obtain ⟨k, hk⟩ : ∃ k, wrap64 (k0 + 719468) = k + 719468 := ⟨wrap64 (k0 + 719468) - 719468, by omega⟩
  have HD : Hid (∀ w, Calls Tryz.prog 125 #[.int .i64 k0] w fun e w' => e = .returned (.agg #[.int .i64 (Civ.cY k), .int .i64 (Civ.cM k), .int .i64 (Civ.cD k)]) ∧ Below w.heap.size w w') := fun w => dateOf_n k0 _ k w rfl hk
  clear hk
  have hx : (Civ.cY k == y && Civ.cM k == m && Civ.cD k == d) = false := by
    cases hb : (Civ.cY k == y && Civ.cM k == m && Civ.cD k == d)
    · rfl
    · simp only [Bool.and_eq_true, beq_iff_eq] at hb
      obtain ⟨⟨e1, e2⟩, e3⟩ := hb
      have := (Civ.of_num k).2
      rw [e1, e2, e3, hv] at this
      cases this
  have heq0 : ∀ w, (binOp .eql 151 (.agg #[.int .i64 (Civ.cY k), .int .i64 (Civ.cM k), .int .i64 (Civ.cD k)]) (.agg #[.int .i64 y, .int .i64 m, .int .i64 d])).run Tryz.prog w = .ok (.bool false) w := fun w => by rw [eql_date, hx]
  clear hx hv hy0 hy1 kb
  generalize Civ.cY k = c1 at *
  generalize Civ.cM k = c2 at *
  generalize Civ.cD k = c3 at *
  go_enter Tryz.func110, Tryz.ntmps110
  go_wp2
  refine wp_region_ext2 (by kernel_rfl) (by kernel_rfl) (fun hne hcell => ?_)
  repeat (go_big_quiet_step ((first | (go_at_call 111; exact (HC.out _).mono (fun e w' h => ⟨h.1, _, h.2⟩)) | (go_at_call 126; exact (HN.out _).mono (fun e w' h => ⟨h.1, Ext.to _ h.2⟩)) | (go_at_call 125; exact (HD.out _).mono (fun e w' h => ⟨h.1, Ext.to _ h.2⟩)))))
  refine wpQuiet_nil ?_
  rintro _ ⟨s, rfl⟩
  go_wp2
  go_ret
  exact ⟨rfl, ((Below.refl _ _).alloc (Nat.le_refl _) _).trans (s.below.mono (by simp))⟩

theorem isB_any (y m d : Int) (w : World) :
    Calls Tryz.prog 110 #[.agg #[.int .i64 y, .int .i64 m, .int .i64 d], .int .i64 1, .int .i64 9999] w fun e w' => e = .returned (.bool (inB y 1 9999 && Civ.vld y m d)) ∧ Below w.heap.size w w' := by
  cases h : inB y 1 9999
  · exact isB_out y m d 1 9999 w h
  · obtain ⟨h0, h1⟩ := inB_iff.1 h
    cases hv : Civ.vld y m d
    · exact isB_not y m d 1 9999 w h hv h0 h1
    · exact isB_in y m d 1 9999 w h hv (by omega) (by omega)
end Go.Proofs.YtannndpamhgknaaGreatDoor.Ci

/- What civil.Right and the reference's Right answer of any moment: the same, by its six numbers. -/
namespace Go.Proofs.YtannndpamhgknaaGreatDoor.Ci
open Go.RowKit

def dayB (y m d : Int) : Bool := inB y 1 9999 && Civ.vld y m d
def clockB (h i s : Int) : Bool := inB h 0 23 && inB i 0 59 && inB s 0 59
def rtB (y m d h i s : Int) : Bool := dayB y m d && clockB h i s

set_option maxHeartbeats 1000000 in
theorem right_any (y m d h i s : Int) (w : World) :
    Calls Tryz.prog 80 #[.agg #[.int .i64 y, .int .i64 m, .int .i64 d, .int .i64 h, .int .i64 i, .int .i64 s]] w fun e w' => e = .returned (.bool (rtB y m d h i s)) ∧ Below w.heap.size w w' := by
  have H1 : Hid (∀ w, Calls Tryz.prog 110 #[.agg #[.int .i64 y, .int .i64 m, .int .i64 d], .int .i64 1, .int .i64 9999] w fun e w' => e = .returned (.bool (dayB y m d)) ∧ Below w.heap.size w w') := fun w => isB_any y m d w
  have H2 : Hid (∀ w, Calls Tryz.prog 111 #[.int .i64 h, .int .i64 0, .int .i64 23] w fun e w' => e = .returned (.bool (inB h 0 23)) ∧ w' = w) := fun w => cwithin_any _ _ _ w
  have H3 : Hid (∀ w, Calls Tryz.prog 111 #[.int .i64 i, .int .i64 0, .int .i64 59] w fun e w' => e = .returned (.bool (inB i 0 59)) ∧ w' = w) := fun w => cwithin_any _ _ _ w
  have H4 : Hid (∀ w, Calls Tryz.prog 111 #[.int .i64 s, .int .i64 0, .int .i64 59] w fun e w' => e = .returned (.bool (inB s 0 59)) ∧ w' = w) := fun w => cwithin_any _ _ _ w
  unfold rtB clockB
  generalize dayB y m d = x1 at *
  generalize inB h 0 23 = x2 at *
  generalize inB i 0 59 = x3 at *
  generalize inB s 0 59 = x4 at *
  go_enter Tryz.func80, Tryz.ntmps80
  go_wp2_with fail
  refine (H1.out _).mono ?_
  rintro e w1 ⟨rfl, b1⟩
  obtain ⟨hc, hf⟩ := bcell b1
  cases x1
  · go_wp2
    go_ret
    exact ⟨ret_bool (by simp), up_trans (up_alloc _ _) b1⟩
  · go_wp2_with fail
    refine (H2.out _).mono ?_
    rintro e w2 ⟨rfl, rfl⟩
    cases x2
    · go_wp2
      go_ret
      exact ⟨ret_bool (by simp), up_trans (up_alloc _ _) b1⟩
    · go_wp2_with fail
      refine (H3.out _).mono ?_
      rintro e w3 ⟨rfl, rfl⟩
      cases x3
      · go_wp2
        go_ret
        exact ⟨ret_bool (by simp), up_trans (up_alloc _ _) b1⟩
      · go_wp2_with fail
        refine (H4.out _).mono ?_
        rintro e w4 ⟨rfl, rfl⟩
        go_wp2
        go_ret
        exact ⟨ret_bool (by simp), up_trans (up_alloc _ _) b1⟩

set_option maxHeartbeats 1000000 in
theorem rday_any (y m d : Int) (w : World) :
    Calls Tryz.prog 44 #[.int .i64 y, .int .i64 m, .int .i64 d] w fun e w' => e = .returned (.bool (dayB y m d)) ∧ w' = w := by
  go_enter Tryz.func44, Tryz.ntmps44
  go_wp2_with (go_at_call 52; refine (rlen_any _ _ _).mono ?_; rintro e w' ⟨rfl, rfl⟩)
  all_goals
    go_ret
    refine ⟨ret_bool (Bool.eq_iff_iff.2 ?_), rfl⟩
    unfold dayB Civ.vld inB
    simp
    omega

set_option maxHeartbeats 1000000 in
theorem rclock_any (h i s : Int) (w : World) :
    Calls Tryz.prog 45 #[.int .i64 h, .int .i64 i, .int .i64 s] w fun e w' => e = .returned (.bool (clockB h i s)) ∧ w' = w := by
  go_enter Tryz.func45, Tryz.ntmps45
  go_wp2
  all_goals
    go_ret
    refine ⟨ret_bool (Bool.eq_iff_iff.2 ?_), rfl⟩
    unfold clockB inB
    simp
    omega

end Go.Proofs.YtannndpamhgknaaGreatDoor.Ci

/- The statements' own helpers: known holds; Day gives, of any number, a day that is, of a year -10000 to 20000, or 1 to 9999. -/
namespace Go.Proofs.YtannndpamhgknaaGreatDoor.Ci
open Go.RowKit

def dayY (n : Int) (wide : Bool) : Int := if wide then n.tdiv 400 % 30001 - 10000 else 1 + n.tdiv 400 % 9999
def dayM (n : Int) : Int := 1 + n % 12
def dayD (n : Int) (wide : Bool) : Int := 1 + n.tdiv 12 % Civ.len (dayY n wide) (dayM n)

theorem day_vld (n : Int) (wide : Bool) : Civ.vld (dayY n wide) (dayM n) (dayD n wide) = true := by
  have hl := len_le (dayY n wide) (dayM n)
  rw [Civ.vld_iff]
  have h4 := Int.emod_nonneg (n.tdiv 12) (show Civ.len (dayY n wide) (dayM n) ≠ 0 by omega)
  have h5 := Int.emod_lt_of_pos (n.tdiv 12) (show 0 < Civ.len (dayY n wide) (dayM n) by omega)
  refine ⟨by unfold dayM; omega, by unfold dayM; omega, by unfold dayD; omega, by unfold dayD; omega⟩
theorem dayY_bd (n : Int) (wide : Bool) : -10000 ≤ dayY n wide ∧ dayY n wide ≤ 20000 := by
  unfold dayY; split <;> omega
theorem dayY_narrow (n : Int) : 1 ≤ dayY n false ∧ dayY n false ≤ 9999 := by
  unfold dayY; simp; omega

set_option maxHeartbeats 1000000 in
theorem day_any (n : Int) (wide : Bool) (w : World) (h0 : -9223372036854775808 ≤ n) (h1 : n ≤ 9223372036854775807) :
    Calls Tryz.prog 31 #[.int .i64 n, .bool wide] w fun e w' => e = .returned (.tuple #[.int .i64 (dayY n wide), .int .i64 (dayM n), .int .i64 (dayD n wide)]) ∧ w' = w := by
  have hl := len_le (dayY n wide) (dayM n)
  have h4 := Int.emod_nonneg (n.tdiv 12) (show Civ.len (dayY n wide) (dayM n) ≠ 0 by omega)
  have h5 := Int.emod_lt_of_pos (n.tdiv 12) (show 0 < Civ.len (dayY n wide) (dayM n) by omega)
  have HM : Hid (dayM n = 1 + n % 12) := rfl
  have HD : Hid (dayD n wide = 1 + n.tdiv 12 % Civ.len (dayY n wide) (dayM n)) := rfl
  cases wide
  · have HY : Hid (dayY n false = 1 + n.tdiv 400 % 9999) := rfl
    go_enter Tryz.func31, Tryz.ntmps31
    go_wp2_with (go_at_call 51; refine (lwithin_any _ _ _ (by omega) (by omega)).mono ?_; rintro e w' ⟨rfl, rfl⟩)
    rw [← HY.out, ← HM.out]
    refine (rlen_any _ _ _).mono ?_
    rintro e w' ⟨rfl, rfl⟩
    go_wp2_with (go_at_call 51; refine (lwithin_any _ _ _ (by omega) (by omega)).mono ?_; rintro e w' ⟨rfl, rfl⟩)
    go_ret3
    exact ⟨rfl, rfl⟩
  · have HY : Hid (dayY n true = n.tdiv 400 % 30001 - 10000) := rfl
    go_enter Tryz.func31, Tryz.ntmps31
    go_wp2_with (go_at_call 51; refine (lwithin_any _ _ _ (by omega) (by omega)).mono ?_; rintro e w' ⟨rfl, rfl⟩)
    rw [← HY.out, ← HM.out]
    refine (rlen_any _ _ _).mono ?_
    rintro e w' ⟨rfl, rfl⟩
    go_wp2_with (go_at_call 51; refine (lwithin_any _ _ _ (by omega) (by omega)).mono ?_; rintro e w' ⟨rfl, rfl⟩)
    go_ret3
    exact ⟨rfl, rfl⟩

theorem k11016 : Civ.cY 11016 = 2000 ∧ Civ.cM 11016 = 2 ∧ Civ.cD 11016 = 29 := by decide
theorem kadd : addV 2000 1 31 1 0 = tup 2000 2 29 true := by
  unfold addV
  rw [if_pos (by decide), show Civ.cY (addK 2000 1 31 1 0) = 2000 by decide, show Civ.cM (addK 2000 1 31 1 0) = 2 by decide, show Civ.cD (addK 2000 1 31 1 0) = 29 by decide]

end Go.Proofs.YtannndpamhgknaaGreatDoor.Ci
