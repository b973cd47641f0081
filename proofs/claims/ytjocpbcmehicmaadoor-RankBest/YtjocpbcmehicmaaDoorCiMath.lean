/- Plain facts on days: the number of a day, the way back from it, leap years, lengths of months; no program is spoken of. -/
namespace Go.Proofs.YtjocpbcmehicmaaDoor.Ci
namespace Civ
def lp (y : Int) : Bool := decide (y % 4 = 0) && (decide (y % 100 ≠ 0) || decide (y % 400 = 0))
def len (y m : Int) : Int := if m = 2 then (if lp y then 29 else 28) else if m = 4 ∨ m = 6 ∨ m = 9 ∨ m = 11 then 30 else 31
def aM (m : Int) : Int := (153 * m + 2) / 5
def mY (y m : Int) : Int := if m < 3 then y - 1 else y
def mM (m : Int) : Int := if m < 3 then m + 9 else m - 3
def aY (y : Int) : Int := 365 * y + y / 4 - y / 100

theorem yr_core (f r u v q t : Int) (hf0 : 0 ≤ f) (hf : f ≤ 3) (h0 : 0 ≤ r) (h1 : r ≤ 36523) (hu : u = r / 1461) (hv : v = r - 1461 * u) (hq : q = (24 * f + r) / 1460) (ht : t = (r - q) / 365) :
    t / 4 = u ∧ 0 ≤ t ∧ t ≤ 99 ∧ 365 * t + u ≤ r ∧ (r ≤ 365 * t + u + 364 ∨ (t % 4 = 3 ∧ r = 365 * t + u + 365)) := by
  have hv0 : 0 ≤ v := by omega
  have hv1 : v ≤ 1460 := by omega
  have hu0 : 0 ≤ u := by omega
  have hu1 : u ≤ 24 := by omega
  have hr : r = 1461 * u + v := by omega
  by_cases hc : u + v + 24 * f < 1460
  · have hq' : q = u := by omega
    have : t = 4 * u + v / 365 := by omega
    omega
  · have hq' : q = u + 1 := by omega
    have h3 : t = 4 * u + 3 := by omega
    have hv2 : 1364 ≤ v := by omega
    omega

def yOf (n : Int) : Int := (n - n / 1460 + n / 36524 - n / 146096) / 365

theorem yr (n : Int) (h0 : 0 ≤ n) (h1 : n ≤ 146096) :
    0 ≤ yOf n ∧ yOf n ≤ 399 ∧ aY (yOf n) ≤ n ∧ n ≤ aY (yOf n) + 364 + (if lp (yOf n + 1) then 1 else 0) := by
  by_cases h : n = 146096
  · subst h; decide
  · have hg : n / 146096 = 0 := by omega
    generalize hf : n / 36524 = f
    have hf0 : 0 ≤ f := by omega
    have hf3 : f ≤ 3 := by omega
    generalize hr : n - 36524 * f = r
    have hr0 : 0 ≤ r := by omega
    have hr1 : r ≤ 36523 := by omega
    have he : n / 1460 = 25 * f + (24 * f + r) / 1460 := by omega
    have hy : yOf n = 100 * f + (r - (24 * f + r) / 1460) / 365 := by unfold yOf; rw [hg, hf, he]; omega
    have hc := yr_core f r _ _ _ _ hf0 hf3 hr0 hr1 rfl rfl rfl rfl
    generalize (r - (24 * f + r) / 1460) / 365 = t at *
    generalize r / 1461 = u at *
    obtain ⟨c1, c2, c3, c4, c5⟩ := hc
    have hA : aY (yOf n) = 36524 * f + 365 * t + u := by unfold aY; rw [hy]; omega
    rw [hA]
    refine ⟨by omega, by omega, by omega, ?_⟩
    rcases c5 with c5 | ⟨c5, c6⟩
    · split <;> omega
    · have hl : lp (yOf n + 1) = true := by
        rw [hy]; unfold lp
        have a1 : (100 * f + t + 1) % 4 = 0 := by omega
        by_cases a2 : t = 99
        · subst a2
          have : u = 24 := by omega
          omega
        · have a3 : (100 * f + t + 1) % 100 ≠ 0 := by omega
          simp [a1, a3]
      rw [if_pos hl]; omega

/-- days ahead of the year that begins in March -/
def G (Y : Int) : Int := 365 * Y + Y / 4 - Y / 100 + Y / 400
def num (y m d : Int) : Int := (mY y m / 400) * 146097 + aY (mY y m - mY y m / 400 * 400) + aM (mM m) + d - 1 - 719468
def vld (y m d : Int) : Bool := decide (1 ≤ m) && decide (m ≤ 12) && decide (1 ≤ d) && decide (d ≤ len y m)
theorem vld_iff (y m d : Int) : vld y m d = true ↔ 1 ≤ m ∧ m ≤ 12 ∧ 1 ≤ d ∧ d ≤ len y m := by
  unfold vld; simp [and_assoc]

theorem G_eq (Y : Int) : (Y / 400) * 146097 + aY (Y - Y / 400 * 400) = G Y := by
  unfold aY G; omega

theorem lp_lo (Y : Int) : (lp Y = true ∧ Y % 4 = 0 ∧ (Y % 100 ≠ 0 ∨ Y % 400 = 0)) ∨ (lp Y = false ∧ (Y % 4 ≠ 0 ∨ (Y % 100 = 0 ∧ Y % 400 ≠ 0))) := by
  unfold lp
  by_cases h4 : Y % 4 = 0 <;> by_cases h100 : Y % 100 = 0 <;> by_cases h400 : Y % 400 = 0 <;> simp [h4, h100, h400]

theorem G_succ (Y : Int) : G (Y + 1) = G Y + 365 + (if lp (Y + 1) then 1 else 0) := by
  rcases lp_lo (Y + 1) with ⟨h, a, b⟩ | ⟨h, a⟩ <;> rw [h] <;> unfold G <;> simp <;> omega

theorem G_mono (Y Z : Int) (h : Y ≤ Z) : G Y + 365 * (Z - Y) ≤ G Z := by unfold G; omega

theorem lp_era (Y k : Int) : lp (Y + 400 * k) = lp Y := by
  unfold lp
  have h1 : (Y + 400 * k) % 4 = Y % 4 := by omega
  have h2 : (Y + 400 * k) % 100 = Y % 100 := by omega
  have h3 : (Y + 400 * k) % 400 = Y % 400 := by omega
  rw [h1, h2, h3]

/-- the month that a day of a year is in, counted from March -/
theorem mon (n : Int) (h0 : 0 ≤ n) (h1 : n ≤ 365) :
    0 ≤ (5 * n + 2) / 153 ∧ (5 * n + 2) / 153 ≤ 11 ∧ aM ((5 * n + 2) / 153) ≤ n ∧ n < aM ((5 * n + 2) / 153 + 1) := by
  unfold aM; omega

/-- a month is as long as the months from March on tell -/
theorem len_mar (y m : Int) (h1 : 1 ≤ m) (h2 : m ≤ 12) : (mM m ≠ 11 ∧ aM (mM m + 1) - aM (mM m) = len y m) ∨ (m = 2 ∧ aM (mM m) = 337 ∧ len y m = 28 + (if lp y then 1 else 0)) := by
  have : m = 1 ∨ m = 2 ∨ m = 3 ∨ m = 4 ∨ m = 5 ∨ m = 6 ∨ m = 7 ∨ m = 8 ∨ m = 9 ∨ m = 10 ∨ m = 11 ∨ m = 12 := by omega
  rcases this with rfl | rfl | rfl | rfl | rfl | rfl | rfl | rfl | rfl | rfl | rfl | rfl <;> first | (left; refine ⟨by decide, ?_⟩; simp [len, mM, aM]; done) | (right; refine ⟨rfl, by decide, ?_⟩; simp [len]; split <;> rfl)

def ofY (k : Int) : Int := yOf (k + 719468 - (k + 719468) / 146097 * 146097)
def ofD (k : Int) : Int := (k + 719468 - (k + 719468) / 146097 * 146097) - aY (ofY k)
def ofM (k : Int) : Int := (5 * ofD k + 2) / 153
def cY (k : Int) : Int := if ofM k < 10 then ofY k + (k + 719468) / 146097 * 400 else ofY k + (k + 719468) / 146097 * 400 + 1
def cM (k : Int) : Int := if ofM k < 10 then ofM k + 3 else ofM k - 9
def cD (k : Int) : Int := ofD k - aM (ofM k) + 1

theorem num_G (y m d : Int) : num y m d = G (mY y m) + aM (mM m) + d - 719469 := by
  unfold num; rw [G_eq]; omega

theorem of_facts (k : Int) : ∃ Y M D : Int, cY k = (if M < 10 then Y else Y + 1) ∧ cM k = (if M < 10 then M + 3 else M - 9) ∧ cD k = D + 1 ∧ 0 ≤ M ∧ M ≤ 11 ∧ 0 ≤ D ∧
    D < aM (M + 1) - aM M ∧ aM M + D ≤ 364 + (if lp (Y + 1) then 1 else 0) ∧ G Y + aM M + D = k + 719468 := by
  refine ⟨ofY k + (k + 719468) / 146097 * 400, ofM k, ofD k - aM (ofM k), rfl, rfl, rfl, ?_⟩
  have hy := yr (k + 719468 - (k + 719468) / 146097 * 146097) (by omega) (by omega)
  obtain ⟨y0, y1, y2, y3⟩ := hy
  change 0 ≤ ofY k at y0
  change ofY k ≤ 399 at y1
  change aY (ofY k) ≤ _ at y2
  change _ ≤ aY (ofY k) + 364 + (if lp (ofY k + 1) then 1 else 0) at y3
  have hl : lp (ofY k + (k + 719468) / 146097 * 400 + 1) = lp (ofY k + 1) := by
    rw [show ofY k + (k + 719468) / 146097 * 400 + 1 = ofY k + 1 + 400 * ((k + 719468) / 146097) by omega, lp_era]
  have hd : ofD k = (k + 719468 - (k + 719468) / 146097 * 146097) - aY (ofY k) := rfl
  have hd0 : 0 ≤ ofD k := by omega
  have hd1 : ofD k ≤ 364 + (if lp (ofY k + 1) then 1 else 0) := by omega
  have hd2 : ofD k ≤ 365 := by split at hd1 <;> omega
  have hm := mon (ofD k) hd0 hd2
  obtain ⟨m0, m1, m2, m3⟩ := hm
  change 0 ≤ ofM k at m0
  change ofM k ≤ 11 at m1
  change aM (ofM k) ≤ _ at m2
  change _ < aM (ofM k + 1) at m3
  have hG := G_eq (ofY k + (k + 719468) / 146097 * 400)
  have e1 : (ofY k + (k + 719468) / 146097 * 400) / 400 = (k + 719468) / 146097 := by omega
  rw [e1, show ofY k + (k + 719468) / 146097 * 400 - (k + 719468) / 146097 * 400 = ofY k by omega] at hG
  rw [hl]
  refine ⟨m0, m1, by omega, by omega, by omega, by omega⟩

theorem of_num (k : Int) : num (cY k) (cM k) (cD k) = k ∧ vld (cY k) (cM k) (cD k) = true := by
  obtain ⟨Y, M, D, hY, hM, hD, m0, m1, d0, d1, d2, hG⟩ := of_facts k
  rw [num_G, vld_iff]
  have e1 : mY (cY k) (cM k) = Y := by unfold mY; rw [hY, hM]; split <;> split <;> omega
  have e2 : mM (cM k) = M := by unfold mM; rw [hM]; split <;> split <;> omega
  have c0 : 1 ≤ cM k ∧ cM k ≤ 12 := by rw [hM]; split <;> omega
  refine ⟨by rw [e1, e2, hD]; omega, c0.1, c0.2, by omega, ?_⟩
  rcases len_mar (cY k) (cM k) c0.1 c0.2 with ⟨a, b⟩ | ⟨a, b, c⟩
  · rw [e2] at a b; omega
  · rw [e2] at b
    have hM11 : M = 11 := by rw [hM] at a; split at a <;> omega
    have hY1 : cY k = Y + 1 := by rw [hY, hM11]; simp
    rw [c, hY1, hD]; split at d2 <;> simp_all <;> omega

theorem num_lt (y m d y' m' d' : Int) (hv : vld y m d = true) (hv' : vld y' m' d' = true) (h : y < y' ∨ y = y' ∧ (m < m' ∨ m = m' ∧ d < d')) : num y m d < num y' m' d' := by
  obtain ⟨a, b, c, e⟩ := (vld_iff _ _ _).1 hv
  obtain ⟨a', b', c', e'⟩ := (vld_iff _ _ _).1 hv'
  rw [num_G, num_G]
  have hA0 : 0 ≤ aM (mM m') := by unfold aM mM; split <;> omega
  by_cases hYY : mY y m < mY y' m'
  · -- a year less
    have g1 := G_mono (mY y m + 1) (mY y' m') (by omega)
    have g2 := G_succ (mY y m)
    have hb : aM (mM m) + d ≤ 365 + (if lp (mY y m + 1) then 1 else 0) := by
      rcases len_mar y m a b with ⟨p, q⟩ | ⟨p, q, r⟩
      · have : aM (mM m + 1) ≤ 337 := by
          have : mM m + 1 ≤ 11 := by unfold mM at *; split at p <;> split <;> omega
          unfold aM; omega
        split <;> omega
      · have : mY y m + 1 = y := by unfold mY; rw [p]; simp
        rw [this]; omega
    omega
  · have hYe : mY y m = mY y' m' := by unfold mY at *; omega
    rw [hYe]
    have hmm : mM m < mM m' ∨ (m = m' ∧ d < d') := by unfold mY at hYe; unfold mM; omega
    rcases hmm with hmm | ⟨rfl, hd⟩
    · have hk : aM (mM m + 1) ≤ aM (mM m') := by unfold aM; omega
      rcases len_mar y m a b with ⟨p, q⟩ | ⟨p, q, r⟩
      · omega
      · have : mM m = 11 := by rw [p]; rfl
        have : mM m' ≤ 11 := by unfold mM; split <;> omega
        omega
    · omega

theorem num_inj (y m d y' m' d' : Int) (hv : vld y m d = true) (hv' : vld y' m' d' = true) (h : num y m d = num y' m' d') : y = y' ∧ m = m' ∧ d = d' := by
  have h1 := num_lt y m d y' m' d' hv hv'
  have h2 := num_lt y' m' d' y m d hv' hv
  omega

theorem of_back (y m d : Int) (hv : vld y m d = true) : cY (num y m d) = y ∧ cM (num y m d) = m ∧ cD (num y m d) = d := by
  obtain ⟨a, b⟩ := of_num (num y m d)
  exact num_inj _ _ _ _ _ _ b hv a

theorem num_order (y m d y' m' d' : Int) (hv : vld y m d = true) (hv' : vld y' m' d' = true) : num y m d < num y' m' d' ↔ (y < y' ∨ y = y' ∧ (m < m' ∨ m = m' ∧ d < d')) := by
  have h1 := num_lt y m d y' m' d' hv hv'
  have h2 := num_lt y' m' d' y m d hv' hv
  constructor
  · intro h
    have e : (y = y' ∧ m = m' ∧ d = d') → num y m d = num y' m' d' := by rintro ⟨rfl, rfl, rfl⟩; rfl
    omega
  · exact h1
end Civ
end Go.Proofs.YtjocpbcmehicmaaDoor.Ci
