/- The reference's Right, by kinds. -/
import Derived.Test.YtengcdodoblabaaGreatDoorLKnown
namespace Go.Proofs.YtengcdodoblabaaGreatDoor
open Go.RowKit

set_option maxRecDepth 8000 in
set_option maxHeartbeats 1000000 in
theorem rdec_any (m s : Int) (w : World) :
    Calls Tryz.prog 67 #[.int .i64 m, .int .i64 s] w fun e w' => e = .returned (.bool (normB m s)) ∧ w' = w := by
  unfold normB
  by_cases h1 : m ≤ -1000000000000000000
  case pos =>
    rw [inB_false (by omega)]
    go_enter Tryz.func67, Tryz.ntmps67
    go_wp2
    go_ret
    exact ⟨rfl, rfl⟩
  case neg =>
    by_cases h2 : 1000000000000000000 ≤ m
    case pos =>
      rw [inB_false (by omega)]
      go_enter Tryz.func67, Tryz.ntmps67
      go_wp2
      go_ret
      exact ⟨rfl, rfl⟩
    case neg =>
      rw [inB_true (n := m) (by omega) (by omega), Bool.true_and]
      by_cases h3 : s < 0
      case pos =>
        rw [inB_false (by omega)]
        go_enter Tryz.func67, Tryz.ntmps67
        go_wp2
        go_ret
        exact ⟨rfl, rfl⟩
      case neg =>
        by_cases h4 : 18 < s
        case pos =>
          rw [inB_false (by omega)]
          go_enter Tryz.func67, Tryz.ntmps67
          go_wp2
          go_ret
          exact ⟨rfl, rfl⟩
        case neg =>
          rw [inB_true (n := s) (by omega) (by omega), Bool.true_and]
          obtain ⟨t, rfl⟩ := Int.eq_ofNat_of_zero_le (show 0 ≤ s by omega)
          have HN := hid fun w => De.rnorm_any m t w (by omega) (by omega) (by omega)
          rw [Int.toNat_natCast]
          generalize (De.Dc.norm m t).1 = x at *
          generalize (De.Dc.norm m t).2 = y at *
          go_enter Tryz.func67, Tryz.ntmps67
          go_wp2_with fail
          refine (HN.out _).mono ?_
          rintro e wn ⟨rfl, hw⟩
          obtain rfl := hw.symm
          clear hw
          by_cases hx : x = m
          · subst hx
            go_wp2
            go_ret
            exact ⟨ret_bool (by simp), rfl⟩
          · have hx2 : (x == m) = false := by simpa using hx
            go_wp2
            go_ret
            exact ⟨ret_bool (by simp [hx]), rfl⟩

theorem fields_any (k : Int) (w : World) (h0 : 4 ≤ k) (h1 : k ≤ 10) : Calls Tryz.prog 64 #[.int .i64 k] w fun e w' => e = .returned (.int .i64 (fieldsL.getD k.toNat 0)) ∧ w' = w := by
  have hk : k = 4 ∨ k = 5 ∨ k = 6 ∨ k = 7 ∨ k = 8 ∨ k = 9 ∨ k = 10 := by omega
  rcases hk with rfl | rfl | rfl | rfl | rfl | rfl | rfl
  all_goals
    go_enter Tryz.func64, Tryz.ntmps64
    go_wp2
    go_ret
    exact ⟨rfl, rfl⟩
/-- Right, as the reference has it. -/
def rrB (x : Val) : Bool := decide (4 ≤ x.kind) && decide (x.kind ≤ 10) && ((x.f.length : Int) == fieldsL.getD x.kind.toNat 0) && (
  if x.kind = 10 then Ci.dayB (x.f.getD 0 0) (x.f.getD 1 0) (x.f.getD 2 0) && Ci.dayB (x.f.getD 3 0) (x.f.getD 4 0) (x.f.getD 5 0) && decide (Ci.Civ.num (x.f.getD 0 0) (x.f.getD 1 0) (x.f.getD 2 0) ≤ Ci.Civ.num (x.f.getD 3 0) (x.f.getD 4 0) (x.f.getD 5 0))
  else boundB x.kind x.f)
/-- Of two days the order of their numbers is theirs. -/
theorem num_cmp (y m d y' m' d' : Int) (h : Ci.Civ.vld y m d = true) (h' : Ci.Civ.vld y' m' d' = true) : cmpL [y, m, d] [y', m', d'] ≤ 0 ↔ Ci.Civ.num y m d ≤ Ci.Civ.num y' m' d' := by
  have e : cmpL [y, m, d] [y', m', d'] = if De.Dc.ord y y' = 0 then if De.Dc.ord m m' = 0 then if De.Dc.ord d d' = 0 then 0 else De.Dc.ord d d' else De.Dc.ord m m' else De.Dc.ord y y' := rfl
  have o : ∀ a b : Int, De.Dc.ord a b = if a < b then -1 else if b < a then 1 else 0 := fun a b => rfl
  have l1 := Ci.Civ.num_lt y m d y' m' d' h h'
  have l2 := Ci.Civ.num_lt y' m' d' y m d h' h
  have l3 : y = y' → m = m' → d = d' → Ci.Civ.num y m d = Ci.Civ.num y' m' d' := fun a b c => by rw [a, b, c]
  have lt : ∀ a b : Int, a < b → De.Dc.ord a b = -1 := fun a b h => by rw [o, if_pos h]
  have gt : ∀ a b : Int, b < a → De.Dc.ord a b = 1 := fun a b h => by rw [o, if_neg (by omega), if_pos h]
  rw [e]
  rcases Int.lt_trichotomy y y' with hy | hy | hy
  · have := l1 (.inl hy)
    rw [lt _ _ hy, if_neg (by decide)]; omega
  · subst hy
    rw [if_pos (De.Dc.ord_self y)]
    rcases Int.lt_trichotomy m m' with hm | hm | hm
    · have := l1 (.inr ⟨rfl, .inl hm⟩)
      rw [lt _ _ hm, if_neg (by decide)]; omega
    · subst hm
      rw [if_pos (De.Dc.ord_self m)]
      rcases Int.lt_trichotomy d d' with hd | hd | hd
      · have := l1 (.inr ⟨rfl, .inr ⟨rfl, hd⟩⟩)
        rw [lt _ _ hd, if_neg (by decide)]; omega
      · subst hd
        rw [if_pos (De.Dc.ord_self d)]; omega
      · have := l2 (.inr ⟨rfl, .inr ⟨rfl, hd⟩⟩)
        rw [gt _ _ hd, if_neg (by decide)]; omega
    · have := l2 (.inr ⟨rfl, .inl hm⟩)
      rw [gt _ _ hm, if_neg (by decide)]; omega
  · have := l2 (.inl hy)
    rw [gt _ _ hy, if_neg (by decide)]; omega
theorem rrB_eq (x : Val) : rrB x = rightB x := by
  obtain ⟨k, f⟩ := x
  unfold rrB rightB wholeB
  dsimp only
  by_cases hk : 4 ≤ k ∧ k ≤ 10
  · rw [decide_eq_true hk.1, decide_eq_true hk.2, inB_true (n := k) (a := 1) (b := 10) (by omega) hk.2]
    cases hl : ((f.length : Int) == fieldsL.getD k.toNat 0) with
    | false => simp
    | true =>
      simp only [Bool.true_and]
      by_cases h10 : k = 10
      · subst h10
        rw [if_pos rfl]
        have hl6 : f.length = 6 := by have := beq_iff_eq.1 hl; rw [show fieldsL.getD (Int.toNat 10) 0 = 6 by decide] at this; omega
        obtain ⟨a, b, c, d, e, g, rfl⟩ := len6 hl6
        show (Ci.dayB a b c && Ci.dayB d e g && decide (Ci.Civ.num a b c ≤ Ci.Civ.num d e g)) = (Ci.dayB a b c && Ci.dayB d e g && decide (cmpL [a, b, c] [d, e, g] ≤ 0))
        cases h1 : Ci.dayB a b c with
        | false => rfl
        | true =>
          cases h2 : Ci.dayB d e g with
          | false => rfl
          | true =>
            unfold Ci.dayB at h1 h2
            simp only [Bool.and_eq_true] at h1 h2
            simp only [Bool.true_and]
            exact decide_eq_decide.2 (num_cmp _ _ _ _ _ _ h1.2 h2.2).symm
      · rw [if_neg h10]
  · have : boundB k f = false := by
      unfold boundB
      rw [if_neg (by omega), if_neg (by omega), if_neg (by omega), if_neg (by omega), if_neg (by omega), if_neg (by omega), if_neg (by omega)]
    rw [this, Bool.and_false]
    by_cases h4 : 4 ≤ k
    · rw [decide_eq_false (show ¬ k ≤ 10 by omega)]; simp
    · rw [decide_eq_false h4]; simp
end Go.Proofs.YtengcdodoblabaaGreatDoor
