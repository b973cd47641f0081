/- What the statements' own helpers answer: a number brought into a range, and the chapter's example with its rules, which holds. -/
import Derived.Test.YtannndpamhgknaaGreatDoorGrGram
namespace Go.Proofs.YtannndpamhgknaaGreatDoor.Gr
open Go.RowKit

theorem tmod_neg (n d : Int) (hd : 0 < d) (h : n.tmod d < 0) : n.tmod d + d = n % d := by
  rw [Int.tmod_eq_emod] at *
  have h4 := Int.emod_nonneg n (show d ≠ 0 by omega)
  split at h
  · omega
  · rename_i hc; rw [if_neg hc]; omega
theorem tmod_pos (n d : Int) (hd : 0 < d) (h : 0 ≤ n.tmod d) : n.tmod d = n % d := by
  rw [Int.tmod_eq_emod] at *
  have h5 := Int.emod_lt_of_pos n hd
  split at h
  · rename_i hc; rw [if_pos hc]; omega
  · omega
theorem lwithin_any (a n : Int) (w : World) (hn : 0 < n) (hn1 : n ≤ 100000000) : Calls Tryz.prog 107 #[.int .i64 a, .int .i64 n] w fun e w' => e = .returned (.int .i64 (a % n)) ∧ w' = w := by
  have hz : (n == 0) = false := by simp; omega
  have hm1 : n ≠ -1 := by omega
  have hz' : n ≠ 0 := by omega
  have t1 : -n < a.tmod n ∧ a.tmod n < n := by
    rw [Int.tmod_eq_emod]
    have h4 := Int.emod_nonneg a (show n ≠ 0 by omega)
    have h5 := Int.emod_lt_of_pos a hn
    have h6 : ((n.natAbs : Nat) : Int) = n := by omega
    split
    · omega
    · rename_i hc
      have : a % n ≠ 0 := fun h => hc (Or.inr (Int.dvd_of_emod_eq_zero h))
      omega
  by_cases h : a.tmod n < 0
  · have E := hid (tmod_neg a n hn h)
    generalize a % n = q at *
    go_enter Tryz.func107, Tryz.ntmps107
    go_wp2
    go_ret
    exact ⟨ret_int E.out, rfl⟩
  · have E := hid (tmod_pos a n hn (by omega))
    generalize a % n = q at *
    go_enter Tryz.func107, Tryz.ntmps107
    go_wp2
    go_ret
    exact ⟨ret_int E.out, rfl⟩

theorem rules_nil (w : World) : RulesAt w (.slice none 0 0) [] := ⟨none, 0, rfl, by simp, fun j hj => by simp at hj⟩
/-! the chapter's example -/
theorem check_nil : check [] = true := by
  have : noRound [] := fun i h => by
    obtain ⟨y, hy⟩ := h.first
    simp [edge] at hy
  simp [check_eq, this]
end Go.Proofs.YtannndpamhgknaaGreatDoor.Gr
