/- What the reference's own calls Norm, Scaled, Cmp answer: the same as package dec's; they leave the world as it is. -/
import Derived.Test.YtengcdodoblabaaDoorDeMain
namespace Go.Proofs.YtengcdodoblabaaDoor.De
open Go.RowKit

set_option maxHeartbeats 1000000 in
theorem rnorm_any (m : Int) (s : Nat) (w : World) (hs : s ≤ 18) (h0 : -1000000000000000000 < m) (h1 : m < 1000000000000000000) :
    Calls Tryd.prog 41 #[.int .i64 m, .int .i64 s] w fun e w' => e = .returned (.tuple #[.int .i64 (Dc.norm m s).1, .int .i64 (Dc.norm m s).2]) ∧ w' = w := by
  go_enter Tryd.func41, Tryd.ntmps41
  go_wp2_with fail
  go_loop [0, 1] (fun x y => ∃ (n : Int) (t : Nat), x = .int .i64 n ∧ y = .int .i64 t ∧ t ≤ 18 ∧ -1000000000000000000 < n ∧ n < 1000000000000000000 ∧ Hid (Dc.norm n t = Dc.norm m s)) (fun _ y => (intOf y).toNat)
  case atStart => exact ⟨m, s, rfl, rfl, hs, h0, h1, hid rfl⟩
  case round =>
    obtain ⟨n, t, rfl, rfl, ht, n0, n1, he⟩ := hrel
    by_cases hz : t = 0
    · subst hz
      go_wp2
      go_ret2
      rw [← he.out]
      exact ⟨rfl, rfl⟩
    · have hz2 : decide (0 < (t : Int)) = true := by simp; omega
      by_cases hm : n % 10 = 0
      · have HE := hid (td0 n 10 hm)
        have HN := hid (norm_step n t (by omega) hm)
        have hw : wrap64 (n.tdiv 10) = n.tdiv 10 := by rw [td0 n 10 hm]; exact IntWalk.wrap64_in _ (by omega)
        have hm' : (n.tmod 10 == 0) = true := by rw [beq_iff_eq, tm0 n 10 (by decide)]; exact hm
        go_wp2
        go_round
        case rel => exact ⟨n / 10, t - 1, by rw [HE.out], by rw [show ((t - 1 : Nat) : Int) = (t : Int) - 1 by omega], by omega, by omega, by omega, HN.out.symm.trans he.out⟩
        case measure => simp [intOf]; omega
      · have HN := hid (norm_stop n t (Or.inr hm))
        have hm' : (n.tmod 10 == 0) = false := by rw [beq_eq_false_iff_ne, ne_eq, tm0 n 10 (by decide)]; exact hm
        go_wp2
        go_ret2
        rw [← he.out, HN.out]
        exact ⟨rfl, rfl⟩

end Go.Proofs.YtengcdodoblabaaDoor.De
