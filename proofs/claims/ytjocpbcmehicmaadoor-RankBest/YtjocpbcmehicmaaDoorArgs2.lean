/- Numbers within bounds; rows of numbers that came in. -/
import Derived.Test.YtjocpbcmehicmaaDoorArgs
namespace Go.Proofs.YtjocpbcmehicmaaDoor
open Go.RowKit
theorem emod_of_tmod (a n : Int) (h : 0 < n) : a % n = if a.tmod n < 0 then a.tmod n + n else a.tmod n := by
  have e : a.tmod n + n * a.tdiv n = a := Int.tmod_add_mul_tdiv a n
  have h2 := Int.tmod_lt_of_pos a h
  have h3 := Int.tmod_lt_of_pos (-a) h
  rw [Int.neg_tmod] at h3
  have e2 : a % n = a.tmod n % n := by conv => lhs; rw [← e]
                                       rw [Int.add_mul_emod_self_left]
  rw [e2]
  split
  · rw [← Int.add_emod_right, Int.emod_eq_of_lt (by omega) (by omega)]
  · exact Int.emod_eq_of_lt (by omega) (by omega)

set_option maxHeartbeats 1000000 in
theorem within_any (a n : Int) (w : World) (h : 0 < n) (h1 : n ≤ 9223372036854775807) (_ha : -9223372036854775808 ≤ a) (_hb : a ≤ 9223372036854775807) :
    Calls Tryd.prog 17 #[.int .i64 a, .int .i64 n] w fun e w' => e = .returned (.int .i64 (a % n)) ∧ w' = w := by
  have HE := hid (emod_of_tmod a n h)
  have h2 := Int.tmod_lt_of_pos a h
  have h3 := Int.tmod_lt_of_pos (-a) h
  rw [Int.neg_tmod] at h3
  have hn0 : n ≠ 0 := by omega
  by_cases hk : a.tmod n < 0
  case pos =>
    have HE := hid (HE.out.trans (if_pos hk))
    generalize a % n = z at *
    go_enter Tryd.func17, Tryd.ntmps17
    go_wp2
    go_ret
    exact ⟨ret_int HE.out.symm, rfl⟩
  case neg =>
    have HE := hid (HE.out.trans (if_neg hk))
    generalize a % n = z at *
    go_enter Tryd.func17, Tryd.ntmps17
    go_wp2
    go_ret
    exact ⟨ret_int HE.out.symm, rfl⟩

theorem ix_ib {W : World} {v : Value} {xs : List Int} (h : IX W v xs) : ∃ ad cap, v = .slice ad xs.length cap ∧ xs.length ≤ cap ∧ cap ≤ maxLen ∧ (xs.length ≤ 1000000 → IB W (.slice ad xs.length cap) xs) ∧ ∀ y ∈ xs, I64 y := by
  obtain ⟨ad, cap, e, h1, h2, h3, h4⟩ := h
  exact ⟨ad, cap, e, h1, h2, fun hl => ⟨ad, cap, rfl, h1, h2, hl, h3⟩, h4⟩
theorem box2 {w w' : World} {b : Nat} {a0 a1 : Value} {t : TypeId} (h : w.heap[b]? = some (.cells #[a0, a1] t (0, 0))) (hb : Below w.heap.size w w') : w'.cell? ⟨b, 0, none⟩ = some a0 ∧ w'.cell? ⟨b, 1, none⟩ = some a1 := by
  have := (hb.block b (Array.getElem?_eq_some_iff.1 h).1).trans h
  exact ⟨cell_of_row (o := 0) this, cell_of_row (o := 1) this⟩
end Go.Proofs.YtjocpbcmehicmaaDoor
