/- What the statements' own helpers answer: a number brought into a range, a digit of one of the four systems, and the chapter's example, which holds. -/
import Derived.Test.YtigolkgojckciaaDoorFold
namespace Go.Proofs.YtigolkgojckciaaDoor
open Go.RowKit

theorem tmod_neg (n d : Int) (hd : 0 < d) (h : n.tmod d < 0) : n.tmod d + d = n % d := by
  rw [Int.tmod_eq_emod] at *
  have h4 := Int.emod_nonneg n (show d ≠ 0 by omega)
  split at h
  · omega
  · rename_i hc; rw [if_neg hc]; omega
theorem tmod_pos (n d : Int) (hd : 0 < d) (h : 0 ≤ n.tmod d) : n.tmod d = n % d := by
  rw [Int.tmod_eq_emod] at *
  have h5 := Int.emod_lt_of_pos n hd
  split at h
  · rename_i hc; rw [if_pos hc]; omega
  · omega

theorem lwithin_any (a n : Int) (w : World) (hn : 0 < n) (hn1 : n ≤ 100000000) : Calls Tryd.prog 16 #[.int .i64 a, .int .i64 n] w fun e w' => e = .returned (.int .i64 (a % n)) ∧ w' = w := by
  have hz : (n == 0) = false := by simp; omega
  have hm1 : n ≠ -1 := by omega
  have hz' : n ≠ 0 := by omega
  have t1 : -n < a.tmod n ∧ a.tmod n < n := by
    rw [Int.tmod_eq_emod]
    have h4 := Int.emod_nonneg a (show n ≠ 0 by omega)
    have h5 := Int.emod_lt_of_pos a hn
    have h6 : ((n.natAbs : Nat) : Int) = n := by omega
    split
    · omega
    · rename_i hc
      have : a % n ≠ 0 := fun h => hc (Or.inr (Int.dvd_of_emod_eq_zero h))
      omega
  by_cases h : a.tmod n < 0
  · have E := hid (tmod_neg a n hn h)
    generalize a % n = q at *
    go_enter Tryd.func16, Tryd.ntmps16
    go_wp2
    go_ret
    exact ⟨ret_int E.out, rfl⟩
  · have E := hid (tmod_pos a n hn (by omega))
    generalize a % n = q at *
    go_enter Tryd.func16, Tryd.ntmps16
    go_wp2
    go_ret
    exact ⟨ret_int E.out, rfl⟩

theorem encode_eq (r : Int) (h : okRune r) : Utf8.encode r = ⟨(Lib.encodeRune r).toArray⟩ := by
  obtain ⟨n, rfl⟩ : ∃ n : Nat, r = (n : Int) := ⟨r.toNat, by unfold okRune at h; omega⟩
  unfold okRune at h
  have hv : Utf8.valid (n : Int) = true := by
    unfold Utf8.valid
    simp only [Bool.or_eq_true, Bool.and_eq_true, decide_eq_true_eq]
    omega
  unfold Utf8.encode
  simp only [hv, if_true, Int.toNat_natCast]
  have hc : ∀ (x : Int) (m : Nat), x = (m : Int) → x.toNat.toUInt8 = UInt8.ofNat m := by
    intro x m e
    subst e
    rfl
  by_cases h1 : n ≤ 127
  · rw [if_pos (by omega)]
    have e : Lib.encodeRune n = [(n : Int).toNat.toUInt8] := by simp [Lib.encodeRune, Lib.encodeRuneZ_one (r := (n : Int)) (by omega) (by omega)]
    rw [e, hc _ n rfl]
  · rw [if_neg (by omega)]
    by_cases h2 : n ≤ 2047
    · rw [if_pos (by omega)]
      have e : Lib.encodeRune n = [(192 + (n : Int) / 64).toNat.toUInt8, (128 + (n : Int) % 64).toNat.toUInt8] := by simp [Lib.encodeRune, Lib.encodeRuneZ_two (r := (n : Int)) (by omega) (by omega)]
      rw [e, hc _ (192 + n / 64) (by omega), hc _ (128 + n % 64) (by omega)]
    · rw [if_neg (by omega)]
      by_cases h3 : n ≤ 65535
      · rw [if_pos (by omega)]
        have e : Lib.encodeRune n = [(224 + (n : Int) / 4096).toNat.toUInt8, (128 + (n : Int) / 64 % 64).toNat.toUInt8, (128 + (n : Int) % 64).toNat.toUInt8] := by simp [Lib.encodeRune, Lib.encodeRuneZ_three (r := (n : Int)) (by omega)]
        rw [e, hc _ (224 + n / 4096) (by omega), hc _ (128 + n / 64 % 64) (by omega), hc _ (128 + n % 64) (by omega)]
      · rw [if_neg (by omega)]
        have e : Lib.encodeRune n = [(240 + (n : Int) / 262144).toNat.toUInt8, (128 + (n : Int) / 4096 % 64).toNat.toUInt8, (128 + (n : Int) / 64 % 64).toNat.toUInt8, (128 + (n : Int) % 64).toNat.toUInt8] := by simp [Lib.encodeRune, Lib.encodeRuneZ_four (r := (n : Int)) (by omega) (by omega)]
        rw [e, hc _ (240 + n / 262144) (by omega), hc _ (128 + n / 4096 % 64) (by omega), hc _ (128 + n / 64 % 64) (by omega), hc _ (128 + n % 64) (by omega)]

/-- The systems' noughts. -/
def nought (k : Int) : Int := if k = 0 then 48 else if k = 1 then 1632 else if k = 2 then 1776 else 2406

theorem digit_walk (k d : Int) (w : World) (hT : Tab w) (hk0 : 0 ≤ k) (hk1 : k < 4) (hd0 : 0 ≤ d) (hd1 : d ≤ 9) : Calls Tryd.prog 19 #[.int .i64 k, .int .i64 d] w fun e w' => e = .returned (.string ⟨(Lib.encodeRune (nought k + d)).toArray⟩) ∧ w' = w := by
  obtain ⟨t0, t1, t2, t3⟩ := hT
  rcases (show k = 0 ∨ k = 1 ∨ k = 2 ∨ k = 3 by omega) with rfl | rfl | rfl | rfl
  · have E := hid (encode_eq (48 + d) (by unfold okRune; omega))
    rw [show nought 0 = 48 from rfl]
    go_enter Tryd.func19, Tryd.ntmps19
    go_wp2
    go_ret
    exact ⟨by rw [E.out]; rfl, rfl⟩
  · have E := hid (encode_eq (1632 + d) (by unfold okRune; omega))
    rw [show nought 1 = 1632 from rfl]
    go_enter Tryd.func19, Tryd.ntmps19
    go_wp2
    go_ret
    exact ⟨by rw [E.out]; rfl, rfl⟩
  · have E := hid (encode_eq (1776 + d) (by unfold okRune; omega))
    rw [show nought 2 = 1776 from rfl]
    go_enter Tryd.func19, Tryd.ntmps19
    go_wp2
    go_ret
    exact ⟨by rw [E.out]; rfl, rfl⟩
  · have E := hid (encode_eq (2406 + d) (by unfold okRune; omega))
    rw [show nought 3 = 2406 from rfl]
    go_enter Tryd.func19, Tryd.ntmps19
    go_wp2
    go_ret
    exact ⟨by rw [E.out]; rfl, rfl⟩

theorem fold_at (l : List UInt8) (rs ps : List Int) (n : Nat) (hr : runesOf l = rs) (hp : placesOf l = ps) (hn : rs.length = n) (hl : l.length ≤ 1000000) (w : World) (hT : Tab w) :
    Calls Tryd.prog 11 #[.string ⟨l.toArray⟩] w fun e w' => ∃ g1 g2 c1 c2, e = .returned (.tuple #[.slice (some ⟨g1, 0, none⟩) n c1, .slice (some ⟨g2, 0, none⟩) (n + 1) c2])
      ∧ n ≤ c1 ∧ n + 1 ≤ c2 ∧ Holds w' g1 0 rs ∧ Holds w' g2 0 ps ∧ w.heap.size ≤ g1 ∧ w.heap.size ≤ g2 ∧ Below w.heap.size w w' := by
  have h := fold_walk ⟨l.toArray⟩ w (by simpa [ByteArray.size] using hl) hT
  subst hn hr hp
  simpa using h

theorem text_at (l t : List UInt8) (ht : textOf l = t) (hl : l.length ≤ 1000000) (w : World) (hT : Tab w) :
    Calls Tryd.prog 14 #[.string ⟨l.toArray⟩] w fun e w' => e = .returned (.string ⟨t.toArray⟩) ∧ Below w.heap.size w w' := by
  have h := text_walk ⟨l.toArray⟩ w (by simpa [ByteArray.size] using hl) hT
  subst ht
  simpa using h

theorem Holds.at {w : World} {g o : Nat} {xs : List Int} (h : Holds w g o xs) (j : Nat) (x : Int) (hj : xs[j]? = some x) : w.cell? ⟨g, o + j, none⟩ = some (.int .i64 x) := by
  have hl : j < xs.length := (List.getElem?_eq_some_iff.1 hj).1
  rw [h j hl]
  simp [List.getD, hj]

theorem known_any (w : World) (hT : Tab w) : Calls Tryd.prog 9 #[] w fun e w' => e = .returned (.bool true) ∧ Below w.heap.size w w' := by
  have HF := hid (fold_at [] [] [0] 0 (by kernel_rfl) (by kernel_rfl) rfl (by decide) w hT)
  have HG := hid (fold_at [65, 194, 160] [97, 32] [0, 1, 3] 2 (by kernel_rfl) (by kernel_rfl) rfl (by decide))
  have HX := hid (text_at [88] [120] (by kernel_rfl) (by decide))
  have HD := hid (fun w h => digit_walk 1 0 w h (by decide) (by decide) (by decide) (by decide))
  have HB : Hid (Lib.encodeRune (nought 1 + 0) = [217, 160]) := hid (by kernel_rfl)
  rw [HB.out] at HD
  have HT := hid hT
  clear hT
  go_enter Tryd.func9, Tryd.ntmps9
  go_wp2_with fail
  refine HF.out.mono ?_
  rintro e w1 ⟨g1, g2, c1, c2, rfl, k1, k2, H1, H2, b1, b2, bel⟩
  have HT1 := hid (HT.out.on bel)
  have HL1 := hid bel
  have HH2 := hid H2
  clear bel HF H1 H2
  go_wp2_with fail
  refine (HG.out w1 HT1.out).mono ?_
  rintro e w2 ⟨g3, g4, c3, c4, rfl, k3, k4, H3, H4, b3, b4, bel⟩
  have x0 : w2.cell? ⟨g2, 0, none⟩ = some (.int .i64 0) := (HH2.out.on bel).at 0 0 rfl
  have x1 : w2.cell? ⟨g3, 0, none⟩ = some (.int .i64 97) := H3.at 0 97 rfl
  have x2 : w2.cell? ⟨g3, 1, none⟩ = some (.int .i64 32) := H3.at 1 32 rfl
  have x3 : w2.cell? ⟨g4, 1, none⟩ = some (.int .i64 1) := H4.at 1 1 rfl
  have x4 : w2.cell? ⟨g4, 2, none⟩ = some (.int .i64 3) := H4.at 2 3 rfl
  have HT2 := hid (HT1.out.on bel)
  have HL2 := hid (up_trans HL1.out bel)
  clear bel H3 H4 HT1 HL1 HH2
  go_wp2_with fail
  refine (HX.out w2 HT2.out).mono ?_
  rintro e w3 ⟨rfl, bel⟩
  have HT3 := hid (HT2.out.on bel)
  have HL3 := hid (up_trans HL2.out bel)
  clear bel HT2 HL2
  go_wp2_with fail
  refine (HD.out w3 HT3.out).mono ?_
  rintro e w4 ⟨rfl, rfl⟩
  go_wp2
  go_ret
  exact ⟨rfl, HL3.out⟩

end Go.Proofs.YtigolkgojckciaaDoor
