/- The text that package dec writes of a decimal. -/
import Derived.Test.YtoklknioeoodbabDoorMain
import Derived.Test.YtoklknioeoodbabDoorTextMath
import Derived.Test.YtoklknioeoodbabDoorShelf
namespace Go.Proofs.YtoklknioeoodbabDoor
open Go.RowKit

theorem itoa_nat (u : Nat) (w : World) (h : u ≤ 9223372036854775807) (htab : Tab w) :
    Calls Tryd.prog 20 #[.int .i64 u] w fun e w' => e = .returned (.string ⟨(Lib.decDigits u).toArray⟩) ∧ Below w.heap.size w w' := by
  have := itoa_any u (by omega) (by omega) w htab
  rwa [Lib.itoa_nonneg] at this

set_option maxHeartbeats 1000000 in
theorem text_p0 (m : Int) (A : ByteArray) (w : World) (h0 : 0 ≤ m) (h1 : m < 1000000000000000000) (htab : Tab w) (hA : A.size ≤ 100)
    (HI : Hid (∀ w, Tab w → Calls Tryd.prog 20 #[.int .i64 m] w fun e w' => e = .returned (.string A) ∧ Below w.heap.size w w')) :
    Calls Tryd.prog 14 #[.int .i64 m, .int .i64 0] w fun e w' => e = .returned (.string (⟨#[]⟩ ++ A)) ∧ Below w.heap.size w w' := by
  have HP : Hid (∀ w, Calls Tryd.prog 18 #[.int .i64 0] w fun e w' => e = .returned (.int .i64 1) ∧ w' = w) := fun w => power_any 0 w (by omega)
  have HR : Hid (∀ w, Calls Tryd.prog 16 #[.agg #[.int .i64 m, .int .i64 0]] w fun e w' => e = .returned (.bool true) ∧ Below w.heap.size w w') := fun w => isRight_yes m 0 w (by omega) (by omega) (by omega) (by omega)
  have d0 := DA.new w m 0
  go_enter Tryd.func14, Tryd.ntmps14
  go_wp2_with fail
  refine (HR.out _).mono ?_
  rintro e w1 ⟨rfl, b1⟩
  have d1 := d0.on b1 d0.size
  have c0 := d1.c0
  have f0 := d1.f 0
  have B1 := hid (up_trans (up_alloc w (.cells #[.int .i64 m, .int .i64 0] 39)) b1)
  have d2 := d1
  have B2 := B1
  go_wp2_with fail
  refine (HP.out _).mono ?_
  rintro e w2 ⟨rfl, rfl⟩
  go_wp2_with fail
  refine (HI.out _ (htab.on B2.out)).mono ?_
  rintro e w3 ⟨rfl, b3⟩
  go_wp2
  go_ret
  exact ⟨rfl, up_trans B2.out b3⟩

set_option maxHeartbeats 1000000 in
theorem text_ps (m s p q r : Int) (A B : ByteArray) (w : World) (h0 : 0 ≤ m) (h1 : m < 1000000000000000000) (s0 : 0 < s) (s1 : s ≤ 18) (htab : Tab w) (hp0 : 0 < p) (hp1 : p ≤ 1000000000000000000)
    (hq : m.tdiv p = q) (hr : m.tmod p = r) (hr0 : 0 ≤ r) (hr1 : r < p) (hq0 : 0 ≤ q) (hq1 : q ≤ 1000000000000000000) (hA : A.size ≤ 100) (hB : 1 ≤ B.size) (hB' : B.size ≤ 100)
    (HP : Hid (∀ w, Calls Tryd.prog 18 #[.int .i64 s] w fun e w' => e = .returned (.int .i64 p) ∧ w' = w))
    (HI : Hid (∀ w, Tab w → Calls Tryd.prog 20 #[.int .i64 q] w fun e w' => e = .returned (.string A) ∧ Below w.heap.size w w'))
    (HJ : Hid (∀ w, Tab w → Calls Tryd.prog 20 #[.int .i64 (p + r)] w fun e w' => e = .returned (.string B) ∧ Below w.heap.size w w')) :
    Calls Tryd.prog 14 #[.int .i64 m, .int .i64 s] w fun e w' => e = .returned (.string (⟨#[]⟩ ++ A ++ ⟨#[46]⟩ ++ B.extract 1 B.size)) ∧ Below w.heap.size w w' := by
  have hs : (s == 0) = false := by simp; omega
  have HR : Hid (∀ w, Calls Tryd.prog 16 #[.agg #[.int .i64 m, .int .i64 s]] w fun e w' => e = .returned (.bool true) ∧ Below w.heap.size w w') := fun w => isRight_yes m s w (by omega) (by omega) (by omega) (by omega)
  have d0 := DA.new w m s
  go_enter Tryd.func14, Tryd.ntmps14
  go_wp2_with fail
  refine (HR.out _).mono ?_
  rintro e w1 ⟨rfl, b1⟩
  have d1 := d0.on b1 d0.size
  have c0 := d1.c0
  have f0 := d1.f 0
  have B1 := hid (up_trans (up_alloc w (.cells #[.int .i64 m, .int .i64 s] 39)) b1)
  have d2 := d1
  have B2 := B1
  go_wp2_with fail
  refine (HP.out _).mono ?_
  rintro e w2 ⟨rfl, rfl⟩
  go_wp2_with fail
  refine (HI.out _ (htab.on B2.out)).mono ?_
  rintro e w3 ⟨rfl, b3⟩
  have d3 := d2.on b3 d2.size
  have c3 := d3.c0
  have B3 := hid (up_trans B2.out b3)
  go_wp2_with fail
  refine (HJ.out _ (htab.on B3.out)).mono ?_
  rintro e w4 ⟨rfl, b4⟩
  go_wp2
  go_ret
  exact ⟨rfl, up_trans B3.out b4⟩

set_option maxHeartbeats 1000000 in
theorem text_n0 (m : Int) (A : ByteArray) (w : World) (h0 : m < 0) (h1 : -1000000000000000000 < m) (htab : Tab w) (hA : A.size ≤ 100)
    (HI : Hid (∀ w, Tab w → Calls Tryd.prog 20 #[.int .i64 (-m)] w fun e w' => e = .returned (.string A) ∧ Below w.heap.size w w')) :
    Calls Tryd.prog 14 #[.int .i64 m, .int .i64 0] w fun e w' => e = .returned (.string (⟨#[45]⟩ ++ A)) ∧ Below w.heap.size w w' := by
  have HP : Hid (∀ w, Calls Tryd.prog 18 #[.int .i64 0] w fun e w' => e = .returned (.int .i64 1) ∧ w' = w) := fun w => power_any 0 w (by omega)
  have HR : Hid (∀ w, Calls Tryd.prog 16 #[.agg #[.int .i64 m, .int .i64 0]] w fun e w' => e = .returned (.bool true) ∧ Below w.heap.size w w') := fun w => isRight_yes m 0 w (by omega) (by omega) (by omega) (by omega)
  have d0 := DA.new w m 0
  go_enter Tryd.func14, Tryd.ntmps14
  go_wp2_with fail
  refine (HR.out _).mono ?_
  rintro e w1 ⟨rfl, b1⟩
  have d1 := d0.on b1 d0.size
  have c0 := d1.c0
  have f0 := d1.f 0
  have B1 := hid (up_trans (up_alloc w (.cells #[.int .i64 m, .int .i64 0] 39)) b1)
  have d2 := d1.set0 (-m)
  have c2 := d2.c0
  have B2 := hid (B1.out.setCell (p := ⟨w.heap.size, 0, none⟩) (Nat.le_refl _) (.int .i64 (-m)))
  go_wp2_with fail
  refine (HP.out _).mono ?_
  rintro e w2 ⟨rfl, rfl⟩
  go_wp2_with fail
  refine (HI.out _ (htab.on B2.out)).mono ?_
  rintro e w3 ⟨rfl, b3⟩
  go_wp2
  go_ret
  exact ⟨rfl, up_trans B2.out b3⟩

set_option maxHeartbeats 1000000 in
theorem text_ns (m s p q r : Int) (A B : ByteArray) (w : World) (h0 : m < 0) (h1 : -1000000000000000000 < m) (s0 : 0 < s) (s1 : s ≤ 18) (htab : Tab w) (hp0 : 0 < p) (hp1 : p ≤ 1000000000000000000)
    (hq : (-m).tdiv p = q) (hr : (-m).tmod p = r) (hr0 : 0 ≤ r) (hr1 : r < p) (hq0 : 0 ≤ q) (hq1 : q ≤ 1000000000000000000) (hA : A.size ≤ 100) (hB : 1 ≤ B.size) (hB' : B.size ≤ 100)
    (HP : Hid (∀ w, Calls Tryd.prog 18 #[.int .i64 s] w fun e w' => e = .returned (.int .i64 p) ∧ w' = w))
    (HI : Hid (∀ w, Tab w → Calls Tryd.prog 20 #[.int .i64 q] w fun e w' => e = .returned (.string A) ∧ Below w.heap.size w w'))
    (HJ : Hid (∀ w, Tab w → Calls Tryd.prog 20 #[.int .i64 (p + r)] w fun e w' => e = .returned (.string B) ∧ Below w.heap.size w w')) :
    Calls Tryd.prog 14 #[.int .i64 m, .int .i64 s] w fun e w' => e = .returned (.string (⟨#[45]⟩ ++ A ++ ⟨#[46]⟩ ++ B.extract 1 B.size)) ∧ Below w.heap.size w w' := by
  have hs : (s == 0) = false := by simp; omega
  have HR : Hid (∀ w, Calls Tryd.prog 16 #[.agg #[.int .i64 m, .int .i64 s]] w fun e w' => e = .returned (.bool true) ∧ Below w.heap.size w w') := fun w => isRight_yes m s w (by omega) (by omega) (by omega) (by omega)
  have d0 := DA.new w m s
  go_enter Tryd.func14, Tryd.ntmps14
  go_wp2_with fail
  refine (HR.out _).mono ?_
  rintro e w1 ⟨rfl, b1⟩
  have d1 := d0.on b1 d0.size
  have c0 := d1.c0
  have f0 := d1.f 0
  have B1 := hid (up_trans (up_alloc w (.cells #[.int .i64 m, .int .i64 s] 39)) b1)
  have d2 := d1.set0 (-m)
  have c2 := d2.c0
  have B2 := hid (B1.out.setCell (p := ⟨w.heap.size, 0, none⟩) (Nat.le_refl _) (.int .i64 (-m)))
  go_wp2_with fail
  refine (HP.out _).mono ?_
  rintro e w2 ⟨rfl, rfl⟩
  go_wp2_with fail
  refine (HI.out _ (htab.on B2.out)).mono ?_
  rintro e w3 ⟨rfl, b3⟩
  have d3 := d2.on b3 d2.size
  have c3 := d3.c0
  have B3 := hid (up_trans B2.out b3)
  go_wp2_with fail
  refine (HJ.out _ (htab.on B3.out)).mono ?_
  rintro e w4 ⟨rfl, b4⟩
  go_wp2
  go_ret
  exact ⟨rfl, up_trans B3.out b4⟩

theorem nd_le (u : Nat) (h : u < 10 ^ 30) : Lib.nDigits u ≤ 30 := by
  by_cases hc : Lib.nDigits u ≤ 30
  · exact hc
  · rcases Dc.nDigits_low u 30 (by omega) with h1 | h1 <;> omega
theorem dd_size (u : Nat) (h : u < 10 ^ 30) : (ByteArray.mk (Lib.decDigits u).toArray).size ≤ 100 := by
  have := nd_le u h
  show (Lib.decDigits u).toArray.size ≤ 100
  rw [List.size_toArray, Lib.decDigits_length]; omega
theorem ten_nat (s : Nat) : Dc.ten s = ((10 ^ s : Nat) : Int) := by unfold Dc.ten; simp
theorem mk_app (x y : List UInt8) : (ByteArray.mk x.toArray ++ ByteArray.mk y.toArray) = ByteArray.mk (x ++ y).toArray := ByteArray.mk_append_mk x y
theorem tail_of (c : UInt8) (l : List UInt8) : (ByteArray.mk (c :: l).toArray).extract 1 (ByteArray.mk (c :: l).toArray).size = ⟨l.toArray⟩ := by
  apply ByteArray.ext
  rw [ByteArray.data_extract]
  show (c :: l).toArray.extract 1 (c :: l).toArray.size = l.toArray
  simp

theorem text_any (m : Int) (s : Nat) (w : World) (hs : s ≤ 18) (h0 : -1000000000000000000 < m) (h1 : m < 1000000000000000000) (htab : Tab w) :
    Calls Tryd.prog 14 #[.int .i64 m, .int .i64 s] w fun e w' => e = .returned (.string ⟨(Dc.text m s).toArray⟩) ∧ Below w.heap.size w w' := by
  obtain ⟨a, ha⟩ : ∃ a : Nat, a = m.natAbs := ⟨_, rfl⟩
  have a1 : a < 1000000000000000000 := by omega
  by_cases hz : s = 0
  · subst hz
    have HI : Hid (∀ w, Tab w → Calls Tryd.prog 20 #[.int .i64 (a : Int)] w fun e w' => e = .returned (.string ⟨(Lib.decDigits a).toArray⟩) ∧ Below w.heap.size w w') := fun w ht => itoa_nat a w (by omega) ht
    have hA := dd_size a (by omega)
    by_cases hm : m < 0
    · rw [show (a : Int) = -m by omega] at HI
      have := text_n0 m _ w hm h0 htab hA HI
      have e : Dc.text m 0 = [45] ++ Lib.decDigits a := by unfold Dc.text Dc.sgn; rw [if_pos hm, ← ha]; simp
      rw [e, ← mk_app]; exact this
    · rw [show (a : Int) = m by omega] at HI
      have := text_p0 m _ w (by omega) h1 htab hA HI
      have e : Dc.text m 0 = [] ++ Lib.decDigits a := by unfold Dc.text Dc.sgn; rw [if_neg hm, ← ha]; simp
      rw [e, ← mk_app]; exact this
  · have hp : 0 < 10 ^ s := Nat.pow_pos (by decide)
    have hp18 : 10 ^ s ≤ 1000000000000000000 := by
      have := (ten_bd s hs).2
      rw [ten_nat] at this
      omega
    have hr1 : a % 10 ^ s < 10 ^ s := Nat.mod_lt _ hp
    have hq1 : a / 10 ^ s ≤ a := Nat.div_le_self _ _
    have HP : Hid (∀ w, Calls Tryd.prog 18 #[.int .i64 s] w fun e w' => e = .returned (.int .i64 ((10 ^ s : Nat) : Int)) ∧ w' = w) := fun w => by
      have := power_any s w hs
      rwa [ten_nat] at this
    have HI : Hid (∀ w, Tab w → Calls Tryd.prog 20 #[.int .i64 ((a / 10 ^ s : Nat) : Int)] w fun e w' => e = .returned (.string ⟨(Lib.decDigits (a / 10 ^ s)).toArray⟩) ∧ Below w.heap.size w w') := fun w ht => itoa_nat _ w (by omega) ht
    have HJ : Hid (∀ w, Tab w → Calls Tryd.prog 20 #[.int .i64 (((10 ^ s : Nat) : Int) + ((a % 10 ^ s : Nat) : Int))] w fun e w' => e = .returned (.string ⟨(49 :: Dc.pad (a % 10 ^ s) s).toArray⟩) ∧ Below w.heap.size w w') := fun w ht => by
      have := itoa_nat (10 ^ s + a % 10 ^ s) w (by omega) ht
      rw [Dc.dec_one s _ hr1, Int.natCast_add] at this
      exact this
    have hA := dd_size (a / 10 ^ s) (by omega)
    have hB : (ByteArray.mk (49 :: Dc.pad (a % 10 ^ s) s).toArray).size = s + 1 := by
      show (49 :: Dc.pad (a % 10 ^ s) s).toArray.size = s + 1
      simp [Dc.pad_length]
    have eq : (a : Int).tdiv ((10 ^ s : Nat) : Int) = ((a / 10 ^ s : Nat) : Int) := rfl
    have er : (a : Int).tmod ((10 ^ s : Nat) : Int) = ((a % 10 ^ s : Nat) : Int) := rfl
    by_cases hm : m < 0
    · rw [show (a : Int) = -m by omega] at eq er
      have := text_ns m s _ _ _ _ _ w hm h0 (by omega) (by omega) htab (by omega) (by omega) eq er (Int.natCast_nonneg _) (by omega) (Int.natCast_nonneg _) (by omega) hA (by omega) (by omega) HP HI HJ
      have e : Dc.text m s = [45] ++ Lib.decDigits (a / 10 ^ s) ++ [46] ++ Dc.pad (a % 10 ^ s) s := by unfold Dc.text Dc.sgn; rw [if_pos hm, if_neg hz, ← ha]; simp
      rw [tail_of] at this
      rw [e, ← mk_app, ← mk_app, ← mk_app]; exact this
    · rw [show (a : Int) = m by omega] at eq er
      have := text_ps m s _ _ _ _ _ w (by omega) h1 (by omega) (by omega) htab (by omega) (by omega) eq er (Int.natCast_nonneg _) (by omega) (Int.natCast_nonneg _) (by omega) hA (by omega) (by omega) HP HI HJ
      have e : Dc.text m s = [] ++ Lib.decDigits (a / 10 ^ s) ++ [46] ++ Dc.pad (a % 10 ^ s) s := by unfold Dc.text Dc.sgn; rw [if_neg hm, if_neg hz, ← ha]; simp
      rw [tail_of] at this
      rw [e, ← mk_app, ← mk_app, ← mk_app]; exact this
end Go.Proofs.YtoklknioeoodbabDoor
