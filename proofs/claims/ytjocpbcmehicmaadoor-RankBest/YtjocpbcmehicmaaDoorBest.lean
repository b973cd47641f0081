/- rank.Best: of any readings the best. -/
import Derived.Test.YtjocpbcmehicmaaDoorOwn
namespace Go.Proofs.YtjocpbcmehicmaaDoor
open Go.RowKit Go.Sort

theorem map_take {W0 : World} (d : Array (El W0)) (k : Nat) (_hk : k ≤ d.size) : (d.extract 0 k).toList.map El.rd = (d.toList.map El.rd).take k := by
  rw [← List.map_take]; simp
theorem len_map {W0 : World} (d : Array (El W0)) : (d.toList.map El.rd).length = d.size := by simp

set_option maxRecDepth 8000 in
set_option maxHeartbeats 4000000 in
theorem best_any (xs : List Rd) (v : Value) (most : Int) (w : World) (h : RA w v xs) (h0 : 0 ≤ most) :
    Calls Tryd.prog 18 #[v, .int .i64 most] w fun e w' => ∃ out u, IsBest xs out ∧ e = .returned (.tuple #[u, .bool (decide (most < (out.length : Int)))]) ∧ RO w.heap.size w' u (out.take most.toNat) ∧ Below w.heap.size w w' := by
  have HE1 := hid (each_any xs v w h)
  have hx : xs.length ≤ 1000000 := by obtain ⟨_, _, _, _, _, hx⟩ := h.shape; exact hx
  have hm : ¬ most < 0 := by omega
  clear h
  go_enter Tryd.func18, Tryd.ntmps18
  go_wp2_with fail
  refine HE1.out.mono ?_
  rintro e w1 ⟨g, d, rfl, hd, hw1⟩
  have hs : d.size ≤ 1000000 := by rw [← len_map, hd]; exact hx
  have HD := hid hd
  have HW1 := hid hw1
  clear hd hw1 HE1
  have HS := hid (sortVC_any HW1.out hs (cap := d.size))
  go_wp2_with fail
  refine HS.out.mono ?_
  rintro e w2 ⟨rfl, d2, hw2, hs2, hp2, ho2⟩
  have HW2 := hid hw2
  have HP2 := hid hp2
  have HO2 := hid ho2
  clear HS hw2 hp2 ho2
  have HC := hid (compact_any HW2.out (by omega) (Nat.le_refl _) (by unfold maxLen; omega))
  rw [hs2] at HC
  go_wp2_with fail
  refine HC.out.mono ?_
  rintro e w3 ⟨d3, hw3, rfl, hc3⟩
  have hs3 : d3.size ≤ d.size := by
    have := comp_len (d2.toList.map El.rd)
    rw [← hc3, len_map, len_map, hs2] at this
    exact this
  have HW3 := hid hw3
  have HC3 := hid hc3
  clear HC hw3 hc3
  have HS := hid (sortCV_any HW3.out (by omega) (cap := d.size))
  go_wp2_with fail
  refine HS.out.mono ?_
  rintro e w4 ⟨rfl, d4, hw4, hs4, hp4, ho4⟩
  have HB : Hid (IsBest xs (d4.toList.map El.rd)) := hid (isBest_of xs _ _ (by rw [← HD.out]; exact HP2.out) HO2.out (by rw [← HC3.out]; exact hp4) ho4)
  have HW4 := hid hw4
  clear HS hw4 hp4 ho4
  rw [← hs4] at hs3
  rw [← hs4]
  clear hs4
  have HL := hid (len_map d4)
  by_cases hlt : most < (d4.size : Int)
  case pos =>
    obtain ⟨k, rfl⟩ := Int.eq_ofNat_of_zero_le h0
    have hk : k < d4.size := by omega
    have hsz : (d4.extract 0 k).size = k := by simp; omega
    have HO := hid (eachOwn_any (HW4.out.prefix k (by omega)) (by rw [hsz]; omega) (cap := d.size))
    rw [hsz] at HO
    have hkc : (k : Int) ≤ (d.size : Int) := by omega
    go_wp2_with fail
    refine HO.out.mono ?_
    rintro e w5 ⟨u, rfl, hu, hb⟩
    have HU := hid hu
    have HB5 := hid hb
    clear hu hb HO
    go_wp2
    go_ret2
    have hd : decide ((k : Int) < ((d4.toList.map El.rd).length : Int)) = true := by rw [HL.out]; simpa using hk
    refine ⟨d4.toList.map El.rd, u, HB.out, by rw [hd]; rfl, ?_, HW4.out.2.2.2.trans (HB5.out.mono HW4.out.2.2.2.size)⟩
    have hr := HU.out
    rw [map_take d4 k (by omega)] at hr
    exact hr.low HW4.out.2.2.2.size
  case neg =>
    have HO := hid (eachOwn_any HW4.out (by omega) (cap := d.size))
    go_wp2_with fail
    refine HO.out.mono ?_
    rintro e w5 ⟨u, rfl, hu, hb⟩
    have HU := hid hu
    have HB5 := hid hb
    clear hu hb HO
    go_wp2
    go_ret2
    have hd : decide (most < ((d4.toList.map El.rd).length : Int)) = false := by rw [HL.out]; simpa using hlt
    refine ⟨d4.toList.map El.rd, u, HB.out, by rw [hd]; rfl, ?_, HW4.out.2.2.2.trans (HB5.out.mono HW4.out.2.2.2.size)⟩
    rw [List.take_of_length_le (by rw [HL.out]; omega)]
    exact HU.out.low HW4.out.2.2.2.size
end Go.Proofs.YtjocpbcmehicmaaDoor
