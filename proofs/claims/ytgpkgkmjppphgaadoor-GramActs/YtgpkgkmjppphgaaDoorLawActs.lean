/- GramActs answers true of every three ints: each action asks for just so many children. The table of places reads as the program's text lays it. -/
import Derived.Test.YtgpkgkmjppphgaaDoorCards
import Derived.Test.YtgpkgkmjppphgaaDoorTie
import Derived.Test.YtgpkgkmjppphgaaDoorTable
import Derived.Test.YtgpkgkmjppphgaaDoorBoxes
import Derived.Test.YtgpkgkmjppphgaaDoorRefR
import Derived.ProofKit
import Derived.OpenShut
import Derived.Lay
import Derived.SevenTiedAt
import Derived.Stop.Joined
import Derived.Lib.LaidTab
namespace Go.Proofs.YtgpkgkmjppphgaaDoor
open Go.ChangeShapes Go.WideShapes Go.ChangeAt Go.RowKit

def ones (j : Nat) : List Int := List.replicate j (-1)
def plcs (m k : Nat) : List Int := (List.range k).map fun i : Nat => ((i : Int) % (m : Int))
theorem ones_succ (j : Nat) : ones (j + 1) = ones j ++ [-1] := List.replicate_succ'
theorem plcs_succ (m k : Nat) : plcs m (k + 1) = plcs m k ++ [(k : Int) % (m : Int)] := by simp [plcs, List.range_succ]
theorem ones_length (j : Nat) : (ones j).length = j := by simp [ones]
theorem plcs_length (m j : Nat) : (plcs m j).length = j := by simp [plcs]
theorem acts_right (o : Int) (m k : Nat) (hm : 1 ≤ m ∧ m ≤ 6) : right ⟨0, ones m, o, plcs m k, 0⟩ = (inB o 0 15 && asked o (k : Int)) := by
  have h1 : (ones m).all isPart = true := by
    rw [List.all_eq_true]
    intro x hx
    rw [List.eq_of_mem_replicate hx]; decide
  have h2 : (plcs m k).all (isPlace m) = true := by
    rw [List.all_eq_true]
    intro x hx
    obtain ⟨i, _, rfl⟩ := List.mem_map.1 hx
    have a1 := Int.emod_nonneg (i : Int) (show (m : Int) ≠ 0 by omega)
    have a2 := Int.emod_lt_of_pos (i : Int) (show 0 < (m : Int) by omega)
    exact inB_true (by omega)
  have h3 : inB (m : Int) 1 6 = true := inB_true (by omega)
  have h4 : isSym 0 = true := by decide
  have h5 : inB 0 0 100 = true := by decide
  simp [right, rhsOk, actOk, ones_length, plcs_length, h1, h2, h3, h4, h5]

theorem lows_at (n : Nat) (h : n < 16) : (#[Value.int .i64 1, Value.int .i64 3, Value.int .i64 2, Value.int .i64 2, Value.int .i64 2, Value.int .i64 2, Value.int .i64 3, Value.int .i64 1, Value.int .i64 1, Value.int .i64 2, Value.int .i64 1, Value.int .i64 1, Value.int .i64 2, Value.int .i64 2, Value.int .i64 2, Value.int .i64 2] : Array Value)[n]? = some (.int .i64 (lows.getD n 0)) := by
  have : ∀ k : Fin 16, (#[Value.int .i64 1, Value.int .i64 3, Value.int .i64 2, Value.int .i64 2, Value.int .i64 2, Value.int .i64 2, Value.int .i64 3, Value.int .i64 1, Value.int .i64 1, Value.int .i64 2, Value.int .i64 1, Value.int .i64 1, Value.int .i64 2, Value.int .i64 2, Value.int .i64 2, Value.int .i64 2] : Array Value)[k.1]? = some (.int .i64 (lows.getD k.1 0)) := fun k => by
    match k with
    | ⟨0, _⟩ => rfl
    | ⟨1, _⟩ => rfl
    | ⟨2, _⟩ => rfl
    | ⟨3, _⟩ => rfl
    | ⟨4, _⟩ => rfl
    | ⟨5, _⟩ => rfl
    | ⟨6, _⟩ => rfl
    | ⟨7, _⟩ => rfl
    | ⟨8, _⟩ => rfl
    | ⟨9, _⟩ => rfl
    | ⟨10, _⟩ => rfl
    | ⟨11, _⟩ => rfl
    | ⟨12, _⟩ => rfl
    | ⟨13, _⟩ => rfl
    | ⟨14, _⟩ => rfl
    | ⟨15, _⟩ => rfl
    | ⟨k + 16, h⟩ => exact absurd h (by omega)
  exact this ⟨n, h⟩
theorem highs_at (n : Nat) (h : n < 16) : (#[Value.int .i64 1, Value.int .i64 3, Value.int .i64 2, Value.int .i64 3, Value.int .i64 3, Value.int .i64 2, Value.int .i64 3, Value.int .i64 1, Value.int .i64 1, Value.int .i64 2, Value.int .i64 6, Value.int .i64 1, Value.int .i64 2, Value.int .i64 2, Value.int .i64 2, Value.int .i64 2] : Array Value)[n]? = some (.int .i64 (highs.getD n 0)) := by
  have : ∀ k : Fin 16, (#[Value.int .i64 1, Value.int .i64 3, Value.int .i64 2, Value.int .i64 3, Value.int .i64 3, Value.int .i64 2, Value.int .i64 3, Value.int .i64 1, Value.int .i64 1, Value.int .i64 2, Value.int .i64 6, Value.int .i64 1, Value.int .i64 2, Value.int .i64 2, Value.int .i64 2, Value.int .i64 2] : Array Value)[k.1]? = some (.int .i64 (highs.getD k.1 0)) := fun k => by
    match k with
    | ⟨0, _⟩ => rfl
    | ⟨1, _⟩ => rfl
    | ⟨2, _⟩ => rfl
    | ⟨3, _⟩ => rfl
    | ⟨4, _⟩ => rfl
    | ⟨5, _⟩ => rfl
    | ⟨6, _⟩ => rfl
    | ⟨7, _⟩ => rfl
    | ⟨8, _⟩ => rfl
    | ⟨9, _⟩ => rfl
    | ⟨10, _⟩ => rfl
    | ⟨11, _⟩ => rfl
    | ⟨12, _⟩ => rfl
    | ⟨13, _⟩ => rfl
    | ⟨14, _⟩ => rfl
    | ⟨15, _⟩ => rfl
    | ⟨k + 16, h⟩ => exact absurd h (by omega)
  exact this ⟨n, h⟩

set_option maxRecDepth 4000 in
set_option maxHeartbeats 4000000 in
theorem walk (a0 a1 a2 : Int) (W : World) (_ : (Lit.int .i64 a0).wf = true) (_ : (Lit.int .i64 a1).wf = true) (_ : (Lit.int .i64 a2).wf = true) (hT : Tab W) : Calls Tryd.prog 11 #[.int .i64 a0, .int .i64 a1, .int .i64 a2] W fun e W' => e = .returned (.bool true) ∧ Below W.heap.size W W' := by
  have HK := hid (known_any W hT)
  have HT := hid hT
  have HW0 := hid (fun w => lwithin_any a0 18 w (by decide) (by decide))
  have HW1 := hid (fun w => lwithin_any a1 8 w (by decide) (by decide))
  have HW2 := hid (fun w => lwithin_any a2 6 w (by decide) (by decide))
  obtain ⟨o, ho⟩ : ∃ o : Int, a0 % 18 - 1 = o := ⟨_, rfl⟩
  obtain ⟨k, hk⟩ : ∃ k : Nat, a1 % 8 = (k : Int) := ⟨(a1 % 8).toNat, by omega⟩
  obtain ⟨m, hm⟩ : ∃ m : Nat, a2 % 6 = (m : Int) := ⟨(a2 % 6).toNat, by omega⟩
  have ho0 : -1 ≤ o ∧ o ≤ 16 := by omega
  have hk8 : k < 8 := by omega
  have hm6 : m < 6 := by omega
  rw [show a0 % 18 = o + 1 by omega] at HW0
  rw [hk] at HW1
  rw [hm] at HW2
  clear ho hk hm hT
  obtain ⟨i0, hi, hz0, hz1, hz2⟩ := info_parts info_int
  go_enter Tryd.func11, Tryd.ntmps11
  go_wp2_with fail
  refine HK.out.mono ?_
  rintro e w1 ⟨rfl, bel⟩
  have HL1 := hid bel
  clear bel HK
  go_wp2_with fail
  refine (HW0.out w1).mono ?_
  rintro e w2 ⟨rfl, rfl⟩
  go_wp2_with fail
  refine (HW1.out w2).mono ?_
  rintro e w3 ⟨rfl, rfl⟩
  go_wp2_with fail
  refine (HW2.out w3).mono ?_
  rintro e w4 ⟨rfl, rfl⟩
  go_wp2
  obtain ⟨M, hM⟩ : ∃ M : Nat, M = m + 1 := ⟨_, rfl⟩
  have hMi : (1 : Int) + (m : Int) = (M : Int) := by omega
  have hM6 : 1 ≤ M ∧ M ≤ 6 := by omega
  simp only [hMi]
  clear hMi hM HW2 hm6
  go_loopw [11] (fun v wr => ∃ j : Nat, j ≤ M ∧ v = .int .i64 j ∧ (∃ sv, Made wr w4.heap.size ⟨0, ones j, o, [], 0⟩ sv (.slice none 0 0)) ∧ Below w4.heap.size w4 wr) (fun v _ => M - (intOf v).toNat)
  case atStart => exact ⟨0, by omega, rfl, ⟨.slice none 0 0, row_new _ _, World.ownsRow_nil _ _ _ _, World.ownsRow_nil _ _ _ _, fun g e => by cases e⟩, up_alloc _ _⟩
  case round =>
    obtain ⟨j, hj, rfl, ⟨sv, hMd⟩, hb⟩ := hrel
    by_cases hlt : j < M
    · have hlt2 : (j : Int) < (M : Int) := by omega
      obtain ⟨b0, b1, b2, b3, b4⟩ := hMd.box
      have f1 := hMd.frozen 1
      obtain ⟨ad, cap, hsv⟩ := hMd.2.1.shape
      rw [ones_length] at hsv
      subst hsv
      have HM := hid hMd
      have HB := hid hb
      have hsz := hMd.lt
      clear hMd hb
      go_wp2_with (at_builtin; refine wpList_append_lies _ rfl (.tmp 35) (.tmp 36) 22 rfl (w4.heap.size + 1) 3 i0 (.int .i64 0) 1 8 Tryd.underlying22 hi hz0 hz1 hz2 rfl (by decide) _ j _ rfl (made_rhs HM.out (ones_length j) _) ⟨wr.heap.size, 0, none⟩ 1 1 [.int .i64 (-1)] rfl rfl (one_cell _ _ _) (one_oneCell _) (by decide) (by unfold maxLen; omega) (by omega) (by simp; omega) _ rfl ?_; intro ga ca W2 hown hgr hat hlt3; have hmid := HM.out.mid hgr (.inl rfl); have HP := hid (push_rhs HM.out (ones_length j) hown hgr hat (by simp)); have hmc := mid_cell hmid; obtain ⟨⟨mc1, mc3⟩, mf1, mf3⟩ := hmc; clear hown hgr hat hlt3 hmid)
      go_roundw
      case rel =>
        exact ⟨j + 1, by omega, by simp, ⟨_, by rw [ones_succ]; exact HP.out.1⟩, HB.out.trans HP.out.2⟩
      case measure => simp [intOf]; omega
    · obtain rfl : M = j := by omega
      have HM := hid hMd
      have HB := hid hb
      clear hMd hb
      obtain ⟨W1, rfl⟩ : ∃ W1, W1 = wr := ⟨wr, rfl⟩
      go_wp2
      go_loopw [12] (fun v wr => ∃ i : Nat, i ≤ k ∧ v = .int .i64 i ∧ (∃ sv pv, Made wr w4.heap.size ⟨0, ones M, o, plcs M i, 0⟩ sv pv) ∧ Below w4.heap.size w4 wr) (fun v _ => k - (intOf v).toNat)
      case atStart => exact ⟨0, by omega, rfl, ⟨_, _, HM.out⟩, HB.out⟩
      case round =>
        obtain ⟨i, hi2, rfl, ⟨sv2, pv2, hMd⟩, hb⟩ := hrel
        by_cases hlt3 : i < k
        · have hlt4 : (i : Int) < (k : Int) := by omega
          obtain ⟨b0, b1, b2, b3, b4⟩ := hMd.box
          have f3 := hMd.frozen 3
          obtain ⟨ad2, cap2, hpv⟩ := hMd.2.2.1.shape
          rw [show (plcs M i).length = i from plcs_length _ _] at hpv
          subst hpv
          have HM2 := hid hMd
          have HB2 := hid hb
          have hsz := hMd.lt
          have z1 : ((M : Int) == 0) = false := by simp; omega
          have z2 : (M : Int) ≠ 0 := by omega
          have z7 : M ≠ 0 := by omega
          have z3 : (M : Int) ≠ -1 := by omega
          have z4 : Int.tmod (i : Int) ((M : Int)) = (i : Int) % ((M : Int)) := Int.tmod_eq_emod_of_nonneg (by omega)
          have z5 := Int.emod_nonneg (i : Int) z2
          have z6 := Int.emod_lt_of_pos (i : Int) (show 0 < (M : Int) by omega)
          clear hMd hb
          go_wp2
          go_region_law (refine step_append_lies _ rfl (.tmp 46) (.tmp 50) 22 rfl (w4.heap.size + 1) 3 i0 (.int .i64 0) 1 8 Tryd.underlying22 hi hz0 hz1 hz2 rfl (by decide) (.slice ad2 i cap2) i _ (by simp [Act.eval]) (World.ownsRow.drew (made_p HM2.out (plcs_length _ _) _)) ⟨wr.heap.size, 0, none⟩ 1 1 [.int .i64 ((i : Int) % ((M : Int)))] (by simp [Act.eval]) rfl (one_cell _ _ _) (one_oneCell _) (by decide) (by unfold maxLen; omega) (by omega) (by simp; omega) _ rfl ?_; intro ga ca W2 hown hgr hat hlt5; have hmid := HM2.out.mid (undrew hgr) (.inr rfl); have HP := hid (push_p HM2.out (plcs_length _ _) hown (undrew hgr) hat (by simp)); have hmc := mid_cell hmid; obtain ⟨⟨mc1, mc3⟩, mf1, mf3⟩ := hmc; clear hown hgr hat hlt5 hmid)
          all_goals
            go_wp2
            go_roundw
            · exact ⟨i + 1, by omega, by simp, ⟨_, _, by rw [plcs_succ]; exact HP.out.1⟩, HB2.out.trans HP.out.2⟩
            · simp [intOf]; omega
        · obtain rfl : i = k := by omega
          have HM2 := hid hMd
          have HB2 := hid (up_trans HL1.out hb)
          obtain ⟨W3, rfl⟩ : ∃ W3, W3 = wr := ⟨wr, rfl⟩
          have HU := hid (up_trans (up_alloc W3 (.cells #[Value.int .i64 1, Value.int .i64 3, Value.int .i64 2, Value.int .i64 2, Value.int .i64 2, Value.int .i64 2, Value.int .i64 3, Value.int .i64 1, Value.int .i64 1, Value.int .i64 2, Value.int .i64 1, Value.int .i64 1, Value.int .i64 2, Value.int .i64 2, Value.int .i64 2, Value.int .i64 2] 3)) (up_alloc _ (.cells #[Value.int .i64 1, Value.int .i64 3, Value.int .i64 2, Value.int .i64 3, Value.int .i64 3, Value.int .i64 2, Value.int .i64 3, Value.int .i64 1, Value.int .i64 1, Value.int .i64 2, Value.int .i64 6, Value.int .i64 1, Value.int .i64 2, Value.int .i64 2, Value.int .i64 2, Value.int .i64 2] 3)))
          obtain ⟨b0, b1, b2, b3, b4⟩ := (hMd.on HU.out).box
          obtain ⟨ad1, cap1, hs1⟩ := hMd.2.1.shape
          obtain ⟨ad2, cap2, hs2⟩ := hMd.2.2.1.shape
          have HRA := hid ((hMd.on HU.out).rule (by rw [show (⟨0, ones M, o, plcs M i, 0⟩ : Rule).rhs.length = M from ones_length _]; unfold maxLen; omega) (by rw [show (⟨0, ones M, o, plcs M i, 0⟩ : Rule).p.length = i from plcs_length _ _]; unfold maxLen; omega))
          have HRT := hid (acts_right o M i (by omega))
          have HT3 := hid (HT.out.on (up_trans HB2.out HU.out))
          clear hMd hb
          subst hs1 hs2
          by_cases o1 : o < 0
          · have e1 : inB o 0 15 = false := inB_false (by omega)
            rw [e1, Bool.false_and] at HRT
            clear e1
            go_wp2_with fail
            refine (right_any _ _ _ HRA.out HT3.out).mono ?_
            rintro e w5 ⟨rfl, bel⟩
            rw [HRT.out]
            have HL5 := hid (up_trans (up_trans HB2.out HU.out) bel)
            have HM5 := hid ((HM2.out.on HU.out).on bel)
            obtain ⟨c0, c1, c2, c3, c4⟩ := HM5.out.box
            have HRA5 := hid (HRA.out.on bel)
            clear bel
            go_wp2_with fail
            refine (rright_any _ _ _ HRA5.out).mono ?_
            rintro e w6 ⟨rfl, bel⟩
            rw [HRT.out]
            have HL6 := hid (up_trans HL5.out bel)
            clear bel
            go_wp2
            go_ret
            exact ⟨rfl, HL6.out⟩
          · by_cases o2 : 16 ≤ o
            · have e1 : inB o 0 15 = false := inB_false (by omega)
              rw [e1, Bool.false_and] at HRT
              clear e1
              go_wp2_with fail
              refine (right_any _ _ _ HRA.out HT3.out).mono ?_
              rintro e w5 ⟨rfl, bel⟩
              rw [HRT.out]
              have HL5 := hid (up_trans (up_trans HB2.out HU.out) bel)
              have HM5 := hid ((HM2.out.on HU.out).on bel)
              obtain ⟨c0, c1, c2, c3, c4⟩ := HM5.out.box
              have HRA5 := hid (HRA.out.on bel)
              clear bel
              go_wp2_with fail
              refine (rright_any _ _ _ HRA5.out).mono ?_
              rintro e w6 ⟨rfl, bel⟩
              rw [HRT.out]
              have HL6 := hid (up_trans HL5.out bel)
              clear bel
              go_wp2
              go_ret
              exact ⟨rfl, HL6.out⟩
            · have e1 : inB o 0 15 = true := inB_true (by omega)
              rw [e1, Bool.true_and] at HRT
              clear e1
              obtain ⟨n, rfl⟩ : ∃ n : Nat, o = (n : Int) := ⟨o.toNat, by omega⟩
              have hn16 : n < 16 := by omega
              have o3 : (n : Int) < 16 := by omega
              have o4 : (n : Int) ≤ 15 := by omega
              have hmn : (max 0 (min (n : Int) 15)).toNat = n := by omega
              have l1 := lows_at n hn16
              have l2 := highs_at n hn16
              have l3 := l1
              have l4 := l2
              rw [List.getElem?_toArray] at l3 l4
              have l5 : ∀ h : n < ([Value.int .i64 1, Value.int .i64 3, Value.int .i64 2, Value.int .i64 2, Value.int .i64 2, Value.int .i64 2, Value.int .i64 3, Value.int .i64 1, Value.int .i64 1, Value.int .i64 2, Value.int .i64 1, Value.int .i64 1, Value.int .i64 2, Value.int .i64 2, Value.int .i64 2, Value.int .i64 2] : List Value).length, ([Value.int .i64 1, Value.int .i64 3, Value.int .i64 2, Value.int .i64 2, Value.int .i64 2, Value.int .i64 2, Value.int .i64 3, Value.int .i64 1, Value.int .i64 1, Value.int .i64 2, Value.int .i64 1, Value.int .i64 1, Value.int .i64 2, Value.int .i64 2, Value.int .i64 2, Value.int .i64 2] : List Value)[n]'h = .int .i64 (lows.getD n 0) := fun h => by
                rw [List.getElem?_eq_getElem h] at l3; exact Option.some.inj l3
              have l6 : ∀ h : n < ([Value.int .i64 1, Value.int .i64 3, Value.int .i64 2, Value.int .i64 3, Value.int .i64 3, Value.int .i64 2, Value.int .i64 3, Value.int .i64 1, Value.int .i64 1, Value.int .i64 2, Value.int .i64 6, Value.int .i64 1, Value.int .i64 2, Value.int .i64 2, Value.int .i64 2, Value.int .i64 2] : List Value).length, ([Value.int .i64 1, Value.int .i64 3, Value.int .i64 2, Value.int .i64 3, Value.int .i64 3, Value.int .i64 2, Value.int .i64 3, Value.int .i64 1, Value.int .i64 1, Value.int .i64 2, Value.int .i64 6, Value.int .i64 1, Value.int .i64 2, Value.int .i64 2, Value.int .i64 2, Value.int .i64 2] : List Value)[n]'h = .int .i64 (highs.getD n 0) := fun h => by
                rw [List.getElem?_eq_getElem h] at l4; exact Option.some.inj l4
              clear l1 l2 l3 l4
              unfold asked at HRT
              rw [Int.toNat_natCast] at HRT
              generalize lows.getD n 0 = lo at *
              generalize highs.getD n 0 = hi' at *
              by_cases k1 : lo ≤ (i : Int)
              · by_cases k2 : (i : Int) ≤ hi'
                · rw [inB_true ⟨k1, k2⟩] at HRT
                  go_wp2_with fail
                  refine (right_any _ _ _ HRA.out HT3.out).mono ?_
                  rintro e w5 ⟨rfl, bel⟩
                  rw [HRT.out]
                  have HL5 := hid (up_trans (up_trans HB2.out HU.out) bel)
                  have HM5 := hid ((HM2.out.on HU.out).on bel)
                  obtain ⟨c0, c1, c2, c3, c4⟩ := HM5.out.box
                  have HRA5 := hid (HRA.out.on bel)
                  clear bel
                  go_wp2_with fail
                  refine (rright_any _ _ _ HRA5.out).mono ?_
                  rintro e w6 ⟨rfl, bel⟩
                  rw [HRT.out]
                  have HL6 := hid (up_trans HL5.out bel)
                  clear bel
                  go_wp2
                  go_ret
                  exact ⟨rfl, HL6.out⟩
                · rw [inB_false (fun h => k2 h.2)] at HRT
                  go_wp2_with fail
                  refine (right_any _ _ _ HRA.out HT3.out).mono ?_
                  rintro e w5 ⟨rfl, bel⟩
                  rw [HRT.out]
                  have HL5 := hid (up_trans (up_trans HB2.out HU.out) bel)
                  have HM5 := hid ((HM2.out.on HU.out).on bel)
                  obtain ⟨c0, c1, c2, c3, c4⟩ := HM5.out.box
                  have HRA5 := hid (HRA.out.on bel)
                  clear bel
                  go_wp2_with fail
                  refine (rright_any _ _ _ HRA5.out).mono ?_
                  rintro e w6 ⟨rfl, bel⟩
                  rw [HRT.out]
                  have HL6 := hid (up_trans HL5.out bel)
                  clear bel
                  go_wp2
                  go_ret
                  exact ⟨rfl, HL6.out⟩
              · rw [inB_false (fun h => k1 h.1)] at HRT
                go_wp2_with fail
                refine (right_any _ _ _ HRA.out HT3.out).mono ?_
                rintro e w5 ⟨rfl, bel⟩
                rw [HRT.out]
                have HL5 := hid (up_trans (up_trans HB2.out HU.out) bel)
                have HM5 := hid ((HM2.out.on HU.out).on bel)
                obtain ⟨c0, c1, c2, c3, c4⟩ := HM5.out.box
                have HRA5 := hid (HRA.out.on bel)
                clear bel
                go_wp2_with fail
                refine (rright_any _ _ _ HRA5.out).mono ?_
                rintro e w6 ⟨rfl, bel⟩
                rw [HRT.out]
                have HL6 := hid (up_trans HL5.out bel)
                clear bel
                go_wp2
                go_ret
                exact ⟨rfl, HL6.out⟩

theorem own : ownKnob Tryd.prog.godebug = none := by kernel_rfl

theorem table {W : World} (h : laidMetH Tryd.prog Rows.gramActsRow.laid W) : Tab W := by
  rw [MakeChecks.laidMetH_plain _ _ _ (by kernel_rfl)] at h
  exact tab_of_laid h

set_option maxRecDepth 100000 in
theorem lifted (os : Os) (started : os.Started) (H : Type) (enc : TypeId × Value → H) :
    ReturnsInHanded {} Tryd.checked os 11 .any (fun w args => (Rows.gramActsSpec.pre enc Tryd.prog Tryd.f11 Rows.gramActsRow.domain false w args ∧ laidMetH Tryd.prog Rows.gramActsRow.laid w) ∧ sizedMet enc Tryd.prog Tryd.f11 (OpenSpec.ofChange Rows.gramActsSpec) false w args)
      (Rows.gramActsSpec.post enc Tryd.prog Tryd.f11 false true false false) := by
  refine returnsInHanded_of_change_and (C := Tryd.checked) (X := fun w _ => laidMetH Tryd.prog Rows.gramActsRow.laid w) (fun _ _ _ hh h => h.of_heap hh) own started (by kernel_rfl) Tryd.func11
    (ChangeSpec.witness_shaped (enc := enc) (C := Tryd.checked) (os := os) (X := fun w _ => laidMetH Tryd.prog Rows.gramActsRow.laid w) false (World.laidAll Tryd.prog os Rows.gramActsRow.laid) #[.int .i64 0, .int .i64 0, .int .i64 0] 8 (World.laidAll_os _ _ _)
      (World.shaped_of_ZipB (by kernel_rfl) (by kernel_rfl)) (by kernel_rfl) (by kernel_rfl) (by kernel_rfl)
      (by rw [MakeChecks.laidMetH_plain _ _ _ (by kernel_rfl)]; exact laidMet_laidAll _ (by kernel_rfl) (by kernel_rfl))) ?_
  intro W base args ds gs before hval0 hW _ _ hL _
  have hval : ∀ (j : Nat) t v, Tryd.f11.params[j]? = some t → args[j]? = some v → Value.okWide Tryd.prog W .any base t v := hval0
  have hW' := hW
  obtain ⟨p, q, hA0, hV, rfl, hfz, hnd⟩ := hW
  have hA : DataW.TrodAll enc Tryd.prog W 0 (fun _ => true) true Tryd.f11.params.toList args.toList ds p := hA0
  rw [Tryd.params11] at hA hval
  obtain ⟨v0, vs0, d0, ds0, p0, q0, hargs, rfl, rfl, h0, r0⟩ := trodAll_cons hA
  obtain ⟨v1, vs1, d1, ds1, p1, q1, rfl, rfl, rfl, h1, r1⟩ := trodAll_cons r0
  obtain ⟨v2, vs2, d2, ds2, p2, q2, rfl, rfl, rfl, h2, r2⟩ := trodAll_cons r1
  obtain ⟨rfl, rfl, rfl⟩ := trodAll_nil r2
  obtain rfl : args = #[v0, v1, v2] := by cases args; simp_all
  obtain ⟨rfl, rfl⟩ := trodVars_none hV
  obtain ⟨a0, rfl, rfl, rfl, w0⟩ := open_int Tryd.underlying3 (hval 0 3 v0 rfl rfl) h0
  obtain ⟨a1, rfl, rfl, rfl, w1⟩ := open_int Tryd.underlying3 (hval 1 3 v1 rfl rfl) h1
  obtain ⟨a2, rfl, rfl, rfl, w2⟩ := open_int Tryd.underlying3 (hval 2 3 v2 rfl rfl) h2
  clear hA0 hval0
  refine (walk a0 a1 a2 W w0 w1 w2 (table hL)).mono fun e W' ⟨he, bel⟩ => ?_
  subst he
  exact ⟨_, rfl, _, _, _, [], _, [], hW', trodAll_mk1 (shut_bool Tryd.underlying4 _), (trodAll_cons_mk (shut_int Tryd.underlying3 w0) (trodAll_cons_mk (shut_int Tryd.underlying3 w1) (trodAll_cons_mk (shut_int Tryd.underlying3 w2) trodAll_mk0))), rfl, bel.frame _, fun h => by cases h⟩

theorem row_holds : Rows.GramActsSaid :=
  OpenClaim.holds_of_wide 11 Tryd.f11 rfl rfl rfl rfl rfl rfl rfl ⟨rfl, rfl, rfl, rfl, rfl⟩ rfl rfl rfl rfl rfl (by kernel_rfl) Tryd.func11 (by kernel_rfl)
    (of_decide_eq_true (by kernel_rfl)) (by unfold Func.isWrapper; first | (rw [if_pos (by decide +kernel)]; kernel_rfl) | (rw [if_neg (by decide +kernel)]; exact ⟨rfl, rfl⟩))
    (fun os started H enc _ => lifted os started H enc)

theorem gramActs_holds : Rows.GramActsCardSaid :=
  Claim7.holds_tied_plain_at .later [] _ _ _ _ row_holds (fun _ h => by cases h) (by kernel_rfl) (fun _ h => by cases h) gramActs_row_tie rfl ⟨rfl, rfl⟩ (by kernel_rfl) rfl
    (fun f fn hf hfn => by
      obtain rfl : f = 11 := Option.some.inj ((show Tryd.prog.funcNamed "interlocutor/interlocutorlaw4.GramActs" = some 11 by kernel_rfl).symm.trans hf) |>.symm
      obtain rfl : fn = Tryd.f11 := (Option.some.inj (Tryd.func11.symm.trans hfn)).symm
      exact ⟨by kernel_rfl, fun j t ht => by
        rw [Tryd.params11] at ht
        have hm : t ∈ [3, 3, 3] := by simpa using Array.mem_of_getElem? ht
        have hall : ([3, 3, 3].all fun u => !Tryd.prog.wantsStandIn u) = true := by kernel_rfl
        exact (show Tryd.prog.wantsStandIn t = false by simpa using List.all_eq_true.1 hall t hm)⟩)
    (by kernel_rfl)

end Go.Proofs.YtgpkgkmjppphgaaDoor
