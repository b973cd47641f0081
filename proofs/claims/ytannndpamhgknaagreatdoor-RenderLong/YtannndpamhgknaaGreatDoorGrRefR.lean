/- The reference's Right answers the same of a rule as the document's words. -/
import Derived.Test.YtannndpamhgknaaGreatDoorGrKnown
namespace Go.Proofs.YtannndpamhgknaaGreatDoor.Gr
open Go.RowKit

def wantsLo (op : Int) : Int := if 0 ≤ op ∧ op ≤ 15 then lows.getD op.toNat 0 else 1
def wantsHi (op : Int) : Int := if 0 ≤ op ∧ op ≤ 15 then highs.getD op.toNat 0 else 0

theorem wants_any (op : Int) (w : World) : Calls Tryz.prog 123 #[.int .i64 op] w fun e w' => e = .returned (.tuple #[.int .i64 (wantsLo op), .int .i64 (wantsHi op)]) ∧ w' = w := by
  by_cases h : 0 ≤ op ∧ op ≤ 15
  · rcases (show op = 0 ∨ op = 1 ∨ op = 2 ∨ op = 3 ∨ op = 4 ∨ op = 5 ∨ op = 6 ∨ op = 7 ∨ op = 8 ∨ op = 9 ∨ op = 10 ∨ op = 11 ∨ op = 12 ∨ op = 13 ∨ op = 14 ∨ op = 15 by omega) with rfl | rfl | rfl | rfl | rfl | rfl | rfl | rfl | rfl | rfl | rfl | rfl | rfl | rfl | rfl | rfl
    all_goals
      go_enter Tryz.func123, Tryz.ntmps123
      go_wp2
      go_ret2
      exact ⟨rfl, rfl⟩
  · rw [show wantsLo op = 1 from if_neg h, show wantsHi op = 0 from if_neg h]
    have n0 : ¬ op = 0 := by omega
    have n1 : ¬ op = 1 := by omega
    have n2 : ¬ op = 2 := by omega
    have n3 : ¬ op = 3 := by omega
    have n4 : ¬ op = 4 := by omega
    have n5 : ¬ op = 5 := by omega
    have n6 : ¬ op = 6 := by omega
    have n7 : ¬ op = 7 := by omega
    have n8 : ¬ op = 8 := by omega
    have n9 : ¬ op = 9 := by omega
    have n10 : ¬ op = 10 := by omega
    have n11 : ¬ op = 11 := by omega
    have n12 : ¬ op = 12 := by omega
    have n13 : ¬ op = 13 := by omega
    have n14 : ¬ op = 14 := by omega
    have n15 : ¬ op = 15 := by omega
    clear h
    go_enter Tryz.func123, Tryz.ntmps123
    go_wp2
    go_ret2
    exact ⟨rfl, rfl⟩

theorem right_false_lhs {r : Rule} (h : ¬ (0 ≤ r.lhs ∧ r.lhs ≤ 19)) : right r = false := by simp [right, isSym, inB_false h]
theorem right_false_len {r : Rule} (h : ¬ (1 ≤ (r.rhs.length : Int) ∧ (r.rhs.length : Int) ≤ 6)) : right r = false := by simp [right, rhsOk, inB_false h]
theorem right_false_cost {r : Rule} (h : ¬ (0 ≤ r.cost ∧ r.cost ≤ 100)) : right r = false := by simp [right, inB_false h]
theorem right_false_part {r : Rule} (h : r.rhs.all isPart = false) : right r = false := by simp [right, rhsOk, h]
theorem right_false_asked {r : Rule} (h : ¬ (wantsLo r.op ≤ (r.p.length : Int) ∧ (r.p.length : Int) ≤ wantsHi r.op)) : right r = false := by
  by_cases h2 : 0 ≤ r.op ∧ r.op ≤ 15
  · rw [wantsLo, wantsHi, if_pos h2, if_pos h2] at h
    have e : asked r.op r.p.length = false := inB_false h
    simp [right, actOk, e]
  · simp [right, actOk, inB_false h2]
theorem right_false_place {r : Rule} (h : r.p.all (isPlace r.rhs.length) = false) : right r = false := by simp [right, actOk, h]
theorem right_true {r : Rule} (h1 : 0 ≤ r.lhs ∧ r.lhs ≤ 19) (h2 : 1 ≤ (r.rhs.length : Int) ∧ (r.rhs.length : Int) ≤ 6) (h3 : 0 ≤ r.cost ∧ r.cost ≤ 100) (h4 : r.rhs.all isPart = true) (h5 : wantsLo r.op ≤ (r.p.length : Int) ∧ (r.p.length : Int) ≤ wantsHi r.op) (h6 : r.p.all (isPlace r.rhs.length) = true) : right r = true := by
  by_cases h7 : 0 ≤ r.op ∧ r.op ≤ 15
  · rw [wantsLo, wantsHi, if_pos h7, if_pos h7] at h5
    have e : asked r.op r.p.length = true := inB_true h5
    simp [right, isSym, rhsOk, actOk, e, inB_true h1, inB_true h2, inB_true h3, inB_true h7, h4, h6]
  · rw [wantsLo, wantsHi, if_neg h7, if_neg h7] at h5
    omega
theorem all_false_of {p : Int → Bool} {xs : List Int} {j : Nat} {y : Int} (h : xs[j]? = some y) (hp : p y = false) : xs.all p = false := by
  refine Bool.eq_false_iff.2 fun hh => ?_
  have := List.all_eq_true.1 hh y (List.mem_of_getElem? h)
  rw [hp] at this
  cases this

set_option maxRecDepth 4000 in
set_option maxHeartbeats 2000000 in
theorem rright_any (r : Rule) (v : Value) (w : World) (h : RuleAt w v r) : Calls Tryz.prog 108 #[v] w fun e w' => e = .returned (.bool (right r)) ∧ Below w.heap.size w w' := by
  obtain ⟨sv, pv, rfl, hs, hp⟩ := h
  obtain ⟨q, hq⟩ : ∃ q, q = right r := ⟨_, rfl⟩
  rw [← hq]
  have HQ := hid hq
  clear hq
  have HW := hid (fun w => wants_any r.op w)
  obtain ⟨ad, cap, rfl, hmx, hc⟩ := hs
  obtain ⟨ad2, cap2, rfl, hmx2, hc2⟩ := hp
  have HC := hid hc
  have HC2 := hid hc2
  unfold ruleV
  have F1 := hid (fun h => HQ.out.trans (right_false_lhs (r := r) h))
  have F2 := hid (fun h => HQ.out.trans (right_false_len (r := r) h))
  have F3 := hid (fun h => HQ.out.trans (right_false_cost (r := r) h))
  have F4 := hid (fun h => HQ.out.trans (right_false_part (r := r) h))
  have F5 := hid (fun h => HQ.out.trans (right_false_asked (r := r) h))
  have F6 := hid (fun h => HQ.out.trans (right_false_place (r := r) h))
  have TR := hid (fun h1 h2 h3 h4 h5 h6 => HQ.out.trans (right_true (r := r) h1 h2 h3 h4 h5 h6))
  obtain ⟨lhs, rhs, op, p, cost⟩ := r
  dsimp only at *
  generalize wantsLo op = lo at *
  generalize wantsHi op = hi at *
  generalize hlen : rhs.length = n at *
  generalize hlen2 : p.length = m at *
  have HL := hid hlen
  have HL2 := hid hlen2
  unfold maxLen at hmx hmx2
  clear hlen hlen2 hc hc2 HQ
  by_cases k0 : lhs < 0
  · go_enter Tryz.func108, Tryz.ntmps108
    go_wp2
    go_ret
    exact ⟨ret_bool (F1.out (by omega)).symm, up_alloc _ _⟩
  · by_cases k1 : 20 ≤ lhs
    · go_enter Tryz.func108, Tryz.ntmps108
      go_wp2
      go_ret
      exact ⟨ret_bool (F1.out (by omega)).symm, up_alloc _ _⟩
    · by_cases k2 : (n : Int) < 1
      · go_enter Tryz.func108, Tryz.ntmps108
        go_wp2
        go_ret
        exact ⟨ret_bool (F2.out (by omega)).symm, up_alloc _ _⟩
      · by_cases k3 : 6 < (n : Int)
        · go_enter Tryz.func108, Tryz.ntmps108
          go_wp2
          go_ret
          exact ⟨ret_bool (F2.out (by omega)).symm, up_alloc _ _⟩
        · by_cases k4 : cost < 0
          · go_enter Tryz.func108, Tryz.ntmps108
            go_wp2
            go_ret
            exact ⟨ret_bool (F3.out (by omega)).symm, up_alloc _ _⟩
          · by_cases k5 : 100 < cost
            · go_enter Tryz.func108, Tryz.ntmps108
              go_wp2
              go_ret
              exact ⟨ret_bool (F3.out (by omega)).symm, up_alloc _ _⟩
            · go_enter Tryz.func108, Tryz.ntmps108
              go_wp2
              go_loopw [3] (fun v wr => ∃ j : Nat, j ≤ n ∧ v = .int .i64 j ∧ Hid ((rhs.take j).all isPart = true) ∧ Below w.heap.size w wr ∧ Below (w.heap.size + 1) (w.alloc (.cells #[.int .i64 lhs, .slice ad n cap, .int .i64 op, .slice ad2 m cap2, .int .i64 cost] 120)) wr) (fun v _ => n - (intOf v).toNat)
              case atStart => exact ⟨0, by omega, rfl, hid (by simp), up_alloc _ _, Below.refl _ _⟩
              case round =>
                obtain ⟨j, hj, rfl, ht, hb, hb2⟩ := hrel
                have bx := (box_new w (.int .i64 lhs) (.slice ad n cap) (.int .i64 op) (.slice ad2 m cap2) (.int .i64 cost) 120 w.heap.size rfl).on (hb2.mono (by simp))
                obtain ⟨b0, b1, b2, b3, b4⟩ := bx
                have HB := hid hb
                have HB2 := hid hb2
                clear hb hb2
                by_cases hlt : j < n
                · obtain ⟨a, rfl, hcj⟩ := HC.out j hlt
                  have hcj2 := (HB.out.cell (lt_of_cell hcj)).trans hcj
                  have HX : Hid (rhs[j]? = some (rhs.getD j 0)) := hid (getD_at (by rw [HL.out]; exact hlt))
                  generalize rhs.getD j 0 = y at *
                  clear hcj
                  have hlt2 : (j : Int) < (n : Int) := by omega
                  by_cases y1 : 20 ≤ y
                  · have HF := hid (F4.out (all_false_of HX.out (inB_false (by omega))))
                    go_wp2
                    go_ret
                    exact ⟨ret_bool HF.out.symm, HB.out⟩
                  · by_cases y2 : y < -61
                    · have HF := hid (F4.out (all_false_of HX.out (inB_false (by omega))))
                      go_wp2
                      go_ret
                      exact ⟨ret_bool HF.out.symm, HB.out⟩
                    · have HP : Hid (isPart y = true) := hid (inB_true (by omega))
                      go_wp2
                      go_roundw
                      case rel => exact ⟨j + 1, by omega, by simp, hid (by rw [List.take_add_one, HX.out, List.all_append, ht.out]; simp [HP.out]), HB.out, HB2.out⟩
                      case measure => simp [intOf]; omega
                · obtain rfl : j = n := by omega
                  have HALL : Hid (rhs.all isPart = true) := hid (by rw [← ht.out, ← HL.out, List.take_length])
                  by_cases z1 : (m : Int) < lo
                  · have HF := hid (F5.out (by omega))
                    go_wp2_with fail
                    refine (HW.out wr).mono ?_
                    rintro e w2 ⟨rfl, rfl⟩
                    go_wp2
                    go_ret
                    exact ⟨ret_bool HF.out.symm, HB.out⟩
                  · by_cases z2 : hi < (m : Int)
                    · have HF := hid (F5.out (by omega))
                      go_wp2_with fail
                      refine (HW.out wr).mono ?_
                      rintro e w2 ⟨rfl, rfl⟩
                      go_wp2
                      go_ret
                      exact ⟨ret_bool HF.out.symm, HB.out⟩
                    · have HZ : Hid (lo ≤ (m : Int) ∧ (m : Int) ≤ hi) := hid (by omega)
                      go_wp2_with fail
                      refine (HW.out wr).mono ?_
                      rintro e w2 ⟨rfl, rfl⟩
                      obtain ⟨W1, rfl⟩ : ∃ W1, W1 = w2 := ⟨_, rfl⟩
                      go_wp2
                      go_loopw [6] (fun v wr => ∃ i : Nat, i ≤ m ∧ v = .int .i64 i ∧ Hid ((p.take i).all (isPlace j) = true) ∧ Below W1.heap.size W1 wr) (fun v _ => m - (intOf v).toNat)
                      case atStart => exact ⟨0, by omega, rfl, hid (by simp), Below.refl _ _⟩
                      case round =>
                        obtain ⟨i, hi', rfl, ht2, hb3⟩ := hrel
                        have HB3 := hid (HB.out.trans (hb3.mono HB.out.size))
                        have HB4 := hid hb3
                        have e0 := (hb3.cell (lt_of_cell b0)).trans b0
                        have e1 := (hb3.cell (lt_of_cell b1)).trans b1
                        have e2 := (hb3.cell (lt_of_cell b2)).trans b2
                        have e3 := (hb3.cell (lt_of_cell b3)).trans b3
                        have e4 := (hb3.cell (lt_of_cell b4)).trans b4
                        clear hb3
                        by_cases hlt3 : i < m
                        · obtain ⟨a3, rfl, hci⟩ := HC2.out i hlt3
                          have hci2 := (HB3.out.cell (lt_of_cell hci)).trans hci
                          have HX : Hid (p[i]? = some (p.getD i 0)) := hid (getD_at (by rw [HL2.out]; exact hlt3))
                          generalize p.getD i 0 = y at *
                          clear hci
                          have hlt4 : (i : Int) < (m : Int) := by omega
                          by_cases y1 : y < 0
                          · have HF := hid (F6.out (all_false_of HX.out (inB_false (by omega))))
                            go_wp2
                            go_quiet (fail)
                            go_wp2
                            go_ret
                            exact ⟨ret_bool HF.out.symm, HB3.out.trans (below_drewN (Below.refl _ _) _)⟩
                          · by_cases y2 : (j : Int) ≤ y
                            · have HF := hid (F6.out (all_false_of HX.out (inB_false (by omega))))
                              go_wp2
                              go_quiet (fail)
                              go_wp2
                              go_ret
                              exact ⟨ret_bool HF.out.symm, HB3.out.trans (below_drewN (Below.refl _ _) _)⟩
                            · have HP : Hid (isPlace j y = true) := hid (inB_true (by omega))
                              go_wp2
                              go_quiet (fail)
                              go_wp2
                              go_roundw
                              case rel => exact ⟨i + 1, by omega, by simp, hid (by rw [List.take_add_one, HX.out, List.all_append, ht2.out]; simp [HP.out]), HB4.out.trans (below_drewN (Below.refl _ _) _)⟩
                              case measure => simp [intOf]; omega
                        · obtain rfl : i = m := by omega
                          have HF := hid (TR.out (by omega) (by omega) (by omega) HALL.out HZ.out (by rw [← ht2.out, ← HL2.out, List.take_length]))
                          go_wp2
                          go_ret
                          exact ⟨ret_bool HF.out.symm, HB3.out⟩

end Go.Proofs.YtannndpamhgknaaGreatDoor.Gr
