/- Right of package gram answers what the document says of a rule, whatever its numbers are. -/
import Derived.Test.YtohgaknojkdohaaGreatDoorGrLeaf
namespace Go.Proofs.YtohgaknojkdohaaGreatDoor.Gr
open Go.RowKit

theorem cell_of_row (w : World) (g o : Nat) (cs : Array Value) (t : TypeId) (fr : Nat × Nat) (h : w.heap[g]? = some (.cells cs t fr)) : w.cell? ⟨g, o, none⟩ = cs[o]? := by
  simp [World.cell?, h]
theorem row_new (w : World) (o : Obj) : (w.alloc o).heap[w.heap.size]? = some o := by
  show (w.heap.push o)[w.heap.size]? = some o
  simp
theorem new_cell (w : World) (cs : Array Value) (t : TypeId) (k : Nat) : (w.alloc (.cells cs t)).cell? ⟨w.heap.size, k, none⟩ = cs[k]? := cell_of_row _ _ _ _ _ _ (row_new w _)

/-- A rule's value, and the rule that it is. -/
def RuleAt (w : World) (v : Value) (r : Rule) : Prop := ∃ sv pv, v = ruleV r sv pv ∧ Row w sv r.rhs ∧ Row w pv r.p
theorem RuleAt.on {w w' : World} {v : Value} {r : Rule} (h : RuleAt w v r) (hb : Below w.heap.size w w') : RuleAt w' v r := by
  obtain ⟨sv, pv, h1, h2, h3⟩ := h
  exact ⟨sv, pv, h1, h2.on hb, h3.on hb⟩

theorem hasRhs_any (r : Rule) (v : Value) (w : World) (h : RuleAt w v r) : Calls Tryz.prog 140 #[v] w fun e w' => e = .returned (.bool (rhsOk r)) ∧ Below w.heap.size w w' := by
  obtain ⟨sv, pv, rfl, hs, _⟩ := h
  obtain ⟨lhs, rhs, op, p, cost⟩ := r
  unfold ruleV rhsOk
  dsimp only at *
  have HW := hid (fun w => within_any rhs.length 1 6 w)
  have HA := hid (fun w (h : Row w sv rhs) => all_isPart rhs sv w h)
  have HS := hid hs
  obtain ⟨ad, cap, rfl, hmx, _⟩ := hs
  unfold maxLen at hmx
  cases hq : inB rhs.length 1 6 with
  | false =>
    rw [hq] at HW
    rw [Bool.false_and]
    clear hq
    go_enter Tryz.func140, Tryz.ntmps140
    go_wp2_with fail
    refine (HW.out _).mono ?_
    rintro e w1 ⟨rfl, rfl⟩
    go_wp2
    go_ret
    exact ⟨rfl, up_alloc _ _⟩
  | true =>
    rw [hq] at HW
    rw [Bool.true_and]
    clear hq
    go_enter Tryz.func140, Tryz.ntmps140
    go_wp2_with fail
    refine (HW.out _).mono ?_
    rintro e w1 ⟨rfl, rfl⟩
    go_wp2_with fail
    refine (HA.out _ (HS.out.on (up_alloc _ _))).mono ?_
    rintro e w1 ⟨rfl, bel⟩
    have HL := hid (up_trans (up_alloc _ _) bel)
    clear bel
    go_wp2
    go_ret
    exact ⟨rfl, HL.out⟩

theorem hasCost_any (r : Rule) (v : Value) (w : World) (h : RuleAt w v r) : Calls Tryz.prog 141 #[v] w fun e w' => e = .returned (.bool (inB r.cost 0 100)) ∧ Below w.heap.size w w' := by
  obtain ⟨sv, pv, rfl, hs, hp⟩ := h
  obtain ⟨lhs, rhs, op, p, cost⟩ := r
  unfold ruleV
  dsimp only at *
  have HW := hid (fun w => within_any cost 0 100 w)
  obtain ⟨ad, cap, rfl, _, _⟩ := hs
  obtain ⟨ad2, cap2, rfl, _, _⟩ := hp
  go_enter Tryz.func141, Tryz.ntmps141
  go_wp2_with fail
  refine (HW.out _).mono ?_
  rintro e w1 ⟨rfl, rfl⟩
  go_wp2
  go_ret
  exact ⟨rfl, up_alloc _ _⟩

theorem hasAct_any (r : Rule) (v : Value) (w : World) (h : RuleAt w v r) (hT : Tab w) : Calls Tryz.prog 142 #[v] w fun e w' => e = .returned (.bool (actOk r)) ∧ Below w.heap.size w w' := by
  obtain ⟨sv, pv, rfl, hs, hp⟩ := h
  obtain ⟨lhs, rhs, op, p, cost⟩ := r
  unfold ruleV actOk
  dsimp only at *
  have HW := hid (fun w => within_any op 0 15 w)
  have HP := hid hp
  obtain ⟨ad, cap, rfl, hmx, _⟩ := hs
  obtain ⟨ad2, cap2, rfl, hmx2, _⟩ := hp
  by_cases hop : 0 ≤ op ∧ op ≤ 15
  · rw [inB_true hop, Bool.true_and]
    rw [inB_true hop] at HW
    obtain ⟨k, rfl⟩ : ∃ k : Nat, op = (k : Int) := ⟨op.toNat, by omega⟩
    have hk : k < 16 := by omega
    clear hop
    have t1 := (hT k hk).1
    have t2 := (hT k hk).2
    have h0 := lt_of_cell t1
    unfold asked
    rw [Int.toNat_natCast]
    generalize lows.getD k 0 = lo at *
    generalize highs.getD k 0 = hi at *
    have HV := hid (fun w => within_any p.length lo hi w)
    have HA := hid (fun w h => all_isPlace lhs k cost ad rhs.length cap hmx (.slice ad2 p.length cap2) p (.slice ad2 p.length cap2) w h)
    unfold maxLen at hmx hmx2
    cases hq : inB p.length lo hi with
    | false =>
      rw [hq] at HV
      rw [Bool.false_and]
      clear hq
      go_enter Tryz.func142, Tryz.ntmps142
      go_wp2_with fail
      refine (HW.out _).mono ?_
      rintro e w1 ⟨rfl, rfl⟩
      go_wp2_with fail
      refine (HV.out _).mono ?_
      rintro e w1 ⟨rfl, rfl⟩
      go_wp2
      go_ret
      exact ⟨rfl, up_trans (up_alloc _ _) (up_alloc _ _)⟩
    | true =>
      rw [hq] at HV
      rw [Bool.true_and]
      clear hq
      go_enter Tryz.func142, Tryz.ntmps142
      go_wp2_with fail
      refine (HW.out _).mono ?_
      rintro e w1 ⟨rfl, rfl⟩
      go_wp2_with fail
      refine (HV.out _).mono ?_
      rintro e w1 ⟨rfl, rfl⟩
      go_wp2_with fail
      refine (HA.out _ (HP.out.on (up_trans (up_alloc _ _) (up_alloc _ _)))).mono ?_
      rintro e w1 ⟨rfl, bel⟩
      have HL := hid (up_trans (up_trans (up_alloc _ _) (up_alloc _ _)) bel)
      clear bel
      go_wp2
      go_ret
      exact ⟨rfl, HL.out⟩
  · rw [inB_false hop, Bool.false_and]
    rw [inB_false hop] at HW
    unfold maxLen at hmx hmx2
    clear hop
    go_enter Tryz.func142, Tryz.ntmps142
    go_wp2_with fail
    refine (HW.out _).mono ?_
    rintro e w1 ⟨rfl, rfl⟩
    go_wp2
    go_ret
    exact ⟨rfl, up_alloc _ _⟩

theorem right_any (r : Rule) (v : Value) (w : World) (h : RuleAt w v r) (hT : Tab w) : Calls Tryz.prog 115 #[v] w fun e w' => e = .returned (.bool (right r)) ∧ Below w.heap.size w w' := by
  have HR := hid h
  have HT := hid hT
  clear hT
  obtain ⟨sv, pv, rfl, hs, hp⟩ := h
  obtain ⟨lhs, rhs, op, p, cost⟩ := r
  obtain ⟨ad, cap, rfl, hmx, _⟩ := hs
  obtain ⟨ad2, cap2, rfl, hmx2, _⟩ := hp
  unfold maxLen at hmx hmx2
  have H1 := hid (fun w => isSymbol_any lhs w)
  have H2 := hid (fun w h => hasRhs_any ⟨lhs, rhs, op, p, cost⟩ (.agg #[.int .i64 lhs, .slice ad rhs.length cap, .int .i64 op, .slice ad2 p.length cap2, .int .i64 cost]) w h)
  have H3 := hid (fun w h => hasCost_any ⟨lhs, rhs, op, p, cost⟩ (.agg #[.int .i64 lhs, .slice ad rhs.length cap, .int .i64 op, .slice ad2 p.length cap2, .int .i64 cost]) w h)
  have H4 := hid (fun w h => hasAct_any ⟨lhs, rhs, op, p, cost⟩ (.agg #[.int .i64 lhs, .slice ad rhs.length cap, .int .i64 op, .slice ad2 p.length cap2, .int .i64 cost]) w h)
  unfold right
  unfold ruleV at *
  dsimp only at *
  generalize rhsOk ⟨lhs, rhs, op, p, cost⟩ = q2 at *
  generalize inB cost 0 100 = q3 at *
  generalize actOk ⟨lhs, rhs, op, p, cost⟩ = q4 at *
  generalize isSym lhs = q1 at *
  have HU : Hid (Below w.heap.size w ((w.alloc (.cells #[.int .i64 lhs, .slice ad rhs.length cap, .int .i64 op, .slice ad2 p.length cap2, .int .i64 cost] 56)).alloc (.cells #[.int .i64 lhs, .slice ad rhs.length cap, .int .i64 op, .slice ad2 p.length cap2, .int .i64 cost] 171))) := hid (up_trans (up_alloc _ _) (up_alloc _ _))
  cases q1 with
  | false =>
    simp only [Bool.false_and]
    go_enter Tryz.func115, Tryz.ntmps115
    go_wp2_with fail
    refine (H1.out _).mono ?_
    rintro e w1 ⟨rfl, rfl⟩
    go_wp2
    go_ret
    exact ⟨rfl, HU.out⟩
  | true =>
    simp only [Bool.true_and]
    cases q2 with
    | false =>
      simp only [Bool.false_and]
      go_enter Tryz.func115, Tryz.ntmps115
      go_wp2_with fail
      refine (H1.out _).mono ?_
      rintro e w1 ⟨rfl, rfl⟩
      go_wp2_with fail
      refine (H2.out _ (HR.out.on HU.out)).mono ?_
      rintro e w2 ⟨rfl, bel⟩
      have HU2 := hid (up_trans HU.out bel)
      clear bel
      go_wp2
      go_ret
      exact ⟨rfl, HU2.out⟩
    | true =>
      simp only [Bool.true_and]
      cases q3 with
      | false =>
        simp only [Bool.false_and]
        go_enter Tryz.func115, Tryz.ntmps115
        go_wp2_with fail
        refine (H1.out _).mono ?_
        rintro e w1 ⟨rfl, rfl⟩
        go_wp2_with fail
        refine (H2.out _ (HR.out.on HU.out)).mono ?_
        rintro e w2 ⟨rfl, bel⟩
        have HU2 := hid (up_trans HU.out bel)
        have d2_0 : w2.cell? ⟨w.heap.size + 1, 0, none⟩ = some (Value.int .i64 lhs) := (bel.cell (p := ⟨w.heap.size + 1, 0, none⟩) (by simp)).trans (by rw [show w.heap.size + 1 = (w.alloc (.cells #[.int .i64 lhs, .slice ad rhs.length cap, .int .i64 op, .slice ad2 p.length cap2, .int .i64 cost] 56)).heap.size by simp, new_cell]; rfl)
        have d2_1 : w2.cell? ⟨w.heap.size + 1, 1, none⟩ = some (Value.slice ad rhs.length cap) := (bel.cell (p := ⟨w.heap.size + 1, 1, none⟩) (by simp)).trans (by rw [show w.heap.size + 1 = (w.alloc (.cells #[.int .i64 lhs, .slice ad rhs.length cap, .int .i64 op, .slice ad2 p.length cap2, .int .i64 cost] 56)).heap.size by simp, new_cell]; rfl)
        have d2_2 : w2.cell? ⟨w.heap.size + 1, 2, none⟩ = some (Value.int .i64 op) := (bel.cell (p := ⟨w.heap.size + 1, 2, none⟩) (by simp)).trans (by rw [show w.heap.size + 1 = (w.alloc (.cells #[.int .i64 lhs, .slice ad rhs.length cap, .int .i64 op, .slice ad2 p.length cap2, .int .i64 cost] 56)).heap.size by simp, new_cell]; rfl)
        have d2_3 : w2.cell? ⟨w.heap.size + 1, 3, none⟩ = some (Value.slice ad2 p.length cap2) := (bel.cell (p := ⟨w.heap.size + 1, 3, none⟩) (by simp)).trans (by rw [show w.heap.size + 1 = (w.alloc (.cells #[.int .i64 lhs, .slice ad rhs.length cap, .int .i64 op, .slice ad2 p.length cap2, .int .i64 cost] 56)).heap.size by simp, new_cell]; rfl)
        have d2_4 : w2.cell? ⟨w.heap.size + 1, 4, none⟩ = some (Value.int .i64 cost) := (bel.cell (p := ⟨w.heap.size + 1, 4, none⟩) (by simp)).trans (by rw [show w.heap.size + 1 = (w.alloc (.cells #[.int .i64 lhs, .slice ad rhs.length cap, .int .i64 op, .slice ad2 p.length cap2, .int .i64 cost] 56)).heap.size by simp, new_cell]; rfl)
        clear bel
        go_wp2_with fail
        refine (H3.out _ (HR.out.on HU2.out)).mono ?_
        rintro e w3 ⟨rfl, bel⟩
        have HU3 := hid (up_trans HU2.out bel)
        clear bel
        go_wp2
        go_ret
        exact ⟨rfl, HU3.out⟩
      | true =>
        simp only [Bool.true_and]
        go_enter Tryz.func115, Tryz.ntmps115
        go_wp2_with fail
        refine (H1.out _).mono ?_
        rintro e w1 ⟨rfl, rfl⟩
        go_wp2_with fail
        refine (H2.out _ (HR.out.on HU.out)).mono ?_
        rintro e w2 ⟨rfl, bel⟩
        have HU2 := hid (up_trans HU.out bel)
        have d2_0 : w2.cell? ⟨w.heap.size + 1, 0, none⟩ = some (Value.int .i64 lhs) := (bel.cell (p := ⟨w.heap.size + 1, 0, none⟩) (by simp)).trans (by rw [show w.heap.size + 1 = (w.alloc (.cells #[.int .i64 lhs, .slice ad rhs.length cap, .int .i64 op, .slice ad2 p.length cap2, .int .i64 cost] 56)).heap.size by simp, new_cell]; rfl)
        have d2_1 : w2.cell? ⟨w.heap.size + 1, 1, none⟩ = some (Value.slice ad rhs.length cap) := (bel.cell (p := ⟨w.heap.size + 1, 1, none⟩) (by simp)).trans (by rw [show w.heap.size + 1 = (w.alloc (.cells #[.int .i64 lhs, .slice ad rhs.length cap, .int .i64 op, .slice ad2 p.length cap2, .int .i64 cost] 56)).heap.size by simp, new_cell]; rfl)
        have d2_2 : w2.cell? ⟨w.heap.size + 1, 2, none⟩ = some (Value.int .i64 op) := (bel.cell (p := ⟨w.heap.size + 1, 2, none⟩) (by simp)).trans (by rw [show w.heap.size + 1 = (w.alloc (.cells #[.int .i64 lhs, .slice ad rhs.length cap, .int .i64 op, .slice ad2 p.length cap2, .int .i64 cost] 56)).heap.size by simp, new_cell]; rfl)
        have d2_3 : w2.cell? ⟨w.heap.size + 1, 3, none⟩ = some (Value.slice ad2 p.length cap2) := (bel.cell (p := ⟨w.heap.size + 1, 3, none⟩) (by simp)).trans (by rw [show w.heap.size + 1 = (w.alloc (.cells #[.int .i64 lhs, .slice ad rhs.length cap, .int .i64 op, .slice ad2 p.length cap2, .int .i64 cost] 56)).heap.size by simp, new_cell]; rfl)
        have d2_4 : w2.cell? ⟨w.heap.size + 1, 4, none⟩ = some (Value.int .i64 cost) := (bel.cell (p := ⟨w.heap.size + 1, 4, none⟩) (by simp)).trans (by rw [show w.heap.size + 1 = (w.alloc (.cells #[.int .i64 lhs, .slice ad rhs.length cap, .int .i64 op, .slice ad2 p.length cap2, .int .i64 cost] 56)).heap.size by simp, new_cell]; rfl)
        clear bel
        go_wp2_with fail
        refine (H3.out _ (HR.out.on HU2.out)).mono ?_
        rintro e w3 ⟨rfl, bel⟩
        have HU3 := hid (up_trans HU2.out bel)
        have d3_0 : w3.cell? ⟨w.heap.size + 1, 0, none⟩ = some (Value.int .i64 lhs) := (bel.cell (p := ⟨w.heap.size + 1, 0, none⟩) (lt_of_cell d2_0)).trans d2_0
        have d3_1 : w3.cell? ⟨w.heap.size + 1, 1, none⟩ = some (Value.slice ad rhs.length cap) := (bel.cell (p := ⟨w.heap.size + 1, 1, none⟩) (lt_of_cell d2_1)).trans d2_1
        have d3_2 : w3.cell? ⟨w.heap.size + 1, 2, none⟩ = some (Value.int .i64 op) := (bel.cell (p := ⟨w.heap.size + 1, 2, none⟩) (lt_of_cell d2_2)).trans d2_2
        have d3_3 : w3.cell? ⟨w.heap.size + 1, 3, none⟩ = some (Value.slice ad2 p.length cap2) := (bel.cell (p := ⟨w.heap.size + 1, 3, none⟩) (lt_of_cell d2_3)).trans d2_3
        have d3_4 : w3.cell? ⟨w.heap.size + 1, 4, none⟩ = some (Value.int .i64 cost) := (bel.cell (p := ⟨w.heap.size + 1, 4, none⟩) (lt_of_cell d2_4)).trans d2_4
        clear d2_0 d2_1 d2_2 d2_3 d2_4
        clear bel
        go_wp2_with fail
        refine (H4.out _ (HR.out.on HU3.out) (HT.out.on HU3.out)).mono ?_
        rintro e w4 ⟨rfl, bel⟩
        have HU4 := hid (up_trans HU3.out bel)
        clear bel
        go_wp2
        go_ret
        exact ⟨rfl, HU4.out⟩

end Go.Proofs.YtohgaknojkdohaaGreatDoor.Gr
