/- Rows of rules: what the program's 'all' answers of them. -/
import Derived.Test.YtohgaknojkdohaaGreatDoorGrRight
namespace Go.Proofs.YtohgaknojkdohaaGreatDoor.Gr
open Go.RowKit

/-- The five cells of one rule. -/
def RuleIn (w : World) (g o : Nat) (r : Rule) : Prop := ∃ sv pv, w.cell? ⟨g, o, none⟩ = some (.int .i64 r.lhs) ∧ w.cell? ⟨g, o + 1, none⟩ = some sv ∧ w.cell? ⟨g, o + 2, none⟩ = some (.int .i64 r.op)
  ∧ w.cell? ⟨g, o + 3, none⟩ = some pv ∧ w.cell? ⟨g, o + 4, none⟩ = some (.int .i64 r.cost) ∧ Row w sv r.rhs ∧ Row w pv r.p
theorem RuleIn.on {w w' : World} {g o : Nat} {r : Rule} (h : RuleIn w g o r) (hb : Below w.heap.size w w') : RuleIn w' g o r := by
  obtain ⟨sv, pv, h0, h1, h2, h3, h4, h5, h6⟩ := h
  exact ⟨sv, pv, (hb.cell (lt_of_cell h0)).trans h0, (hb.cell (lt_of_cell h1)).trans h1, (hb.cell (lt_of_cell h2)).trans h2, (hb.cell (lt_of_cell h3)).trans h3, (hb.cell (lt_of_cell h4)).trans h4, h5.on hb, h6.on hb⟩

def nilRule : Rule := ⟨0, [], 0, [], 0⟩
/-- A slice of rules: its value and the rules that it holds. -/
def RulesAt (w : World) (v : Value) (rs : List Rule) : Prop :=
  ∃ (ad : Option Addr) (cap : Nat), v = .slice ad rs.length cap ∧ rs.length ≤ 1000000 ∧ ∀ j, j < rs.length → ∃ g o, ad = some ⟨g, o, none⟩ ∧ RuleIn w g (o + j * 5) (rs.getD j nilRule)
theorem RulesAt.on {w w' : World} {v : Value} {rs : List Rule} (h : RulesAt w v rs) (hb : Below w.heap.size w w') : RulesAt w' v rs := by
  obtain ⟨ad, cap, h1, h0, h2⟩ := h
  refine ⟨ad, cap, h1, h0, fun j hj => ?_⟩
  obtain ⟨g, o, h3, h4⟩ := h2 j hj
  exact ⟨g, o, h3, h4.on hb⟩
theorem rule_at {rs : List Rule} {j : Nat} (h : j < rs.length) : rs[j]? = some (rs.getD j nilRule) := by
  rw [List.getD_eq_getElem?_getD, List.getElem?_eq_getElem h]; rfl

theorem all_right (rs : List Rule) (v : Value) (w : World) (h : RulesAt w v rs) (hT : Tab w) : Calls Tryz.prog 114 #[v, .func (.func 115) #[] #[]] w fun e w' => e = .returned (.bool (rs.all right)) ∧ Below w.heap.size w w' := by
  obtain ⟨ad, cap, rfl, hmx, hc⟩ := h
  have HC := hid hc
  have HT := hid hT
  have HP := hid right_any
  clear hc hT
  generalize hlen : rs.length = n at *
  have HL := hid hlen
  clear hlen
  go_enter Tryz.func114, Tryz.ntmps114
  go_wp2
  go_loopw [9] (fun v wr => ∃ j : Nat, j ≤ n ∧ v = .int .i64 j ∧ Hid ((rs.take j).all right = true) ∧ Below w.heap.size w wr) (fun v _ => n - (intOf v).toNat)
  case atStart => exact ⟨0, by omega, rfl, hid (by simp), Below.refl _ _⟩
  case round =>
    obtain ⟨j, hj, rfl, ht, hb⟩ := hrel
    by_cases hlt : j < n
    · obtain ⟨g, o, rfl, hcj⟩ := HC.out j hlt
      have HX : Hid (rs[j]? = some (rs.getD j nilRule)) := hid (rule_at (by rw [HL.out]; exact hlt))
      generalize rs.getD j nilRule = r at *
      have hcj2 := hcj.on hb
      obtain ⟨sv, pv, c0, c1, c2, c3, c4, h5, h6⟩ := hcj2
      have HR : Hid (RuleAt wr (ruleV r sv pv) r) := hid ⟨sv, pv, rfl, h5, h6⟩
      obtain ⟨lhs, rhs, op, p, cost⟩ := r
      dsimp only at *
      obtain ⟨ads, caps, rfl, hms, _⟩ := h5
      obtain ⟨adp, capp, rfl, hmp, _⟩ := h6
      have HB := hid hb
      clear hb hcj
      have hlt2 : (j : Int) < (n : Int) := by omega
      go_wp2_with fail
      refine (HP.out _ _ _ (HR.out.on (up_alloc _ _)) (HT.out.on (up_trans HB.out (up_alloc _ _)))).mono ?_
      rintro e w1 ⟨rfl, bel⟩
      have HB2 := hid (up_trans HB.out (up_trans (up_alloc _ _) bel))
      clear bel
      cases hp : right ⟨lhs, rhs, op, p, cost⟩ with
      | true =>
        go_wp2
        go_roundw
        case rel => exact ⟨j + 1, by omega, by simp, hid (by rw [List.take_add_one, HX.out, List.all_append, ht.out]; simp [hp]), HB2.out⟩
        case measure => simp [intOf]; omega
      | false =>
        go_wp2
        go_ret
        refine ⟨ret_bool ?_, HB2.out⟩
        refine (Bool.eq_false_iff.2 fun hh => ?_).symm
        have := List.all_eq_true.1 hh _ (List.mem_of_getElem? HX.out)
        rw [hp] at this
        cases this
    · obtain rfl : j = n := by omega
      have HB := hid hb
      clear hb
      go_wp2
      go_ret
      refine ⟨ret_bool ?_, HB.out⟩
      rw [← ht.out, ← HL.out, List.take_length]

end Go.Proofs.YtohgaknojkdohaaGreatDoor.Gr
