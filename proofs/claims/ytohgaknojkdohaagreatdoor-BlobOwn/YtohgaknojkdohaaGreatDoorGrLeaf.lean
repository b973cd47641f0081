/- What the small functions of package gram answer of one rule: each of its parts held against its bounds, and whether the rule is right. -/
import Derived.Test.YtohgaknojkdohaaGreatDoorProg
import Derived.Test.YtohgaknojkdohaaGreatDoorGrMath
import Derived.WalkKit
import Derived.WalkSpells
import Derived.WalkSmall
import Derived.WalkMore
import Derived.Deep.QuietTactic
import Derived.BigQuiet
namespace Go.Proofs.YtohgaknojkdohaaGreatDoor.Gr
open Go.RowKit

theorem hid {p : Prop} (h : p) : Hid p := h
theorem ret_int {k : IntKind} {a b : Int} (h : a = b) : Ending.returned (.int k a) = .returned (.int k b) := by rw [h]
theorem ret_bool {a b : Bool} (h : a = b) : Ending.returned (.bool a) = .returned (.bool b) := by rw [h]
theorem up_trans {w w1 w2 : World} (h : Below w.heap.size w w1) (k : Below w1.heap.size w1 w2) : Below w.heap.size w w2 := h.trans (k.mono h.size)
theorem up_alloc (w : World) (o : Obj) : Below w.heap.size w (w.alloc o) := (Below.refl _ _).alloc (Nat.le_refl _) o
theorem lt_of_cell {w : World} {a : Addr} {v : Value} (h : w.cell? a = some v) : a.block < w.heap.size := by
  by_cases hb : a.block < w.heap.size
  · exact hb
  · simp [World.cell?, Array.getElem?_eq_none (by omega : w.heap.size ≤ a.block)] at h

theorem getD_at {xs : List Int} {j : Nat} (h : j < xs.length) : xs[j]? = some (xs.getD j 0) := by
  rw [List.getD_eq_getElem?_getD, List.getElem?_eq_getElem h]; rfl

/-- The table of how many places each Op asks for, as it was laid. -/
def Tab (w : World) : Prop := ∀ k : Nat, k < 16 → w.cell? ⟨0, k * 2, none⟩ = some (.int .i64 (lows.getD k 0)) ∧ w.cell? ⟨0, k * 2 + 1, none⟩ = some (.int .i64 (highs.getD k 0))
theorem Tab.on {w w' : World} (h : Tab w) (hb : Below w.heap.size w w') : Tab w' := by
  intro k hk
  have h0 := lt_of_cell (h k hk).1
  exact ⟨(hb.cell h0).trans (h k hk).1, (hb.cell (lt_of_cell (h k hk).2)).trans (h k hk).2⟩

/-- A slice of numbers: its value and what it holds. -/
def Row (w : World) (v : Value) (xs : List Int) : Prop :=
  ∃ (ad : Option Addr) (cap : Nat), v = .slice ad xs.length cap ∧ xs.length ≤ maxLen ∧ ∀ j, j < xs.length → ∃ a, ad = some a ∧ w.cell? (a.add j) = some (.int .i64 (xs.getD j 0))
theorem Row.on {w w' : World} {v : Value} {xs : List Int} (h : Row w v xs) (hb : Below w.heap.size w w') : Row w' v xs := by
  obtain ⟨ad, cap, h1, h0, h2⟩ := h
  refine ⟨ad, cap, h1, h0, fun j hj => ?_⟩
  obtain ⟨a, h3, h4⟩ := h2 j hj
  exact ⟨a, h3, (hb.cell (lt_of_cell h4)).trans h4⟩

theorem within_any (n a b : Int) (w : World) : Calls Tryz.prog 152 #[.int .i64 n, .int .i64 a, .int .i64 b] w fun e w' => e = .returned (.bool (inB n a b)) ∧ w' = w := by
  by_cases h1 : a ≤ n
  · by_cases h2 : n ≤ b
    · rw [inB_true (And.intro h1 h2)]
      go_enter Tryz.func152, Tryz.ntmps152
      go_wp2
      go_ret
      exact ⟨rfl, rfl⟩
    · rw [inB_false (fun h => h2 h.2)]
      go_enter Tryz.func152, Tryz.ntmps152
      go_wp2
      go_ret
      exact ⟨rfl, rfl⟩
  · rw [inB_false (fun h => h1 h.1)]
    go_enter Tryz.func152, Tryz.ntmps152
    go_wp2
    go_ret
    exact ⟨rfl, rfl⟩

theorem isSymbol_any (n : Int) (w : World) : Calls Tryz.prog 139 #[.int .i64 n] w fun e w' => e = .returned (.bool (isSym n)) ∧ w' = w := by
  have H := hid (within_any n 0 19 w)
  go_enter Tryz.func139, Tryz.ntmps139
  go_wp2_with fail
  refine H.out.mono ?_
  rintro e w1 ⟨rfl, rfl⟩
  go_wp2
  go_ret
  exact ⟨rfl, rfl⟩

theorem isPart_any (n : Int) (w : World) : Calls Tryz.prog 154 #[.int .i64 n] w fun e w' => e = .returned (.bool (isPart n)) ∧ w' = w := by
  have H := hid (isSymbol_any n w)
  have H2 := hid (within_any n (-61) (-1) w)
  by_cases h : 0 ≤ n ∧ n ≤ 19
  · have e1 : isSym n = true := inB_true h
    have e2 : isPart n = true := inB_true (by omega)
    rw [e1] at H
    rw [e2]
    clear e1 e2
    go_enter Tryz.func154, Tryz.ntmps154
    go_wp2_with fail
    refine H.out.mono ?_
    rintro e w1 ⟨rfl, rfl⟩
    go_wp2
    go_ret
    exact ⟨rfl, rfl⟩
  · have e1 : isSym n = false := inB_false h
    have e2 : isPart n = inB n (-61) (-1) := inB_congr (by omega)
    rw [e1] at H
    rw [e2]
    clear e1 e2
    generalize inB n (-61) (-1) = q at *
    go_enter Tryz.func154, Tryz.ntmps154
    go_wp2_with fail
    refine H.out.mono ?_
    rintro e w1 ⟨rfl, rfl⟩
    go_wp2_with fail
    refine H2.out.mono ?_
    rintro e w1 ⟨rfl, rfl⟩
    go_wp2
    go_ret
    exact ⟨rfl, rfl⟩

/-- A rule's value: its five cells. -/
def ruleV (r : Rule) (sv pv : Value) : Value := .agg #[.int .i64 r.lhs, sv, .int .i64 r.op, pv, .int .i64 r.cost]

theorem isPlace_any (a b d : Int) (ad : Option Addr) (m cap : Nat) (hm : m ≤ maxLen) (pv : Value) (n : Int) (w : World) : Calls Tryz.prog 155 #[.agg #[.int .i64 a, .slice ad m cap, .int .i64 b, pv, .int .i64 d], .int .i64 n] w fun e w' => e = .returned (.bool (isPlace m n)) ∧ Below w.heap.size w w' := by
  have H := hid (fun w => within_any n 0 ((m : Int) - 1) w)
  unfold maxLen at hm
  go_enter Tryz.func155, Tryz.ntmps155
  go_wp2_with fail
  refine (H.out _).mono ?_
  rintro e w1 ⟨rfl, rfl⟩
  go_wp2
  go_ret
  exact ⟨rfl, up_alloc _ _⟩

theorem all_isPart (xs : List Int) (v : Value) (w : World) (h : Row w v xs) : Calls Tryz.prog 153 #[v, .func (.func 154) #[] #[]] w fun e w' => e = .returned (.bool (xs.all isPart)) ∧ Below w.heap.size w w' := by
  obtain ⟨ad, cap, rfl, hmx, hc⟩ := h
  have HC := hid hc
  have HP := hid (fun n w => isPart_any n w)
  have HM := hid hmx
  unfold maxLen at hmx
  clear hc
  generalize hlen : xs.length = n at *
  have HL := hid hlen
  clear hlen
  go_enter Tryz.func153, Tryz.ntmps153
  go_wp2
  go_loopw [9] (fun v wr => ∃ j : Nat, j ≤ n ∧ v = .int .i64 j ∧ Hid ((xs.take j).all isPart = true) ∧ Below w.heap.size w wr) (fun v _ => n - (intOf v).toNat)
  case atStart => exact ⟨0, by omega, rfl, hid (by simp), Below.refl _ _⟩
  case round =>
    obtain ⟨j, hj, rfl, ht, hb⟩ := hrel
    by_cases hlt : j < n
    · obtain ⟨a, rfl, hcj⟩ := HC.out j hlt
      have hcj2 := (hb.cell (lt_of_cell hcj)).trans hcj
      have HX : Hid (xs[j]? = some (xs.getD j 0)) := hid (getD_at (by rw [HL.out]; exact hlt))
      generalize xs.getD j 0 = y at *
      have HB := hid hb
      clear hb hcj
      have hlt2 : (j : Int) < (n : Int) := by omega
      go_wp2_with fail
      refine (HP.out y _).mono ?_
      rintro e w1 ⟨rfl, rfl⟩
      cases hp : isPart y with
      | true =>
        go_wp2
        go_roundw
        case rel => exact ⟨j + 1, by omega, by simp, hid (by rw [List.take_add_one, HX.out, List.all_append, ht.out]; simp [hp]), HB.out⟩
        case measure => simp [intOf]; omega
      | false =>
        go_wp2
        go_ret
        refine ⟨ret_bool ?_, HB.out⟩
        refine (Bool.eq_false_iff.2 fun hh => ?_).symm
        have := List.all_eq_true.1 hh y (List.mem_of_getElem? HX.out)
        rw [hp] at this
        cases this
    · obtain rfl : j = n := by omega
      have HB := hid hb
      clear hb
      go_wp2
      go_ret
      refine ⟨ret_bool ?_, HB.out⟩
      rw [← ht.out, ← HL.out, List.take_length]

theorem all_isPlace (a b d : Int) (ad' : Option Addr) (m cap' : Nat) (hm : m ≤ maxLen) (pv : Value) (xs : List Int) (v : Value) (w : World) (h : Row w v xs) : Calls Tryz.prog 153 #[v, .func (.func 155) #[.agg #[.int .i64 a, .slice ad' m cap', .int .i64 b, pv, .int .i64 d]] #[]] w fun e w' => e = .returned (.bool (xs.all (isPlace m))) ∧ Below w.heap.size w w' := by
  obtain ⟨ad, cap, rfl, hmx, hc⟩ := h
  have HC := hid hc
  have HP := hid (fun n w => isPlace_any a b d ad' m cap' hm pv n w)
  have HM := hid hmx
  unfold maxLen at hmx
  clear hc
  generalize hlen : xs.length = n at *
  have HL := hid hlen
  clear hlen
  go_enter Tryz.func153, Tryz.ntmps153
  go_wp2
  go_loopw [9] (fun v wr => ∃ j : Nat, j ≤ n ∧ v = .int .i64 j ∧ Hid ((xs.take j).all (isPlace m) = true) ∧ Below w.heap.size w wr) (fun v _ => n - (intOf v).toNat)
  case atStart => exact ⟨0, by omega, rfl, hid (by simp), Below.refl _ _⟩
  case round =>
    obtain ⟨j, hj, rfl, ht, hb⟩ := hrel
    by_cases hlt : j < n
    · obtain ⟨a, rfl, hcj⟩ := HC.out j hlt
      have hcj2 := (hb.cell (lt_of_cell hcj)).trans hcj
      have HX : Hid (xs[j]? = some (xs.getD j 0)) := hid (getD_at (by rw [HL.out]; exact hlt))
      generalize xs.getD j 0 = y at *
      have HB := hid hb
      clear hb hcj
      have hlt2 : (j : Int) < (n : Int) := by omega
      go_wp2_with fail
      refine (HP.out y _).mono ?_
      rintro e w1 ⟨rfl, bel⟩
      cases hp : (isPlace m) y with
      | true =>
        go_wp2
        go_roundw
        case rel => exact ⟨j + 1, by omega, by simp, hid (by rw [List.take_add_one, HX.out, List.all_append, ht.out]; simp [hp]), up_trans HB.out bel⟩
        case measure => simp [intOf]; omega
      | false =>
        go_wp2
        go_ret
        refine ⟨ret_bool ?_, up_trans HB.out bel⟩
        refine (Bool.eq_false_iff.2 fun hh => ?_).symm
        have := List.all_eq_true.1 hh y (List.mem_of_getElem? HX.out)
        rw [hp] at this
        cases this
    · obtain rfl : j = n := by omega
      have HB := hid hb
      clear hb
      go_wp2
      go_ret
      refine ⟨ret_bool ?_, HB.out⟩
      rw [← ht.out, ← HL.out, List.take_length]

end Go.Proofs.YtohgaknojkdohaaGreatDoor.Gr
