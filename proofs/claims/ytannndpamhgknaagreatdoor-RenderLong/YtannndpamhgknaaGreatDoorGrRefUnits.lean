/- The reference's Units answers what the document says of rules. -/
import Derived.Test.YtannndpamhgknaaGreatDoorGrRefPut
import Derived.Test.YtannndpamhgknaaGreatDoorGrGram
import Derived.Deep.RegionLaw
namespace Go.Proofs.YtannndpamhgknaaGreatDoor.Gr
open Go.RowKit

theorem units_none {rs : List Rule} {r : Rule} (hr : right r = true) (h : ¬ (r.rhs.length = 1 ∧ 0 ≤ r.rhs.getD 0 0)) (i : Nat) : unitsL (rs ++ [r]) i = unitsL rs i := symL_congr (fun j _ => by
  rw [edge_append]
  have h3 := right_rhs hr
  have : edge 1 [r] i j = false := by
    cases e : edge 1 [r] i j with
    | false => rfl
    | true =>
      simp only [edge, List.any_cons, List.any_nil, Bool.or_false, Bool.and_eq_true, decide_eq_true_eq, List.contains_iff_mem] at e
      match hq : r.rhs with
      | [] => rw [hq] at h3; simp at h3
      | [y] =>
        rw [hq] at h e
        simp at h e
        omega
      | a :: b :: c => rw [hq] at e; simp at e
  rw [this, Bool.or_false])
theorem units_one {rs : List Rule} {r : Rule} {y : Nat} (hy : r.rhs = [(y : Int)]) (i : Nat) : unitsL (rs ++ [r]) i = if r.lhs = (i : Int) then symL (addS (edge 1 rs i) y) else unitsL rs i := by
  by_cases h : r.lhs = (i : Int)
  · rw [if_pos h]
    refine symL_congr (fun j _ => ?_)
    rw [edge_append]
    unfold addS
    congr 1
    simp [edge, hy, h]
    omega
  · rw [if_neg h]
    refine symL_congr (fun j _ => ?_)
    rw [edge_append]
    simp [edge, h]

theorem units_get {w : World} {B g : Nat} {us : List Value} (ho : w.ownsRow B 25 1 (.slice (some ⟨g, 0, none⟩) 20 20) 20 us) {i : Nat} {u : Value} (h1 : us[i]? = some u) : w.cell? ⟨g, i, none⟩ = some u := by
  have hl : i < us.length := (List.getElem?_eq_some_iff.1 h1).1
  have := ho.1
  rw [ho.cellAt i (by omega)]; exact h1
/-- A round's store: the row of one symbol is laid anew. -/
theorem units_put {w w5 : World} {B G : Nat} {us : List Value} {f f' : Nat → List Int} {L : Nat} {u : Value} (ho : w.ownsRow B 25 1 (.slice (some ⟨G, 0, none⟩) 20 20) 20 us) (hall : ∀ i, i < 20 → ∃ u, us[i]? = some u ∧ RowNew w (G + 1) u (f i))
    (hb : Below w.heap.size w w5) (hu : RowNew w5 (G + 1) u (f' L)) (hL : L < 20) (hf : ∀ i, i < 20 → i ≠ L → f' i = f i) :
    (w5.setCell ⟨G, L, none⟩ u).ownsRow B 25 1 (.slice (some ⟨G, 0, none⟩) 20 20) 20 (us.set L u) ∧ (∀ i, i < 20 → ∃ x, (us.set L u)[i]? = some x ∧ RowNew (w5.setCell ⟨G, L, none⟩ u) (G + 1) x (f' i)) := by
  have h5 := owns_below ho hb
  obtain ⟨hst, hgr⟩ := h5.stored L u
  have hus : us.length = 20 := by have := ho.1; simpa using this
  have key : ∀ x xs, RowNew w5 (G + 1) x xs → RowNew (w5.setCell ⟨G, L, none⟩ u) (G + 1) x xs := fun x xs hx => hx.kept hgr (.inr (fun e => by have := (World.ownsRow.lt hx _ e).1; omega))
  refine ⟨hst, fun i hi => ?_⟩
  by_cases e : i = L
  · subst e
    exact ⟨u, List.getElem?_set_self (by omega), key _ _ hu⟩
  · obtain ⟨x, hx, hr⟩ := hall i hi
    exact ⟨x, by rw [List.getElem?_set_ne (by omega)]; exact hx, by rw [hf i hi e]; exact key _ _ (hr.on hb)⟩

set_option maxRecDepth 4000 in
set_option maxHeartbeats 4000000 in
theorem runits_any (rs : List Rule) (v : Value) (w : World) (h : RulesAt w v rs) (hr : rs.all right = true) : Calls Tryz.prog 109 #[v] w fun e w' => ∃ u, e = .returned u ∧ UnitsAt w' w.heap.size u (unitsL rs) ∧ Below w.heap.size w w' := by
  have HRR := hid (fun r (hm : r ∈ rs) => List.all_eq_true.1 hr r hm)
  have H := hid h
  obtain ⟨ad, cap, rfl, hmx, hc⟩ := h
  have HC := hid hc
  clear hc hr
  generalize hlen : rs.length = n at *
  have HL := hid hlen
  clear hlen
  obtain ⟨i0, hi, hz0, hz1, hz2⟩ := info_parts info_slice
  go_enter Tryz.func109, Tryz.ntmps109
  go_wp2_with (at_make; refine wpList_make_full _ rfl _ _ 145 rfl w.heap.size 25 i0 (.slice none 0 0) 1 Tryz.underlying145 hi hz0 hz1 .i64 .i64 20 20 20 rfl rfl rfl rfl (by rw [hz2]; decide) (by decide) (Nat.le_refl _) ?_; intro w3 hown hgr; have HO := hid hown; have HL3 := hid (show Below w.heap.size w w3 from ⟨hgr.os, hgr.tape, hgr.output, hgr.size, fun k hk => hgr.block k hk (by simp)⟩); clear hown hgr)
  go_loopw [4] (fun v wr => ∃ (j : Nat) (us : List Value), j ≤ n ∧ v = .int .i64 j ∧ wr.ownsRow w.heap.size 25 1 (.slice (some ⟨w.heap.size, 0, none⟩) 20 20) 20 us ∧ Hid (∀ i, i < 20 → ∃ u, us[i]? = some u ∧ RowNew wr (w.heap.size + 1) u (unitsL (rs.take j) i)) ∧ Below w.heap.size w wr) (fun v _ => n - (intOf v).toNat)
  case atStart =>
    refine ⟨0, _, by omega, rfl, HO.out, hid (fun i hi => ⟨.slice none 0 0, ?_, ?_⟩), HL3.out⟩
    · show (madeCells #[.slice none 0 0] 20).toList[i]? = _
      rw [toList_madeCells_one, List.getElem?_replicate, if_pos hi]
    · have : unitsL (rs.take 0) i = [] := by
        have : unitsL (rs.take 0) i = symL (fun _ => false) := symL_congr (fun j _ => by simp [edge])
        rw [this]; rfl
      rw [this]
      exact RowNew.nil _ _
  case round =>
    obtain ⟨j, us, hj, rfl, hown, hall, hb⟩ := hrel
    by_cases hlt : j < n
    · obtain ⟨g, o, rfl, hcj⟩ := HC.out j hlt
      have HX : Hid (rs[j]? = some (rs.getD j nilRule)) := hid (rule_at (by rw [HL.out]; exact hlt))
      generalize rs.getD j nilRule = r at *
      have HR := hid (HRR.out r (List.mem_of_getElem? HX.out))
      have HOLD := hid hcj
      obtain ⟨sv, pv, c0, c1, c2, c3, c4, h5, h6⟩ := hcj.on hb
      have H5 := hid h5
      obtain ⟨ads, caps, hsv, hms, hcs⟩ := h5
      obtain ⟨adp, capp, hpv, hmp, _⟩ := h6
      subst hsv hpv
      have HO2 := hid hown
      have HB := hid hb
      have hlt2 : (j : Int) < (n : Int) := by omega
      have HS := hid hcs
      clear hown hb hcj hcs
      obtain ⟨lhs, rhs, op, p, cost⟩ := r
      have hlhs := right_lhs HR.out
      dsimp only at *
      by_cases hone : rhs.length = 1
      · obtain ⟨y, rfl⟩ : ∃ y, rhs = [y] := by
          match rhs, hone with
          | [y], _ => exact ⟨y, rfl⟩
        obtain ⟨a, rfl, hy⟩ := HS.out 0 (by simp)
        have HAB : Hid (w.heap.size ≠ a.block) := hid (by
          obtain ⟨sv', pv', _, d1, _, _, _, ⟨ad', cap', e', _, d5⟩, _⟩ := HOLD.out
          have e2 := ((HB.out.cell (lt_of_cell d1)).trans d1).symm.trans c1
          simp only [Option.some.injEq] at e2
          rw [e'] at e2
          simp only [Value.slice.injEq] at e2
          obtain ⟨a', e3, e4⟩ := d5 0 (by simp)
          rw [e2.1] at e3
          obtain rfl := Option.some.inj e3
          have := lt_of_cell e4
          simp [Addr.add] at this
          omega)
        rw [show a.add 0 = a by simp [Addr.add]] at hy
        have hyW : ∀ o, (wr.alloc o).cell? a = some (.int .i64 y) := fun o => ((up_alloc wr o).cell (lt_of_cell hy)).trans hy
        clear hone hy
        by_cases hy0 : 0 ≤ y
        · obtain ⟨m, rfl⟩ : ∃ m : Nat, y = (m : Int) := ⟨y.toNat, by omega⟩
          obtain ⟨L, rfl⟩ : ∃ L : Nat, lhs = (L : Int) := ⟨lhs.toNat, by omega⟩
          have hL20 : L < 20 := by omega
          have hm20 : m < 20 := by
            have := right_part HR.out (x := (m : Int)) (by simp)
            omega
          obtain ⟨ul, hul, hrl⟩ := hall.out L hL20
          have cul := units_get HO2.out hul
          have hG : w.heap.size < wr.heap.size := lt_of_cell cul
          have hgw : w.heap.size ≤ wr.heap.size := by omega
          have fr : wr.frozen? ⟨w.heap.size, L, none⟩ = false := HO2.out.frozenAt L
          obtain ⟨adu, capu, eul⟩ := hrl.shape
          subst eul
          have HRL := hid hrl
          have hLL : ((L : Int) : Int) < 20 := by omega
          clear hrl
          generalize hlu : (unitsL (List.take j rs) L).length = lu at *
          have HLU := hid hlu
          clear hlu
          go_wp2_with fail
          have HNE : Hid (w.heap.size ≠ wr.heap.size ∧ w.heap.size ≠ wr.heap.size ∧ w.heap.size ≠ a.block) := hid ⟨by omega, by omega, by
            exact HAB.out⟩
          obtain ⟨W1, hW1⟩ : ∃ W1, W1 = wr.alloc (.cells #[.int .i64 (L : Int), .slice (some a) 1 caps, .int .i64 op, .slice adp p.length capp, .int .i64 cost] 120) := ⟨_, rfl⟩
          have hb1 : Below wr.heap.size wr W1 := by rw [hW1]; exact up_alloc _ _
          have HB1 := hid hb1
          have y0 : W1.drew.cell? ⟨wr.heap.size, 0, none⟩ = some (.int .i64 (L : Int)) ∧ W1.drew.cell? ⟨wr.heap.size, 1, none⟩ = some (.slice (some a) 1 caps) ∧ W1.drew.cell? a = some (.int .i64 (m : Int)) := by
            rw [hW1]
            exact ⟨by show (wr.alloc _).cell? _ = _; rw [new_cell]; rfl, by show (wr.alloc _).cell? _ = _; rw [new_cell]; rfl, hyW _⟩
          have cl : W1.drew.cell? ⟨w.heap.size, L, none⟩ = some (.slice adu lu capu) := (hb1.cell (lt_of_cell cul)).trans cul
          have fl : Hid (W1.drew.frozen? ⟨w.heap.size, L, none⟩ = false) := hid ((hb1.frozen hG).trans fr)
          have HPUT := hid (put_any (edge 1 (rs.take j) L) m hm20 (.slice adu lu capu) W1.drew (w.heap.size + 1) (by have := hb1.size; show _ ≤ W1.heap.size; omega) ((HRL.out.on hb1).on ((Below.refl _ _).drew)))
          clear hb1 hyW cul fr hG
          rw [← hW1]
          clear hW1
          obtain ⟨y1, y2, y3⟩ := y0
          go_region_law (first | (go_simp; go_at_call 124; refine HPUT.out.mono ?_; rintro e w5 ⟨u, rfl, hu, b5⟩; have f5 : w5.frozen? ⟨w.heap.size, L, none⟩ = false := (b5.frozen (lt_of_cell cl)).trans fl.out; have c5 := (b5.cell (lt_of_cell cl)).trans cl; have z1 := (b5.cell (lt_of_cell y1)).trans y1; have HU := hid hu; have HB5 : Hid (Below wr.heap.size wr w5) := hid (HB1.out.trans (((Below.refl _ _).drew.trans b5).mono HB1.out.size)); obtain ⟨ad5, cap5, e5⟩ := hu.shape; subst e5; clear hu b5))
          all_goals
            go_wp2
            go_roundw
            · have hrs : rs.take (j + 1) = rs.take j ++ [⟨(L : Int), [(m : Int)], op, p, cost⟩] := by rw [List.take_add_one, HX.out]; rfl
              have hone := fun i => units_one (rs := rs.take j) (r := ⟨(L : Int), [(m : Int)], op, p, cost⟩) (y := m) rfl i
              have hx := units_put (f' := unitsL (rs.take (j + 1))) (L := L) HO2.out hall.out HB5.out (u := .slice ad5 _ cap5) (by rw [hrs, hone L, if_pos rfl]; exact HU.out) hL20 (fun i hi hne => by rw [hrs, hone i, if_neg (by show ¬ ((L : Int) = (i : Int)); omega)])
              exact ⟨j + 1, _, by omega, by simp, hx.1, hid hx.2, ((HB.out.trans (HB5.out.mono HB.out.size)).setCell (p := ⟨w.heap.size, L, none⟩) (Nat.le_refl _) _)⟩
            · simp [intOf]; omega
        · have HNO : Hid (¬ ([y].length = 1 ∧ 0 ≤ [y].getD 0 0)) := hid (by simp; omega)
          go_wp2
          go_roundw
          case rel =>
            refine ⟨j + 1, us, by omega, by simp, owns_below HO2.out (up_alloc _ _), hid (fun i hi => ?_), up_trans HB.out (up_alloc _ _)⟩
            obtain ⟨x, hx, hrx⟩ := hall.out i hi
            refine ⟨x, hx, ?_⟩
            rw [List.take_add_one, HX.out]
            exact (units_none HR.out HNO.out i).symm ▸ hrx.on (up_alloc _ _)
          case measure => simp [intOf]; omega
      · have h1 : ((rhs.length : Int) == 1) = false := by simp; omega
        have HNO : Hid (¬ (rhs.length = 1 ∧ 0 ≤ rhs.getD 0 0)) := hid (fun h => hone h.1)
        clear hone
        go_wp2
        go_roundw
        case rel =>
          refine ⟨j + 1, us, by omega, by simp, owns_below HO2.out (up_alloc _ _), hid (fun i hi => ?_), up_trans HB.out (up_alloc _ _)⟩
          obtain ⟨x, hx, hrx⟩ := hall.out i hi
          refine ⟨x, hx, ?_⟩
          rw [List.take_add_one, HX.out]
          exact (units_none HR.out HNO.out i).symm ▸ hrx.on (up_alloc _ _)
        case measure => simp [intOf]; omega
    · obtain rfl : j = n := by omega
      have HO2 := hid hown
      have HB := hid hb
      clear hown hb
      go_wp2
      go_ret
      exact ⟨_, rfl, ⟨_, us, rfl, HO2.out, fun i hi => by have := hall.out i hi; rwa [← HL.out, List.take_length] at this⟩, HB.out⟩

end Go.Proofs.YtannndpamhgknaaGreatDoor.Gr
