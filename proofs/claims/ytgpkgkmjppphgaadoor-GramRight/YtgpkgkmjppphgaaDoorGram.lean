/- Check, Units and Reached of package gram answer what the document says of rules. -/
import Derived.Test.YtgpkgkmjppphgaaDoorBehindW
namespace Go.Proofs.YtgpkgkmjppphgaaDoor
open Go.RowKit Go.Maps

theorem circles_any (B g : Nat) (G : Nat → Option Nat) (E : Nat → Nat → Bool) (w : World) (h : GraphAt w B g G E) (hE : ∀ x y, E x y = true → x < 20 ∧ y < 20) (k : Nat) (hk : k < 20) :
    Calls Tryd.prog 38 #[.map (some g), .int .i64 (k : Int)] w fun e w' => e = .returned (.bool (reachS E k k)) ∧ Below w.heap.size w w' := by
  have HB := hid (behind_any B g G E w h hE k hk)
  have HH := hid (fun c w1 h => has_any c (reachS E k) k hk w1 h)
  clear h hE
  go_enter Tryd.func38, Tryd.ntmps38
  go_wp2_with fail
  refine HB.out.mono ?_
  rintro e w1 ⟨c, rfl, hc, hs, bel⟩
  have HS := hid hs
  have HL := hid bel
  clear hs bel
  go_wp2_with fail
  refine (HH.out c w1 HS.out).mono ?_
  rintro e w2 ⟨rfl, o, rfl⟩
  have HL2 := hid (up_trans HL.out (up_alloc w1 o))
  go_wp2
  go_ret
  exact ⟨rfl, HL2.out⟩

theorem index_circles (B g : Nat) (G : Nat → Option Nat) (E : Nat → Nat → Bool) (s : Nat → Bool) (v : Value) (w : World) (h : GraphAt w B g G E) (hE : ∀ x y, E x y = true → x < 20 ∧ y < 20) (hv : Row w v (symL s)) :
    Calls Tryd.prog 48 #[v, .func (.func 38) #[.map (some g)] #[]] w fun e w' => ∃ i : Int, e = .returned (.int .i64 i) ∧ (0 ≤ i ↔ ∃ k, k < 20 ∧ s k = true ∧ reachS E k k = true) ∧ Below w.heap.size w w' := by
  obtain ⟨ad, cap, rfl, hmx, hc⟩ := hv
  have HC := hid hc
  have H := hid h
  have HP := hid (fun w1 h k hk => circles_any B g G E w1 h hE k hk)
  have hl20 := symL_length s
  clear hc h hmx
  generalize hlen : (symL s).length = n at *
  have HL := hid hlen
  clear hlen
  go_enter Tryd.func48, Tryd.ntmps48
  go_wp2
  go_loopw [8] (fun v wr => ∃ j : Nat, j ≤ n ∧ v = .int .i64 j ∧ Hid (∀ i y, i < j → (symL s)[i]? = some y → reachS E y.toNat y.toNat = false) ∧ Below w.heap.size w wr) (fun v _ => n - (intOf v).toNat)
  case atStart => exact ⟨0, by omega, rfl, hid (fun i y hi => absurd hi (Nat.not_lt_zero _)), Below.refl _ _⟩
  case round =>
    obtain ⟨j, hj, rfl, ht, hb⟩ := hrel
    by_cases hlt : j < n
    · obtain ⟨a, rfl, hcj⟩ := HC.out j hlt
      have hcj2 := (hb.cell (lt_of_cell hcj)).trans hcj
      have HX : Hid ((symL s)[j]? = some ((symL s).getD j 0)) := hid (getD_at (by rw [HL.out]; exact hlt))
      obtain ⟨m, hm, hsm, hmy⟩ := mem_symL.1 (List.mem_of_getElem? HX.out)
      rw [hmy] at HX hcj2
      have HSM : Hid (s m = true) := hid hsm
      have HB := hid hb
      have HPP := hid (HP.out wr (H.out.on hb) m hm)
      clear hb hcj hmy hsm
      have hlt2 : (j : Int) < (n : Int) := by omega
      cases hp : reachS E m m with
      | false =>
        rw [hp] at HPP
        have HF : Hid (reachS E m m = false) := hid hp
        clear hp
        go_wp2_with fail
        refine HPP.out.mono ?_
        rintro e w1 ⟨rfl, bel⟩
        have HB2 := hid (up_trans HB.out bel)
        clear bel
        go_wp2
        go_roundw
        case rel =>
          refine ⟨j + 1, by omega, by simp, hid (fun i y hi hy => ?_), HB2.out⟩
          by_cases e : i = j
          · subst e
            obtain rfl := Option.some.inj (HX.out.symm.trans hy)
            simpa using HF.out
          · exact ht.out i y (by omega) hy
        case measure => simp [intOf]; omega
      | true =>
        rw [hp] at HPP
        have HF : Hid (reachS E m m = true) := hid hp
        clear hp
        go_wp2_with fail
        refine HPP.out.mono ?_
        rintro e w1 ⟨rfl, bel⟩
        have HB2 := hid (up_trans HB.out bel)
        clear bel
        go_wp2
        go_ret
        exact ⟨_, rfl, ⟨fun _ => ⟨m, hm, HSM.out, HF.out⟩, fun _ => by omega⟩, HB2.out⟩
    · obtain rfl : j = n := by omega
      have HB := hid hb
      clear hb
      go_wp2
      go_ret
      refine ⟨_, rfl, ⟨fun h => by omega, fun ⟨k, hk, hs, hr⟩ => ?_⟩, HB.out⟩
      obtain ⟨i, hi⟩ := List.getElem?_of_mem (mem_symL.2 ⟨k, hk, hs, rfl⟩)
      have := ht.out i (k : Int) (by rw [← HL.out]; exact (List.getElem?_eq_some_iff.1 hi).1) hi
      simp [hr] at this

theorem contains_circles (B g : Nat) (G : Nat → Option Nat) (E : Nat → Nat → Bool) (s : Nat → Bool) (v : Value) (w : World) (h : GraphAt w B g G E) (hE : ∀ x y, E x y = true → x < 20 ∧ y < 20) (hv : Row w v (symL s)) (q : Bool) (hq : q = true ↔ ∃ k, k < 20 ∧ s k = true ∧ reachS E k k = true) :
    Calls Tryd.prog 36 #[v, .func (.func 38) #[.map (some g)] #[]] w fun e w' => e = .returned (.bool q) ∧ Below w.heap.size w w' := by
  have HI := hid (index_circles B g G E s v w h hE hv)
  have HQ := hid hq
  clear h hE hq
  obtain ⟨ad, cap, rfl, _, _⟩ := hv
  go_enter Tryd.func36, Tryd.ntmps36
  go_wp2_with fail
  refine HI.out.mono ?_
  rintro e w1 ⟨i, rfl, hi, bel⟩
  have HL := hid bel
  have HH := hid (hi.trans HQ.out.symm)
  clear bel hi
  by_cases h0 : 0 ≤ i
  · obtain rfl : q = true := HH.out.1 h0
    go_wp2
    go_ret
    exact ⟨rfl, HL.out⟩
  · obtain rfl : q = false := by
      cases q with
      | false => rfl
      | true => exact absurd (HH.out.2 rfl) h0
    go_wp2
    go_ret
    exact ⟨ret_bool (decide_eq_false (by omega)), HL.out⟩

theorem Reach.first {E : Nat → Nat → Bool} {f j : Nat} (h : Reach E f j) : ∃ y, E f y = true := h (fun _ => ∃ y, E f y = true) (fun y e => ⟨y, e⟩) (fun _ _ h _ => h)

open Classical in
theorem check_any (rs : List Rule) (v : Value) (w : World) (h : RulesAt w v rs) (hT : Tab w) : Calls Tryd.prog 21 #[v] w fun e w' => e = .returned (.bool (check rs)) ∧ Below w.heap.size w w' := by
  have HA := hid (all_right rs v w h hT)
  have H := hid h
  obtain ⟨ad, cap, rfl, hmx, _⟩ := h
  clear hT
  by_cases h60 : rs.length ≤ 60
  · have e1 : ¬ (60 < (rs.length : Int)) := by omega
    cases hr : rs.all right with
    | false =>
      rw [hr] at HA
      have HC : Hid (check rs = false) := hid (by simp [check, hr])
      rw [HC.out]
      clear hr HC
      go_enter Tryd.func21, Tryd.ntmps21
      go_wp2_with fail
      refine HA.out.mono ?_
      rintro e w1 ⟨rfl, bel⟩
      have HL := hid bel
      clear bel
      go_wp2
      go_ret
      exact ⟨rfl, HL.out⟩
    | true =>
      rw [hr] at HA
      have hE := fun x y => edge_lt (L := 1) hr x y
      have HE := hid hE
      have HD := hid (fun w1 h => draw_any rs (.slice ad rs.length cap) 1 w1 h hr)
      obtain ⟨q, hq⟩ : ∃ q : Bool, q = !(check rs) := ⟨_, rfl⟩
      have hq2 : q = true ↔ ∃ k, Reach (edge 1 rs) k k := by
        rw [hq, check_eq, hr, decide_eq_true h60, Bool.true_and, Bool.true_and, Bool.not_eq_true', decide_eq_false_iff_not, noRound]
        exact Classical.not_forall_not
      rw [show check rs = !q by rw [hq]; simp]
      have HQ := hid hq2
      clear hq hr hq2 hE
      go_enter Tryd.func21, Tryd.ntmps21
      go_wp2_with fail
      refine HA.out.mono ?_
      rintro e w1 ⟨rfl, bel⟩
      have HL := hid bel
      clear bel
      go_wp2_with fail
      refine (HD.out w1 (H.out.on HL.out)).mono ?_
      rintro e w2 ⟨g, G, rfl, hg, bel⟩
      have HG := hid hg
      have HL2 := hid (up_trans HL.out bel)
      clear hg bel
      go_wp2_with fail
      refine (symbols_graph _ g G _ w2 HG.out).mono ?_
      rintro e w3 ⟨u, rfl, hrow, bel⟩
      have HL3 := hid (up_trans HL2.out bel)
      have HR := hid (hrow.row (by have := symL_length (fun k => (G k).isSome); unfold maxLen; omega))
      have HG3 := hid (HG.out.on bel)
      have hmf : ∀ w, (Instr.makeFunc (.func 38) #[.map (some g)] #[]).run Tryd.prog w = .ok (.func (.func 38) #[.map (some g)] #[]) w := fun _ => by kernel_rfl
      clear bel hrow
      go_wp2_with fail
      refine (contains_circles _ g G _ _ _ w3 HG3.out HE.out HR.out q (HQ.out.trans ?_)).mono ?_
      · constructor
        · rintro ⟨k, hk⟩
          obtain ⟨y, hy⟩ := hk.first
          have hlt := HE.out k y hy
          refine ⟨k, hlt.1, ?_, (reachS_iff (fun x y e => (HE.out x y e).1)).2 hk⟩
          cases hG : G k with
          | none => have := HG3.out.empty k hlt.1 hG y hlt.2; rw [hy] at this; cases this
          | some c => rfl
        · rintro ⟨k, _, _, hr⟩
          exact ⟨k, (reachS_iff (fun x y e => (HE.out x y e).1)).1 hr⟩
      · rintro e w4 ⟨rfl, bel⟩
        have HL4 := hid (up_trans HL3.out bel)
        clear bel
        go_wp2
        go_ret
        exact ⟨rfl, HL4.out⟩
  · have e1 : 60 < (rs.length : Int) := by omega
    have HC : Hid (check rs = false) := hid (by simp [check, h60])
    rw [HC.out]
    clear HC h60
    go_enter Tryd.func21, Tryd.ntmps21
    go_wp2
    go_ret
    exact ⟨rfl, Below.refl _ _⟩

theorem reached_any (rs : List Rule) (v : Value) (w : World) (h : RulesAt w v rs) (hT : Tab w) (hr : rs.all right = true) : Calls Tryd.prog 24 #[v] w fun e w' => ∃ u, e = .returned u ∧ RowNew w' w.heap.size u (reachedL rs) ∧ Below w.heap.size w w' := by
  have HA := hid (all_right rs v w h hT)
  have H := hid h
  rw [hr] at HA
  obtain ⟨ad, cap, rfl, hmx, _⟩ := h
  clear hT
  have hE := fun x y => edge_lt (L := 6) hr x y
  have HE := hid hE
  have HD := hid (fun w1 h => draw_any rs (.slice ad rs.length cap) 6 w1 h hr)
  have HRR := hid hr
  clear hr hE
  go_enter Tryd.func24, Tryd.ntmps24
  go_wp2_with fail
  refine HA.out.mono ?_
  rintro e w1 ⟨rfl, bel⟩
  have HL := hid bel
  clear bel
  go_wp2_with fail
  refine (HD.out w1 (H.out.on HL.out)).mono ?_
  rintro e w2 ⟨g, G, rfl, hg, bel⟩
  have HG := hid hg
  have HL2 := hid (up_trans HL.out bel)
  clear hg bel
  go_wp2_with fail
  refine (behind_any _ g G _ w2 HG.out HE.out 0 (by decide)).mono ?_
  rintro e w3 ⟨c, rfl, hc, hs, bel⟩
  have HS := hid hs
  have HL3 := hid (up_trans HL2.out bel)
  have HC : Hid (w.heap.size ≤ c) := hid (Nat.le_trans HL2.out.size hc)
  clear hs bel hc
  go_wp2_with fail
  refine (add_any c _ 0 (by decide) w3 HS.out).mono ?_
  rintro e w4 ⟨rfl, hs, hg⟩
  have HS4 := hid hs
  have HL4 := hid (HL3.out.grown hg HL3.out.size (fun x e => by cases e; exact HC.out))
  clear hs hg
  go_wp2_with fail
  refine (rising_set c _ w4 HS4.out).mono ?_
  rintro e w5 ⟨u, rfl, hrow, bel⟩
  have HL5 := hid (up_trans HL4.out bel)
  have e6 : symL (fun j => reachS (edge 6 rs) 0 j || decide (j = 0)) = reachedL rs := symL_congr (fun j _ => by
    rw [Bool.eq_iff_iff, reachedS_iff HRR.out, Bool.or_eq_true, reachS_iff (fun x y e => (HE.out x y e).1), decide_eq_true_eq, or_comm])
  rw [e6] at hrow
  have HR := hid (ownsRow_base_a hrow HL4.out.size)
  clear hrow bel e6
  go_wp2
  go_ret
  exact ⟨_, rfl, HR.out, HL5.out⟩

/-- Twenty rows of numbers, in a row that the call itself made. -/
def UnitsAt (w : World) (B : Nat) (v : Value) (f : Nat → List Int) : Prop :=
  ∃ (g : Nat) (us : List Value), v = .slice (some ⟨g, 0, none⟩) 20 20 ∧ w.ownsRow B 22 1 v 20 us ∧ ∀ i, i < 20 → ∃ u, us[i]? = some u ∧ RowNew w (g + 1) u (f i)
theorem info_slice : (Tryd.prog.info? 22).map (fun i => (i.zero, i.size, i.bytes)) = some (some (.slice none 0 0), 1, 24) := by kernel_rfl

theorem units_any (rs : List Rule) (v : Value) (w : World) (h : RulesAt w v rs) (hT : Tab w) (hr : rs.all right = true) : Calls Tryd.prog 19 #[v] w fun e w' => ∃ u, e = .returned u ∧ UnitsAt w' w.heap.size u (unitsL rs) ∧ Below w.heap.size w w' := by
  have HA := hid (all_right rs v w h hT)
  have H := hid h
  rw [hr] at HA
  obtain ⟨ad, cap, rfl, hmx, _⟩ := h
  clear hT
  have HD := hid (fun w1 h => draw_any rs (.slice ad rs.length cap) 1 w1 h hr)
  clear hr
  obtain ⟨i0, hi, hz0, hz1, hz2⟩ := info_parts info_slice
  go_enter Tryd.func19, Tryd.ntmps19
  go_wp2_with fail
  refine HA.out.mono ?_
  rintro e w1 ⟨rfl, bel⟩
  have HL := hid bel
  clear bel
  go_wp2_with fail
  refine (HD.out w1 (H.out.on HL.out)).mono ?_
  rintro e w2 ⟨g, G, rfl, hg, bel⟩
  have HG := hid hg
  have HL2 := hid (up_trans HL.out bel)
  have hsz2 : w.heap.size ≤ w2.heap.size := HL2.out.size
  clear hg bel
  go_wp2_with (at_make; refine wpList_make_full _ rfl _ _ 37 rfl w.heap.size 22 i0 (.slice none 0 0) 1 Tryd.underlying37 hi hz0 hz1 .i64 .i64 20 20 20 rfl rfl rfl rfl (by rw [hz2]; decide) (by decide) hsz2 ?_; intro w3 hown hgr; have HO := hid hown; have HL3 := hid (show Below w2.heap.size w2 w3 from ⟨hgr.os, hgr.tape, hgr.output, hgr.size, fun k hk => hgr.block k hk (by simp)⟩); clear hown hgr)
  go_loopw [14] (fun v wr => ∃ (j : Nat) (us : List Value), j ≤ 20 ∧ v = .int .i64 j ∧ wr.ownsRow w.heap.size 22 1 (.slice (some ⟨w2.heap.size, 0, none⟩) 20 20) 20 us ∧ Hid (∀ i, i < j → ∃ u, us[i]? = some u ∧ RowNew wr (w2.heap.size + 1) u (unitsL rs i)) ∧ Below w2.heap.size w2 wr) (fun v _ => 20 - (intOf v).toNat)
  case atStart => exact ⟨0, _, by omega, rfl, HO.out, hid (fun i hi => absurd hi (Nat.not_lt_zero _)), HL3.out⟩
  case round =>
    obtain ⟨j, us, hj, rfl, hown, hall, hb⟩ := hrel
    by_cases hlt : j < 20
    · have hlk := (HG.out.on hb).look hlt
      have HR := hid (rising_at _ g G _ w2 wr HG.out hb j hlt)
      have HO2 := hid hown
      have HB := hid hb
      have hlt2 : (j : Int) < 20 := by omega
      have hgw : w2.heap.size < wr.heap.size := (World.ownsRow.lt hown w2.heap.size rfl).2
      generalize G j = gj at *
      clear hown hb
      go_wp2_with fail
      refine HR.out.mono ?_
      rintro e w4 ⟨u, rfl, hrow, bel⟩
      have hown4 := owns_below HO2.out bel
      have hus : us.length = 20 := by have := HO2.out.1; simpa using this
      have hc4 : w4.cell? ⟨w2.heap.size, j, none⟩ = some (us.getD j undef) := by
        rw [hown4.cellAt j (by omega)]
        have : j < us.length := by omega
        rw [List.getD_eq_getElem?_getD, List.getElem?_eq_getElem this]; rfl
      have hf4 : w4.frozen? ⟨w2.heap.size, j, none⟩ = false := hown4.frozenAt j
      have HO4 := hid hown4
      have HROW := hid hrow
      have HBB := hid bel
      have HUS := hid hus
      generalize us.getD j undef = old at *
      obtain ⟨adu, capu, hu⟩ := hrow.shape
      subst hu
      clear hrow bel hown4 hus
      go_wp2
      go_roundw
      case rel =>
        obtain ⟨hst, hgr⟩ := HO4.out.stored j (.slice adu (symL (edge 1 rs j)).length capu)
        refine ⟨j + 1, _, by omega, by simp, hst, hid (fun i hi => ?_), ?_⟩
        · by_cases e : i = j
          · subst e
            refine ⟨_, List.getElem?_set_self (by rw [HUS.out]; exact hlt), ?_⟩
            refine RowNew.kept (ownsRow_base_a HROW.out (by omega)) hgr (.inr (fun e => ?_))
            have := (World.ownsRow.lt HROW.out _ e).1
            omega
          · obtain ⟨x, hx, hrx⟩ := hall.out i (by omega)
            refine ⟨x, by rw [List.getElem?_set_ne (by omega)]; exact hx, ?_⟩
            refine (hrx.on HBB.out).kept hgr (.inr (fun e => ?_))
            have := (World.ownsRow.lt hrx _ e).1
            omega
        · exact ((HB.out.trans (HBB.out.mono HB.out.size)).grown hgr (by have := HB.out.size; have := HBB.out.size; omega) (fun x e => by cases e; exact Nat.le_refl _))
      case measure => simp [intOf]; omega
    · obtain rfl : j = 20 := by omega
      have HO2 := hid hown
      have HB := hid (HL2.out.trans (hb.mono HL2.out.size))
      clear hown hb
      go_wp2
      go_ret
      exact ⟨_, rfl, ⟨_, us, rfl, HO2.out, fun i hi => hall.out i hi⟩, HB.out⟩

end Go.Proofs.YtgpkgkmjppphgaaDoor
