/- The reference's Check answers what the document says of rules: the closure of units, cell by cell. -/
import Derived.Test.YtannndpamhgknaaGreatDoorGrRefUnits
import Derived.Test.YtannndpamhgknaaGreatDoorGrRefR
namespace Go.Proofs.YtannndpamhgknaaGreatDoor.Gr
open Go.RowKit

/-- A block of twenty rows of twenty bools. -/
def MatAt (w : World) (G : Nat) (T : Nat → Nat → Bool) : Prop := ∃ cur : Array Value, w.heap[G]? = some (.cells cur 149 (0, 0)) ∧ cur.size = 400 ∧ ∀ i j, i < 20 → j < 20 → cur[i * 20 + j]? = some (.bool (T i j))
theorem MatAt.cell {w : World} {G : Nat} {T : Nat → Nat → Bool} (h : MatAt w G T) {i j : Nat} (hi : i < 20) (hj : j < 20) : w.cell? ⟨G, i * 20 + j, none⟩ = some (.bool (T i j)) := by
  obtain ⟨cur, h1, h2, h3⟩ := h
  rw [cell_of_row _ _ _ _ _ _ h1, h3 i j hi hj]
theorem MatAt.frozen {w : World} {G : Nat} {T : Nat → Nat → Bool} (h : MatAt w G T) (k : Nat) : w.frozen? ⟨G, k, none⟩ = false := by
  obtain ⟨cur, h1, h2, h3⟩ := h
  simp [World.frozen?, h1]
theorem MatAt.congr {w : World} {G : Nat} {T T' : Nat → Nat → Bool} (h : MatAt w G T) (e : ∀ i j, i < 20 → j < 20 → T i j = T' i j) : MatAt w G T' := by
  obtain ⟨cur, h1, h2, h3⟩ := h
  exact ⟨cur, h1, h2, fun i j hi hj => by rw [← e i j hi hj]; exact h3 i j hi hj⟩
theorem MatAt.drew {w : World} {G : Nat} {T : Nat → Nat → Bool} (h : MatAt w G T) : MatAt w.drew G T := h
theorem MatAt.set {w : World} {G : Nat} {T : Nat → Nat → Bool} (h : MatAt w G T) {i j : Nat} (hi : i < 20) (hj : j < 20) (b : Bool) : MatAt (w.setCell ⟨G, i * 20 + j, none⟩ (.bool b)) G (fun x y => if x = i ∧ y = j then b else T x y) := by
  obtain ⟨cur, h1, h2, h3⟩ := h
  refine ⟨_, heap_setCell_same w G (i * 20 + j) cur _ (.bool b) h1, by simpa using h2, fun x y hx hy => ?_⟩
  rw [Array.getElem?_setIfInBounds]
  by_cases e : x = i ∧ y = j
  · obtain ⟨rfl, rfl⟩ := e
    simp [h2]
    omega
  · rw [if_neg (by omega)]
    dsimp only
    rw [if_neg e]
    exact h3 x y hx hy
theorem zeros : Tryz.zeroCells149 = Array.replicate 400 (.bool false) := by kernel_rfl
theorem mat_new (w : World) : MatAt (w.alloc (.cells Tryz.zeroCells149 149)) w.heap.size (fun _ _ => false) := by
  refine ⟨_, row_new w _, by rw [zeros]; simp, fun i j hi hj => ?_⟩
  rw [zeros, Array.getElem?_replicate, if_pos (by omega)]

/-- The cells as they are filled: rows below i0 are whole, of row i0 the first k0 units are in. -/
def fillT (rs : List Rule) (i0 k0 i j : Nat) : Bool := if i < i0 then edge 1 rs i j else if i = i0 then decide ((j : Int) ∈ (unitsL rs i0).take k0) else false
theorem fill_begin (rs : List Rule) (i j : Nat) : false = fillT rs 0 0 i j := by
  unfold fillT
  rw [if_neg (by omega)]
  split
  · simp
  · rfl
theorem fill_end (rs : List Rule) (i j : Nat) (hi : i < 20) : fillT rs 20 0 i j = edge 1 rs i j := by
  unfold fillT
  rw [if_pos hi]
theorem fill_row (rs : List Rule) (i0 k : Nat) (hk : k = (unitsL rs i0).length) (i j : Nat) (hj : j < 20) : fillT rs i0 k i j = fillT rs (i0 + 1) 0 i j := by
  unfold fillT
  by_cases h : i < i0
  · rw [if_pos h, if_pos (by omega)]
  · rw [if_neg h]
    by_cases e : i = i0
    · subst e
      rw [if_pos rfl, if_pos (by omega), hk, List.take_length]
      rw [Bool.eq_iff_iff, decide_eq_true_eq]
      unfold unitsL
      rw [mem_symL]
      constructor
      · rintro ⟨q, _, hq, e⟩
        have : q = j := by omega
        exact this ▸ hq
      · intro h; exact ⟨j, hj, h, rfl⟩
    · rw [if_neg e, if_neg (by omega)]
      split
      · simp
      · rfl
theorem fill_step (rs : List Rule) (i0 k m : Nat) (hm : (unitsL rs i0)[k]? = some (m : Int)) (i j : Nat) : (if i = i0 ∧ j = m then true else fillT rs i0 k i j) = fillT rs i0 (k + 1) i j := by
  unfold fillT
  by_cases h : i < i0
  · rw [if_pos h, if_pos h, if_neg (by omega)]
  · rw [if_neg h, if_neg h]
    by_cases e : i = i0
    · subst e
      rw [if_pos rfl, if_pos rfl, List.take_add_one, hm]
      by_cases e2 : j = m
      · subst e2
        simp
      · have : ¬ ((j : Int) = (m : Int)) := by omega
        simp [e2]
        omega
    · rw [if_neg e, if_neg e, if_neg (by omega)]

set_option maxRecDepth 4000 in
set_option maxHeartbeats 8000000 in
theorem rcheck_any (rs : List Rule) (v : Value) (w : World) (h : RulesAt w v rs) : Calls Tryz.prog 76 #[v] w fun e w' => e = .returned (.bool (check rs)) ∧ Below w.heap.size w w' := by
  have H := hid h
  have HP := hid rright_any
  obtain ⟨ad, cap, rfl, hmx, hc⟩ := h
  have HC := hid hc
  clear hc
  generalize hlen : rs.length = n at *
  have HL := hid hlen
  clear hlen
  by_cases h60 : n ≤ 60
  · have e1 : ¬ (60 < (n : Int)) := by omega
    go_enter Tryz.func76, Tryz.ntmps76
    go_wp2
    go_loopw [3] (fun v wr => ∃ j : Nat, j ≤ n ∧ v = .int .i64 j ∧ Hid ((rs.take j).all right = true) ∧ Below w.heap.size w wr) (fun v _ => n - (intOf v).toNat)
    case atStart => exact ⟨0, by omega, rfl, hid (by simp), Below.refl _ _⟩
    case round =>
      obtain ⟨j, hj, rfl, ht, hb⟩ := hrel
      by_cases hlt : j < n
      · obtain ⟨g, o, rfl, hcj⟩ := HC.out j hlt
        have HX : Hid (rs[j]? = some (rs.getD j nilRule)) := hid (rule_at (by rw [HL.out]; exact hlt))
        generalize rs.getD j nilRule = r at *
        have hcj2 := hcj.on hb
        obtain ⟨sv, pv, c0, c1, c2, c3, c4, h5, h6⟩ := hcj2
        have HR : Hid (RuleAt wr (ruleV r sv pv) r) := hid ⟨sv, pv, rfl, h5, h6⟩
        obtain ⟨lhs, rhs, op, p, cost⟩ := r
        dsimp only at *
        obtain ⟨ads, caps, rfl, hms, _⟩ := h5
        obtain ⟨adp, capp, rfl, hmp, _⟩ := h6
        have HB := hid hb
        clear hb hcj
        have hlt2 : (j : Int) < (n : Int) := by omega
        go_wp2_with fail
        refine (HP.out _ _ _ HR.out).mono ?_
        rintro e w1 ⟨rfl, bel⟩
        have HB2 := hid (up_trans HB.out bel)
        clear bel
        cases hp : right ⟨lhs, rhs, op, p, cost⟩ with
        | true =>
          go_wp2
          go_roundw
          case rel => exact ⟨j + 1, by omega, by simp, hid (by rw [List.take_add_one, HX.out, List.all_append, ht.out]; simp [hp]), HB2.out⟩
          case measure => simp [intOf]; omega
        | false =>
          have HF : Hid (check rs = false) := hid (by
            have : rs.all right = false := Bool.eq_false_iff.2 fun hh => by
              have := List.all_eq_true.1 hh _ (List.mem_of_getElem? HX.out)
              rw [hp] at this
              cases this
            simp [check_eq, this])
          go_wp2
          go_ret
          exact ⟨ret_bool HF.out.symm, HB2.out⟩
      · obtain rfl : j = n := by omega
        have HRA : Hid (rs.all right = true) := hid (by rw [← ht.out, ← HL.out, List.take_length])
        have HB := hid hb
        clear hb
        go_wp2_with fail
        refine (runits_any rs _ wr (H.out.on HB.out) HRA.out).mono ?_
        rintro e w1 ⟨u, rfl, hu, bel⟩
        have HU := hid hu
        have HB1 := hid (up_trans HB.out bel)
        obtain ⟨gu, us, hue, ho, hall⟩ := hu
        subst hue
        have HO := hid ho
        have HALL := hid hall
        have HM0 := hid ((mat_new w1).congr (fun i j _ _ => fill_begin rs i j))
        have HB2 := hid (up_trans HB1.out (up_alloc w1 (.cells Tryz.zeroCells149 149)))
        obtain ⟨G, hG⟩ : ∃ G, G = w1.heap.size := ⟨_, rfl⟩
        obtain ⟨W2, hW2⟩ : ∃ W2, W2 = w1.alloc (.cells Tryz.zeroCells149 149) := ⟨_, rfl⟩
        have HGL : Hid (w.heap.size ≤ G ∧ G = w1.heap.size ∧ Below w1.heap.size w1 W2) := hid ⟨by rw [hG]; exact HB1.out.size, hG, by rw [hW2]; exact up_alloc _ _⟩
        rw [← hG, ← hW2] at HM0
        rw [← hW2] at HB2
        clear bel ho hall HU
        go_wp2
        rw [← hG, ← hW2]
        clear hG hW2
        obtain ⟨n, rfl⟩ : ∃ n, n = j := ⟨j, rfl⟩
        go_loopw [6] (fun v6 wr => ∃ i : Nat, i ≤ 20 ∧ v6 = .int .i64 i ∧ MatAt wr G (fillT rs i 0) ∧ Below G W2 wr) (fun v6 _ => 20 - (intOf v6).toNat)
        case atStart => exact ⟨0, by omega, rfl, HM0.out, Below.refl _ _⟩
        case round =>
          obtain ⟨i, hi20, rfl, hmat, hb⟩ := hrel
          by_cases hlt : i < 20
          · obtain ⟨uv, hus, hrow⟩ := HALL.out i hlt
            have xu := UnitsAt.cell HO.out hus
            have hL20 := symL_length (edge 1 rs i)
            obtain ⟨adu, capu, hsh⟩ := hrow.shape
            obtain ⟨L, hL⟩ : ∃ L, (unitsL rs i).length = L := ⟨_, rfl⟩
            rw [hL] at hsh
            have HLL := hid hL
            have hLb : L ≤ 20 := by rw [← hL]; exact hL20
            have HROW := hid hrow
            subst hsh
            have HXU := hid xu
            have hlt4 : (i : Int) < 20 := by omega
            have HM := hid hmat
            have HB3 := hid hb
            clear hb hus hrow hL hL20 hmat xu
            go_wp2
            go_loopw [7] (fun v7 wr => ∃ k : Nat, k ≤ L ∧ v7 = .int .i64 k ∧ MatAt wr G (fillT rs i k) ∧ Below G W2 wr) (fun v7 _ => L - (intOf v7).toNat)
            case atStart => exact ⟨0, by omega, rfl, HM.out, HB3.out⟩
            case round =>
              obtain ⟨k, hk, rfl, hmat, hb⟩ := hrel
              have HM4 := hid hmat
              have HB4 := hid hb
              have key : ∀ p v, w1.cell? p = some v → wr.cell? p = some v := fun p v e => by
                have h1 := (HGL.out.2.2.cell (lt_of_cell e)).trans e
                have := HGL.out.2.1
                exact (hb.cell (by rw [this]; exact lt_of_cell e)).trans h1
              have xu4 := key _ _ HXU.out
              by_cases hltk : k < L
              · obtain ⟨gr, capg, eg, hgr, hcells⟩ := HROW.out.at (by rw [HLL.out]; omega)
                simp only [Value.slice.injEq] at eg
                obtain ⟨eg1, -, -⟩ := eg
                subst eg1
                have xk := key _ _ (hcells k (by rw [HLL.out]; exact hltk)).1
                have HY : Hid ((unitsL rs i)[k]? = some ((unitsL rs i).getD k 0)) := hid (getD_at (by rw [HLL.out]; exact hltk))
                obtain ⟨m, hm20, -, hm⟩ := mem_symL.1 (List.mem_of_getElem? HY.out)
                rw [hm] at xk HY
                have xm := hmat.cell hlt hm20
                have fm := hmat.frozen (i * 20 + m)
                have hltk2 : (k : Int) < (L : Int) := by omega
                have hm2 : (m : Int) < 20 := by omega
                clear hb hcells hm key hmat
                go_wp2
                go_region
                go_wp2
                go_roundw
                case rel => exact ⟨k + 1, by omega, by simp, (HM4.out.drew.set hlt hm20 true).congr (fun x y _ _ => fill_step rs i k m HY.out x y), HB4.out.drew.setCell (p := ⟨G, i * 20 + m, none⟩) (Nat.le_refl _) _⟩
                case measure => simp [intOf]; omega
              · obtain rfl : k = L := by omega
                clear key hb hmat
                go_wp2
                go_roundw
                case rel => exact ⟨i + 1, by omega, by simp, HM4.out.congr (fun x y _ hy => fill_row rs i _ HLL.out.symm x y hy), HB4.out⟩
                case measure => simp [intOf]; omega
          · obtain rfl : i = 20 := by omega
            have HM := hid (hmat.congr (fun x y hx _ => fill_end rs x y hx))
            have HB3 := hid hb
            clear hb hmat
            go_wp2
            go_loopw [8] (fun v8 wr => ∃ k : Nat, k ≤ 20 ∧ v8 = .int .i64 k ∧ MatAt wr G (war (edge 1 rs) k) ∧ Below G W2 wr) (fun v8 _ => 20 - (intOf v8).toNat)
            case atStart => exact ⟨0, by omega, rfl, HM.out, HB3.out⟩
            case round =>
              obtain ⟨k, hk20, rfl, hmat, hb⟩ := hrel
              by_cases hltk : k < 20
              · have hltk2 : (k : Int) < 20 := by omega
                have HMk := hid (hmat.congr (fun x y _ _ => (wpart_begin (war (edge 1 rs) k) k x y).symm))
                have HBk := hid hb
                clear hmat hb
                generalize hT : war (edge 1 rs) k = T at *
                have HT := hid hT
                clear hT
                go_wp2
                go_loopw [9] (fun v9 wr => ∃ i : Nat, i ≤ 20 ∧ v9 = .int .i64 i ∧ MatAt wr G (wpart T k i 0) ∧ Below G W2 wr) (fun v9 _ => 20 - (intOf v9).toNat)
                case atStart => exact ⟨0, by omega, rfl, HMk.out, HBk.out⟩
                case round =>
                  obtain ⟨i, hi20, rfl, hmat, hb⟩ := hrel
                  by_cases hlti : i < 20
                  · have hlti2 : (i : Int) < 20 := by omega
                    have HMi := hid hmat
                    have HBi := hid hb
                    clear hmat hb
                    go_wp2
                    go_loopw [10] (fun v10 wr => ∃ j : Nat, j ≤ 20 ∧ v10 = .int .i64 j ∧ MatAt wr G (wpart T k i j) ∧ Below G W2 wr) (fun v10 _ => 20 - (intOf v10).toNat)
                    case atStart => exact ⟨0, by omega, rfl, HMi.out, HBi.out⟩
                    case round =>
                      obtain ⟨j, hj20, rfl, hmat, hb⟩ := hrel
                      by_cases hltj : j < 20
                      · have hltj2 : (j : Int) < 20 := by omega
                        have x1 := hmat.cell hlti hltj
                        have x2 := hmat.cell hlti hltk
                        have x3 := hmat.cell hltk hltj
                        rw [wpart_at] at x1
                        rw [wpart_col] at x2
                        rw [wpart_row] at x3
                        have fm := hmat.frozen (i * 20 + j)
                        have HMj := hid hmat
                        have HBj := hid hb
                        clear hmat hb
                        cases t1 : T i j with
                        | true =>
                          rw [t1] at x1
                          have HW : Hid (wstep T k i j = true) := hid (by simp [wstep, t1])
                          clear t1 x2 x3
                          go_wp2
                          go_region
                          go_wp2
                          go_roundw
                          case rel => exact ⟨j + 1, by omega, by simp, (HMj.out.drew.set hlti hltj true).congr (fun x y _ _ => by rw [wpart_succ]; by_cases e : x = i ∧ y = j <;> simp only [e, if_true, if_false, and_self] <;> first | exact HW.out.symm | rfl), HBj.out.drew.setCell (p := ⟨G, i * 20 + j, none⟩) (Nat.le_refl _) _⟩
                          case measure => simp [intOf]; omega
                        | false =>
                          rw [t1] at x1
                          cases t2 : T i k with
                          | false =>
                            rw [t2] at x2
                            have HW : Hid (wstep T k i j = false) := hid (by simp [wstep, t1, t2])
                            clear t1 t2 x3
                            go_wp2
                            go_region
                            go_wp2
                            go_roundw
                            case rel => exact ⟨j + 1, by omega, by simp, (HMj.out.drew.set hlti hltj false).congr (fun x y _ _ => by rw [wpart_succ]; by_cases e : x = i ∧ y = j <;> simp only [e, if_true, if_false, and_self] <;> first | exact HW.out.symm | rfl), HBj.out.drew.setCell (p := ⟨G, i * 20 + j, none⟩) (Nat.le_refl _) _⟩
                            case measure => simp [intOf]; omega
                          | true =>
                            rw [t2] at x2
                            generalize t3 : T k j = z at *
                            have HW : Hid (wstep T k i j = z) := hid (by simp [wstep, t1, t2, t3])
                            clear t1 t2 t3
                            go_wp2
                            go_region
                            go_wp2
                            go_roundw
                            case rel => exact ⟨j + 1, by omega, by simp, (HMj.out.drew.set hlti hltj z).congr (fun x y _ _ => by rw [wpart_succ]; by_cases e : x = i ∧ y = j <;> simp only [e, if_true, if_false, and_self] <;> first | exact HW.out.symm | rfl), HBj.out.drew.setCell (p := ⟨G, i * 20 + j, none⟩) (Nat.le_refl _) _⟩
                            case measure => simp [intOf]; omega
                      · obtain rfl : j = 20 := by omega
                        have HMj := hid hmat
                        have HBj := hid hb
                        clear hmat hb
                        go_wp2
                        go_roundw
                        case rel => exact ⟨i + 1, by omega, by simp, HMj.out.congr (fun x y _ hy => wpart_row_end T k i x y hy), HBj.out⟩
                        case measure => simp [intOf]; omega
                  · obtain rfl : i = 20 := by omega
                    have HMi := hid hmat
                    have HBi := hid hb
                    clear hmat hb
                    go_wp2
                    go_roundw
                    case rel => exact ⟨k + 1, by omega, by simp, HMi.out.congr (fun x y hx _ => by rw [wpart_end T k x y hx, ← HT.out]; rfl), HBi.out⟩
                    case measure => simp [intOf]; omega
              · obtain rfl : k = 20 := by omega
                have HMk := hid hmat
                have HBk := hid hb
                clear hmat hb
                go_wp2
                go_loopw [11] (fun v11 wr => ∃ i : Nat, i ≤ 20 ∧ v11 = .int .i64 i ∧ Hid (∀ x, x < i → war (edge 1 rs) 20 x x = false) ∧ MatAt wr G (war (edge 1 rs) 20) ∧ Below G W2 wr) (fun v11 _ => 20 - (intOf v11).toNat)
                case atStart => exact ⟨0, by omega, rfl, hid (fun x hx => absurd hx (Nat.not_lt_zero _)), HMk.out, HBk.out⟩
                case round =>
                  obtain ⟨i, hi20, rfl, HD, hmat, hb⟩ := hrel
                  by_cases hlti : i < 20
                  · have hlti2 : (i : Int) < 20 := by omega
                    have x1 := hmat.cell hlti hlti
                    have HMi := hid hmat
                    have HBi := hid hb
                    clear hmat hb
                    cases t1 : war (edge 1 rs) 20 i i with
                    | true =>
                      rw [t1] at x1
                      have HF : Hid (check rs = false) := hid (by
                        have : ¬ noRound rs := fun hh => by have := (noRound_war HRA.out).1 hh i hlti; rw [t1] at this; cases this
                        simp [check_eq, this])
                      clear t1
                      go_wp2
                      go_ret
                      exact ⟨ret_bool HF.out.symm, HB2.out.trans (HBi.out.mono HGL.out.1)⟩
                    | false =>
                      rw [t1] at x1
                      have HNF := hid t1
                      clear t1
                      go_wp2
                      go_roundw
                      case rel =>
                        refine ⟨i + 1, by omega, by simp, hid (fun x hx => ?_), HMi.out, HBi.out⟩
                        by_cases e : x = i
                        · subst e; exact HNF.out
                        · exact HD.out x (by omega)
                      case measure => simp [intOf]; omega
                  · obtain rfl : i = 20 := by omega
                    have HBi := hid hb
                    clear hmat hb
                    have HF : Hid (check rs = true) := hid (by
                      have : noRound rs := (noRound_war HRA.out).2 HD.out
                      simp [check_eq, this, HL.out, HRA.out, h60])
                    go_wp2
                    go_ret
                    exact ⟨ret_bool HF.out.symm, HB2.out.trans (HBi.out.mono HGL.out.1)⟩
  · have e1 : 60 < (n : Int) := by omega
    have HF : Hid (check rs = false) := hid (by simp [check, HL.out, h60])
    rw [HF.out]
    clear HF h60
    go_enter Tryz.func76, Tryz.ntmps76
    go_wp2
    go_ret
    exact ⟨rfl, Below.refl _ _⟩

end Go.Proofs.YtannndpamhgknaaGreatDoor.Gr
