/- GramReach answers true of every input: what is reached has 0, and all that rules of what is reached have. The table of places reads as the program's text lays it. -/
import Derived.Test.YtgpkgkmjppphgaaDoorCards
import Derived.Test.YtgpkgkmjppphgaaDoorTie
import Derived.Test.YtgpkgkmjppphgaaDoorTable
import Derived.Test.YtgpkgkmjppphgaaDoorLRules
import Derived.BigRegion
import Derived.ProofKit
import Derived.OpenShut
import Derived.Lay
import Derived.SevenTiedAt
import Derived.Stop.Joined
import Derived.Lib.LaidTab
namespace Go.Proofs.YtgpkgkmjppphgaaDoor
open Go.ChangeShapes Go.WideShapes Go.ChangeAt Go.RowKit


/-- A block of twenty bools. -/
def VecAt (w : World) (G : Nat) (f : Nat → Bool) : Prop := ∃ cur : Array Value, w.heap[G]? = some (.cells cur 46 (0, 0)) ∧ cur.size = 20 ∧ ∀ j, j < 20 → cur[j]? = some (.bool (f j))
theorem VecAt.cell {w : World} {G : Nat} {f : Nat → Bool} (h : VecAt w G f) {j : Nat} (hj : j < 20) : w.cell? ⟨G, j, none⟩ = some (.bool (f j)) := by
  obtain ⟨cur, h1, h2, h3⟩ := h
  rw [cell_of_row _ _ _ _ _ _ h1, h3 j hj]
theorem VecAt.frozen {w : World} {G : Nat} {f : Nat → Bool} (h : VecAt w G f) (k : Nat) : w.frozen? ⟨G, k, none⟩ = false := by
  obtain ⟨cur, h1, h2, h3⟩ := h
  simp [World.frozen?, h1]
theorem VecAt.congr {w : World} {G : Nat} {f f' : Nat → Bool} (h : VecAt w G f) (e : ∀ j, j < 20 → f j = f' j) : VecAt w G f' := by
  obtain ⟨cur, h1, h2, h3⟩ := h
  exact ⟨cur, h1, h2, fun j hj => by rw [← e j hj]; exact h3 j hj⟩
theorem VecAt.drew {w : World} {G : Nat} {f : Nat → Bool} (h : VecAt w G f) : VecAt w.drew G f := h
theorem VecAt.set {w : World} {G : Nat} {f : Nat → Bool} (h : VecAt w G f) {m : Nat} (hm : m < 20) (b : Bool) : VecAt (w.setCell ⟨G, m, none⟩ (.bool b)) G (fun x => if x = m then b else f x) := by
  obtain ⟨cur, h1, h2, h3⟩ := h
  refine ⟨_, heap_setCell_same w G m cur _ (.bool b) h1, by simpa using h2, fun x hx => ?_⟩
  rw [Array.getElem?_setIfInBounds]
  by_cases e : x = m
  · subst e
    simp [h2]
    omega
  · rw [if_neg (by omega)]
    dsimp only
    rw [if_neg e]
    exact h3 x hx
theorem vec_new (w : World) : VecAt (w.alloc (.cells #[.bool false, .bool false, .bool false, .bool false, .bool false, .bool false, .bool false, .bool false, .bool false, .bool false, .bool false, .bool false, .bool false, .bool false, .bool false, .bool false, .bool false, .bool false, .bool false, .bool false] 46)) w.heap.size (fun _ => false) := by
  have e : (#[.bool false, .bool false, .bool false, .bool false, .bool false, .bool false, .bool false, .bool false, .bool false, .bool false, .bool false, .bool false, .bool false, .bool false, .bool false, .bool false, .bool false, .bool false, .bool false, .bool false] : Array Value) = Array.replicate 20 (.bool false) := rfl
  refine ⟨_, row_new w _, rfl, fun j hj => ?_⟩
  rw [e, Array.getElem?_replicate, if_pos hj]
theorem mem_reached {rs : List Rule} {j : Nat} (hj : j < 20) : decide ((j : Int) ∈ reachedL rs) = reachedS rs j := by
  rw [Bool.eq_iff_iff, decide_eq_true_eq]
  unfold reachedL
  rw [mem_symL]
  constructor
  · rintro ⟨k, _, hs, e⟩
    have : k = j := by omega
    exact this ▸ hs
  · intro h; exact ⟨j, hj, h, rfl⟩
theorem reached_closed {rs : List Rule} {r : Rule} (hr : rs.all right = true) (hm : r ∈ rs) {L x : Nat} (hL : r.lhs = (L : Int)) (hx : (x : Int) ∈ r.rhs) (h : reachedS rs L = true) : reachedS rs x = true := by
  have he : edge 6 rs L x = true := by
    simp only [edge, List.any_eq_true, Bool.and_eq_true, decide_eq_true_eq, List.contains_iff_mem]
    exact ⟨r, hm, ⟨hL, (right_rhs (List.all_eq_true.1 hr r hm)).2⟩, hx⟩
  rcases (reachedS_iff hr).1 h with e | e
  · subst e
    exact (reachedS_iff hr).2 (.inr (.step he))
  · exact (reachedS_iff hr).2 (.inr (e.snoc he))
theorem rise_at {l : List Int} (h : l.Pairwise (· < ·)) {a b : Nat} {x y : Int} (hab : a < b) (hx : l[a]? = some x) (hy : l[b]? = some y) : x < y := by
  obtain ⟨h1, rfl⟩ := List.getElem?_eq_some_iff.1 hx
  obtain ⟨h2, rfl⟩ := List.getElem?_eq_some_iff.1 hy
  exact List.pairwise_iff_getElem.1 h a b h1 h2 hab
theorem not_yet {l : List Int} (h : l.Pairwise (· < ·)) {i : Nat} {y : Int} (hy : l[i]? = some y) : decide (y ∈ l.take i) = false := by
  refine decide_eq_false (fun hm => ?_)
  obtain ⟨j, hj⟩ := List.getElem?_of_mem hm
  rw [List.getElem?_take] at hj
  split at hj
  · have := rise_at h (by assumption) hj hy
    omega
  · cases hj
theorem take_step {l : List Int} {i m x : Nat} (hy : l[i]? = some (m : Int)) : (if x = m then true else decide ((x : Int) ∈ l.take i)) = decide ((x : Int) ∈ l.take (i + 1)) := by
  rw [List.take_add_one, hy]
  by_cases e : x = m
  · subst e; simp
  · have : ¬ ((x : Int) = (m : Int)) := by omega
    simp [e]
    omega

set_option maxRecDepth 4000 in
set_option maxHeartbeats 20000000 in
theorem walk (v0 : Value) (l : List Raw) (a1 : Int) (W : World) (hl0 : RawsAt W v0 l) (_ : (Lit.int .i64 a1).wf = true) (hT : Tab W) : Calls Tryd.prog 7 #[v0, .int .i64 a1] W fun e W' => e = .returned (.bool true) ∧ Below W.heap.size W W' := by
  have HK := hid (known_any W hT)
  have HT := hid hT
  have HL0 := hid hl0
  have HW := hid (fun a n w h h' => lwithin_any a n w h h')
  have hsym : 1 ≤ 1 + a1 % 20 ∧ 1 + a1 % 20 ≤ 20 := by omega
  obtain ⟨ad, cap, hv0, hmx, -⟩ := hl0
  subst hv0
  unfold maxLen at hmx
  clear hT
  cases hf : few l with
  | false =>
    have HF := hid (fun w1 (bel : Below W.heap.size W w1) => few_any l _ w1 (HL0.out.on bel))
    rw [hf] at HF
    clear hf
    go_enter Tryd.func7, Tryd.ntmps7
    go_wp2_with fail
    refine HK.out.mono ?_
    rintro e w1 ⟨rfl, bel⟩
    have HL1 := hid bel
    clear bel HK
    go_wp2_with fail
    refine (HF.out w1 HL1.out).mono ?_
    rintro e w2 ⟨rfl, rfl⟩
    go_wp2
    go_ret
    exact ⟨rfl, HL1.out⟩
  | true =>
    have HF := hid (fun w1 (bel : Below W.heap.size W w1) => few_any l _ w1 (HL0.out.on bel))
    rw [hf] at HF
    clear hf
    have HRL := hid (fun w1 (h : RawsAt w1 (.slice ad l.length cap) l) => lrules_any l _ (1 + a1 % 20) hsym w1 h)
    have HCK := hid (lrules_check l (1 + a1 % 20))
    have HRR := hid (lrules_right l (1 + a1 % 20))
    have hr20 := lrules_length l (1 + a1 % 20)
    generalize lrules l (1 + a1 % 20) = rs at *
    generalize l.length = n at *
    go_enter Tryd.func7, Tryd.ntmps7
    go_wp2_with fail
    refine HK.out.mono ?_
    rintro e w1 ⟨rfl, bel⟩
    have HL1 := hid bel
    clear bel HK
    go_wp2_with fail
    refine (HF.out w1 HL1.out).mono ?_
    rintro e w2 ⟨rfl, hw2⟩
    obtain rfl := hw2.symm
    clear hw2
    go_wp2_with fail
    refine (HW.out a1 20 w1 (by decide) (by decide)).mono ?_
    rintro e w2 ⟨rfl, hw2⟩
    obtain rfl := hw2.symm
    clear hw2
    go_wp2_with fail
    refine (HRL.out w1 (HL0.out.on HL1.out)).mono ?_
    rintro e w3 ⟨u, rfl, hu, bel⟩
    have HL3 := hid (up_trans HL1.out bel)
    have HR3 := hid (hu.rules (by omega))
    have HRN := hid hu
    have HNC := hid hu.none_cap
    have HOW := hid (fun k e => Nat.le_trans HL1.out.size (hu.own k e).1)
    obtain ⟨ad3, cap3, eu⟩ := hu.shape
    generalize hq : rs.length = q at *
    have HQ := hid hq
    subst eu
    clear bel hq
    go_wp2_with fail
    refine (reached_any rs _ w3 HR3.out (HT.out.on HL3.out) HRR.out).mono ?_
    rintro e w4 ⟨y, rfl, hy, bel⟩
    have HL4 := hid (up_trans HL3.out bel)
    have HR4 := hid (HR3.out.on bel)
    have HY4 := hid hy
    have HSRT : Hid ((reachedL rs).Pairwise (· < ·)) := hid (symL_sorted _)
    obtain ⟨ady, capy, ey⟩ := hy.shape
    have hyl : (reachedL rs).length ≤ 20 := symL_length (reachedS rs)
    generalize hly : (reachedL rs).length = ly at *
    have HLY := hid hly
    subst ey
    clear bel hy hly HRN HNC HOW
    have HM0 := hid ((vec_new w4).congr (f' := fun j => decide ((j : Int) ∈ (reachedL rs).take 0)) (fun j _ => by simp))
    have HB5 := hid (up_trans HL4.out (up_alloc w4 (.cells #[.bool false, .bool false, .bool false, .bool false, .bool false, .bool false, .bool false, .bool false, .bool false, .bool false, .bool false, .bool false, .bool false, .bool false, .bool false, .bool false, .bool false, .bool false, .bool false, .bool false] 46)))
    obtain ⟨G, hG⟩ : ∃ G, G = w4.heap.size := ⟨_, rfl⟩
    obtain ⟨W5, hW5⟩ : ∃ W5, W5 = w4.alloc (.cells #[.bool false, .bool false, .bool false, .bool false, .bool false, .bool false, .bool false, .bool false, .bool false, .bool false, .bool false, .bool false, .bool false, .bool false, .bool false, .bool false, .bool false, .bool false, .bool false, .bool false] 46) := ⟨_, rfl⟩
    have HGL : Hid (W.heap.size ≤ G ∧ G = w4.heap.size ∧ Below w4.heap.size w4 W5) := hid ⟨by rw [hG]; exact HL4.out.size, hG, by rw [hW5]; exact up_alloc _ _⟩
    rw [← hG, ← hW5] at HM0
    rw [← hW5] at HB5
    go_wp2
    rw [← hG, ← hW5]
    clear hG hW5
    have HKEY : Hid (∀ (wr : World) p v, Below G W5 wr → w4.cell? p = some v → wr.cell? p = some v) := hid (fun wr p v hb e => by
      have h1 := (HGL.out.2.2.cell (lt_of_cell e)).trans e
      have := HGL.out.2.1
      exact (hb.cell (by rw [this]; exact lt_of_cell e)).trans h1)
    go_loopw [8] (fun v8 wr => ∃ i : Nat, i ≤ ly ∧ v8 = .int .i64 i ∧ VecAt wr G (fun j => decide ((j : Int) ∈ (reachedL rs).take i)) ∧ Below G W5 wr) (fun v8 _ => ly - (intOf v8).toNat)
    case atStart => exact ⟨0, by omega, rfl, HM0.out, Below.refl _ _⟩
    case round =>
      obtain ⟨i, hi, rfl, hvec, hb⟩ := hrel
      by_cases hlt : i < ly
      · obtain ⟨gr, capg, eg, hgr, hcells⟩ := HY4.out.at (by rw [HLY.out]; omega)
        simp only [Value.slice.injEq] at eg
        obtain ⟨eg1, -, -⟩ := eg
        subst eg1
        have xi := HKEY.out wr _ _ hb (hcells i (by rw [HLY.out]; exact hlt)).1
        have HI : Hid ((reachedL rs)[i]? = some ((reachedL rs).getD i 0)) := hid (getD_at (by rw [HLY.out]; exact hlt))
        obtain ⟨m, hm20, -, hm⟩ := mem_symL.1 (List.mem_of_getElem? HI.out)
        rw [hm] at xi HI
        have xv := hvec.cell hm20
        rw [not_yet HSRT.out HI.out] at xv
        have fv := hvec.frozen m
        have m1 : ¬ ((m : Int) < 0) := by omega
        have m2 : ¬ ((19 : Int) < (m : Int)) := by omega
        have m3 : (m : Int) < 20 := by omega
        have hlt2 : (i : Int) < (ly : Int) := by omega
        have HV := hid hvec
        have HB := hid hb
        have d1 : decide ((m : Int) < 0) = false := decide_eq_false (by omega)
        have d2 : decide ((19 : Int) < (m : Int)) = false := decide_eq_false (by omega)
        by_cases h0 : i = 0
        · have d3 : decide ((0 : Int) < (i : Int)) = false := decide_eq_false (by omega)
          have d4 : decide (0 < i) = false := decide_eq_false (by omega)
          clear hcells hm hvec hb h0 m1 m2
          go_wp2
          go_quiet (fail)
          go_wp2
          go_roundw
          case rel => exact ⟨i + 1, by omega, by simp, ((show VecAt (wr.drewN _) G _ from HV.out).set hm20 true).congr (fun x _ => take_step HI.out), (HB.out.trans (below_drewN (Below.refl _ _) _)).setCell (p := ⟨G, m, none⟩) (Nat.le_refl _) _⟩
          case measure => simp [intOf]; omega
        · have xj := HKEY.out wr _ _ hb (hcells (i - 1) (by rw [HLY.out]; omega)).1
          have HJ : Hid ((reachedL rs)[i - 1]? = some ((reachedL rs).getD (i - 1) 0)) := hid (getD_at (by rw [HLY.out]; omega))
          have hord := rise_at HSRT.out (show i - 1 < i by omega) HJ.out HI.out
          generalize (reachedL rs).getD (i - 1) 0 = z at *
          have d3 : decide ((0 : Int) < (i : Int)) = true := decide_eq_true (by omega)
          have d4 : decide (0 < i) = true := decide_eq_true (by omega)
          have g2 : IntKind.i64.wrap ((i : Int) - 1) = ((i - 1 : Nat) : Int) := by rw [IntKind.wrap_i64]; omega
          have g3 : ((i - 1 : Nat) : Int) < (ly : Int) := by omega
          have d5 : decide ((m : Int) ≤ z) = false := decide_eq_false (by omega)
          clear hcells hm hvec hb h0 m1 m2
          go_wp2
          go_quiet (fail)
          go_wp2
          go_roundw
          case rel => exact ⟨i + 1, by omega, by simp, ((show VecAt (wr.drewN _) G _ from HV.out).set hm20 true).congr (fun x _ => take_step HI.out), (HB.out.trans (below_drewN (Below.refl _ _) _)).setCell (p := ⟨G, m, none⟩) (Nat.le_refl _) _⟩
          case measure => simp [intOf]; omega
      · obtain rfl : i = ly := by omega
        have HV : Hid (VecAt wr G (reachedS rs)) := hid (hvec.congr (fun j hj => by rw [← HLY.out, List.take_length]; exact mem_reached hj))
        have HB := hid hb
        obtain ⟨W7, rfl⟩ : ∃ W7, W7 = wr := ⟨wr, rfl⟩
        clear hvec hb
        have HR7 : Hid (∀ j, j < q → ∃ g o, ad3 = some ⟨g, o, none⟩ ∧ RuleIn W7 g (o + j * 5) (rs.getD j nilRule)) := hid (by
          have hR := (HR4.out.on HGL.out.2.2)
          have := HGL.out.2.1
          obtain ⟨ad', cap', e', _, hc'⟩ := HR4.out
          simp only [Value.slice.injEq] at e'
          obtain ⟨e1, -, -⟩ := e'
          subst e1
          intro j hj
          obtain ⟨g, o, e2, sv, pv, c0, c1, c2, c3, c4, ⟨ad5, cap5, e5, m5, h5⟩, ⟨ad6, cap6, e6, m6, h6⟩⟩ := hc' j (by rw [HQ.out]; exact hj)
          have key := fun p v e => HKEY.out W7 p v HB.out e
          exact ⟨g, o, e2, sv, pv, key _ _ c0, key _ _ c1, key _ _ c2, key _ _ c3, key _ _ c4, ⟨ad5, cap5, e5, m5, fun k hk => by obtain ⟨a, e, h⟩ := h5 k hk; exact ⟨a, e, key _ _ h⟩⟩, ⟨ad6, cap6, e6, m6, fun k hk => by obtain ⟨a, e, h⟩ := h6 k hk; exact ⟨a, e, key _ _ h⟩⟩⟩)
        go_wp2
        go_loopw [9] (fun v9 wr => ∃ i : Nat, i ≤ q ∧ v9 = .int .i64 i ∧ wr = W7) (fun v9 _ => q - (intOf v9).toNat)
        case atStart => exact ⟨0, by omega, rfl, rfl⟩
        case round =>
          obtain ⟨i, hi, rfl, hw⟩ := hrel
          obtain rfl := hw
          by_cases hlt : i < q
          · obtain ⟨g, o, rfl, hrule⟩ := HR7.out i hlt
            have HX : Hid (rs[i]? = some (rs.getD i nilRule)) := hid (rule_at (by rw [HQ.out]; exact hlt))
            generalize rs.getD i nilRule = r at *
            obtain ⟨sv, pv, c0, c1, -, -, -, h5, -⟩ := hrule
            obtain ⟨ads, caps, hsv, hms, hcs⟩ := h5
            subst hsv
            have HR := hid (List.all_eq_true.1 HRR.out r (List.mem_of_getElem? HX.out))
            have hlhs := right_lhs HR.out
            obtain ⟨L, hLe⟩ : ∃ L : Nat, r.lhs = (L : Int) := ⟨r.lhs.toNat, by omega⟩
            have hL20 : L < 20 := by omega
            rw [hLe] at c0
            have HLE := hid hLe
            have HCS := hid hcs
            have xl := HV.out.cell hL20
            have hL3 : (L : Int) < 20 := by omega
            have hr6 := right_rhs HR.out
            generalize hrl : r.rhs.length = mm at *
            have HMM := hid hrl
            have hlt2 : (i : Int) < (q : Int) := by omega
            clear hcs hLe hlhs hrl hms
            go_wp2
            go_loopw [10] (fun v10 wr2 => ∃ k : Nat, k ≤ mm ∧ v10 = .int .i64 k ∧ wr2 = wr) (fun v10 _ => mm - (intOf v10).toNat)
            case atStart => exact ⟨0, by omega, rfl, rfl⟩
            case round =>
              obtain ⟨k, hk, rfl, hw⟩ := hrel
              obtain rfl := hw
              by_cases hltk : k < mm
              · obtain ⟨a, rfl, hcell⟩ := HCS.out k hltk
                have HY : Hid (r.rhs[k]? = some (r.rhs.getD k 0)) := hid (getD_at (by rw [HMM.out]; exact hltk))
                generalize r.rhs.getD k 0 = y at *
                have hltk2 : (k : Int) < (mm : Int) := by omega
                cases hb1 : reachedS rs L with
                | false =>
                  rw [hb1] at xl
                  clear hb1
                  go_wp2
                  go_roundw
                  case rel => exact ⟨k + 1, by omega, by simp, by first | trivial | rfl⟩
                  case measure => simp [intOf]; omega
                | true =>
                  rw [hb1] at xl
                  by_cases hy0 : 0 ≤ y
                  · obtain ⟨x, rfl⟩ : ∃ x : Nat, y = (x : Int) := ⟨y.toNat, by omega⟩
                    have hx20 : x < 20 := by have := right_part HR.out (List.mem_of_getElem? HY.out); omega
                    have xx := HV.out.cell hx20
                    rw [reached_closed HRR.out (List.mem_of_getElem? HX.out) HLE.out (List.mem_of_getElem? HY.out) hb1] at xx
                    have hx3 : (x : Int) < 20 := by omega
                    clear hb1
                    go_wp2
                    go_roundw
                    case rel => exact ⟨k + 1, by omega, by simp, by first | trivial | rfl⟩
                    case measure => simp [intOf]; omega
                  · have hy1 : ¬ (0 ≤ y) := hy0
                    clear hb1
                    go_wp2
                    go_roundw
                    case rel => exact ⟨k + 1, by omega, by simp, by first | trivial | rfl⟩
                    case measure => simp [intOf]; omega
              · obtain rfl : k = mm := by omega
                go_wp2
                go_roundw
                case rel => exact ⟨i + 1, by omega, by simp, by first | trivial | rfl⟩
                case measure => simp [intOf]; omega
          · obtain rfl : i = q := by omega
            have x0 := HV.out.cell (j := 0) (by decide)
            rw [show reachedS rs 0 = true from reachedS_zero rs] at x0
            go_wp2
            go_ret
            exact ⟨rfl, HB5.out.trans (HB.out.mono HGL.out.1)⟩

theorem own : ownKnob Tryd.prog.godebug = none := by kernel_rfl

theorem table {W : World} (h : laidMetH Tryd.prog Rows.gramReachRow.laid W) : Tab W := by
  rw [MakeChecks.laidMetH_plain _ _ _ (by kernel_rfl)] at h
  exact tab_of_laid h

set_option maxRecDepth 100000 in
theorem lifted (os : Os) (started : os.Started) (H : Type) (enc : TypeId × Value → H) :
    ReturnsInHanded {} Tryd.checked os 7 .any (fun w args => (Rows.gramReachSpec.pre enc Tryd.prog Tryd.f7 Rows.gramReachRow.domain false w args ∧ laidMetH Tryd.prog Rows.gramReachRow.laid w) ∧ sizedMet enc Tryd.prog Tryd.f7 (OpenSpec.ofChange Rows.gramReachSpec) false w args)
      (Rows.gramReachSpec.post enc Tryd.prog Tryd.f7 false true false false) := by
  refine returnsInHanded_of_change_and (C := Tryd.checked) (X := fun w _ => laidMetH Tryd.prog Rows.gramReachRow.laid w) (fun _ _ _ hh h => h.of_heap hh) own started (by kernel_rfl) Tryd.func7
    (ChangeSpec.witness_shaped (enc := enc) (C := Tryd.checked) (os := os) (X := fun w _ => laidMetH Tryd.prog Rows.gramReachRow.laid w) false (World.laidAll Tryd.prog os Rows.gramReachRow.laid) #[.slice none 0 0, .int .i64 0] 8 (World.laidAll_os _ _ _)
      (World.shaped_of_ZipB (by kernel_rfl) (by kernel_rfl)) (by kernel_rfl) (by kernel_rfl) (by kernel_rfl)
      (by rw [MakeChecks.laidMetH_plain _ _ _ (by kernel_rfl)]; exact laidMet_laidAll _ (by kernel_rfl) (by kernel_rfl))) ?_
  intro W base args ds gs before hval0 hW _ _ hL _
  have hval : ∀ (j : Nat) t v, Tryd.f7.params[j]? = some t → args[j]? = some v → Value.okWide Tryd.prog W .any base t v := hval0
  have hW' := hW
  obtain ⟨p, q, hA0, hV, rfl, hfz, hnd⟩ := hW
  have hA : DataW.TrodAll enc Tryd.prog W 0 (fun _ => true) true Tryd.f7.params.toList args.toList ds p := hA0
  rw [Tryd.params7] at hA hval
  obtain ⟨v0, vs0, d0, ds0, p0, q0, hargs, rfl, rfl, h0, r0⟩ := trodAll_cons hA
  obtain ⟨v1, vs1, d1, ds1, p1, q1, rfl, rfl, rfl, h1, r1⟩ := trodAll_cons r0
  obtain ⟨rfl, rfl, rfl⟩ := trodAll_nil r1
  obtain rfl : args = #[v0, v1] := by cases args; simp_all
  obtain ⟨rfl, rfl⟩ := trodVars_none hV
  obtain ⟨x0, w0⟩ := raws_of (hval 0 27 v0 rfl rfl) h0
  have l0 : ∀ x ∈ p0, x.block < W.heap.size := fun x hx => hW'.lt x (by simp [hx])
  obtain ⟨a1, rfl, rfl, rfl, w1⟩ := open_int Tryd.underlying3 (hval 1 3 v1 rfl rfl) h1
  clear hA0 hval0
  refine (walk v0 x0 a1 W w0 w1 (table hL)).mono fun e W' ⟨he, bel⟩ => ?_
  subst he
  exact ⟨_, rfl, _, _, _, _, _, [], hW', trodAll_mk1 (shut_bool Tryd.underlying4 _), (trodAll_cons_mk (Below.trod (by kernel_rfl) (by kernel_rfl) (of_decide_eq_true (by kernel_rfl)) h0 bel l0) (trodAll_cons_mk (shut_int Tryd.underlying3 w1) trodAll_mk0)), rfl, bel.frame _, fun h => by cases h⟩

theorem row_holds : Rows.GramReachSaid :=
  OpenClaim.holds_of_wide 7 Tryd.f7 rfl rfl rfl rfl rfl rfl rfl ⟨rfl, rfl, rfl, rfl, rfl⟩ rfl rfl rfl rfl rfl (by kernel_rfl) Tryd.func7 (by kernel_rfl)
    (of_decide_eq_true (by kernel_rfl)) (by unfold Func.isWrapper; first | (rw [if_pos (by decide +kernel)]; kernel_rfl) | (rw [if_neg (by decide +kernel)]; exact ⟨rfl, rfl⟩))
    (fun os started H enc _ => lifted os started H enc)

theorem gramReach_holds : Rows.GramReachCardSaid :=
  Claim7.holds_tied_plain_at .later [] _ _ _ _ row_holds (fun _ h => by cases h) (by kernel_rfl) (fun _ h => by cases h) gramReach_row_tie rfl ⟨rfl, rfl⟩ (by kernel_rfl) rfl
    (fun f fn hf hfn => by
      obtain rfl : f = 7 := Option.some.inj ((show Tryd.prog.funcNamed "interlocutor/interlocutorlaw4.GramReach" = some 7 by kernel_rfl).symm.trans hf) |>.symm
      obtain rfl : fn = Tryd.f7 := (Option.some.inj (Tryd.func7.symm.trans hfn)).symm
      exact ⟨by kernel_rfl, fun j t ht => by
        rw [Tryd.params7] at ht
        have hm : t ∈ [27, 3] := by simpa using Array.mem_of_getElem? ht
        have hall : ([27, 3].all fun u => !Tryd.prog.wantsStandIn u) = true := by kernel_rfl
        exact (show Tryd.prog.wantsStandIn t = false by simpa using List.all_eq_true.1 hall t hm)⟩)
    (by kernel_rfl)

end Go.Proofs.YtgpkgkmjppphgaaDoor
