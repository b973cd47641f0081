/- GramOwn answers true of every input: rules are not changed; units, what is reached, may be: asked again they are told alike. The table of places reads as the program's text lays it. -/
import Derived.Test.YtgpkgkmjppphgaaDoorCards
import Derived.Test.YtgpkgkmjppphgaaDoorTie
import Derived.Test.YtgpkgkmjppphgaaDoorTable
import Derived.Test.YtgpkgkmjppphgaaDoorLRules
import Derived.Test.YtgpkgkmjppphgaaDoorRefReached
import Derived.Test.YtgpkgkmjppphgaaDoorRefInts
import Derived.ProofKit
import Derived.OpenShut
import Derived.Lay
import Derived.SevenTiedAt
import Derived.Stop.Joined
import Derived.Lib.LaidTab
namespace Go.Proofs.YtgpkgkmjppphgaaDoor
open Go.ChangeShapes Go.WideShapes Go.ChangeAt Go.RowKit


/-- Every cell is still there, as it may be written. -/
def Kept (w w' : World) : Prop := ∀ p v, w.cell? p = some v → (∃ v', w'.cell? p = some v') ∧ w'.frozen? p = w.frozen? p
theorem Kept.refl (w : World) : Kept w w := fun _ v h => ⟨⟨v, h⟩, rfl⟩
theorem Kept.set {w w' : World} (h : Kept w w') (q : Addr) (hq : ∃ v, w'.cell? q = some v) (u : Value) : Kept w (w'.setCell q u) := fun p v hp => by
  obtain ⟨⟨v', h1⟩, h2⟩ := h p v hp
  refine ⟨?_, ?_⟩
  · by_cases e : p = q
    · subst e
      obtain ⟨v0, hv0⟩ := hq
      exact ⟨u, World.cell?_setCell_same _ _ _ hv0⟩
    · exact ⟨v', (World.cell?_setCell_other w' q p u (fun e' => e e'.symm)).trans h1⟩
  · rw [← h2]; exact World.frozen?_setCell _ _ _ _

set_option maxRecDepth 4000 in
set_option maxHeartbeats 20000000 in
theorem walk (v0 : Value) (l : List Raw) (a1 a2 : Int) (W : World) (hl0 : RawsAt W v0 l) (_ : (Lit.int .i64 a1).wf = true) (_ : (Lit.int .i64 a2).wf = true) (hT : Tab W) : Calls Tryd.prog 12 #[v0, .int .i64 a1, .int .i64 a2] W fun e W' => e = .returned (.bool true) ∧ Below W.heap.size W W' := by
  have HK := hid (known_any W hT)
  have HT := hid hT
  have HL0 := hid hl0
  have HW := hid (fun a n w h h' => lwithin_any a n w h h')
  have hsym : 1 ≤ 1 + a1 % 20 ∧ 1 + a1 % 20 ≤ 20 := by omega
  obtain ⟨ad, cap, hv0, hmx, -⟩ := hl0
  subst hv0
  unfold maxLen at hmx
  clear hT
  cases hf : few l with
  | false =>
    have HF := hid (fun w1 (bel : Below W.heap.size W w1) => few_any l _ w1 (HL0.out.on bel))
    rw [hf] at HF
    clear hf
    go_enter Tryd.func12, Tryd.ntmps12
    go_wp2_with fail
    refine HK.out.mono ?_
    rintro e w1 ⟨rfl, bel⟩
    have HL1 := hid bel
    clear bel HK
    go_wp2_with fail
    refine (HF.out w1 HL1.out).mono ?_
    rintro e w2 ⟨rfl, rfl⟩
    go_wp2
    go_ret
    exact ⟨rfl, HL1.out⟩
  | true =>
    have HF := hid (fun w1 (bel : Below W.heap.size W w1) => few_any l _ w1 (HL0.out.on bel))
    rw [hf] at HF
    clear hf
    have HRL := hid (fun w1 (h : RawsAt w1 (.slice ad l.length cap) l) => lrules_any l _ (1 + a1 % 20) hsym w1 h)
    have HCK := hid (lrules_check l (1 + a1 % 20))
    have HRR := hid (lrules_right l (1 + a1 % 20))
    have hr20 := lrules_length l (1 + a1 % 20)
    generalize lrules l (1 + a1 % 20) = rs at *
    generalize l.length = n at *
    go_enter Tryd.func12, Tryd.ntmps12
    go_wp2_with fail
    refine HK.out.mono ?_
    rintro e w1 ⟨rfl, bel⟩
    have HL1 := hid bel
    clear bel HK
    go_wp2_with fail
    refine (HF.out w1 HL1.out).mono ?_
    rintro e w2 ⟨rfl, hw2⟩
    obtain rfl := hw2.symm
    clear hw2
    go_wp2_with fail
    refine (HW.out a1 20 w1 (by decide) (by decide)).mono ?_
    rintro e w2 ⟨rfl, hw2⟩
    obtain rfl := hw2.symm
    clear hw2
    go_wp2_with fail
    refine (HRL.out w1 (HL0.out.on HL1.out)).mono ?_
    rintro e w3 ⟨u, rfl, hu, bel⟩
    have HL3 := hid (up_trans HL1.out bel)
    have HR3 := hid (hu.rules (by omega))
    have HRN := hid hu
    have HNC := hid hu.none_cap
    have HOW := hid (fun k e => Nat.le_trans HL1.out.size (hu.own k e).1)
    obtain ⟨ad3, cap3, eu⟩ := hu.shape
    generalize hq : rs.length = q at *
    have HQ := hid hq
    subst eu
    clear bel hq
    have hsz3 := HL3.out.size
    go_wp2_with (go_at_call 17; refine (HW.out a1 20 _ (by decide) (by decide)).mono ?_; rintro e w4 ⟨rfl, hw4⟩; obtain rfl := hw4.symm; clear hw4)
    refine (HRL.out w3 (HL0.out.on HL3.out)).mono ?_
    rintro e w4 ⟨u4, rfl, hu4, bel⟩
    have HA4 := hid (HR3.out.on bel)
    have HL4 := hid (up_trans HL3.out bel)
    have HB4 := hid (hu4.rules (by have := HQ.out; omega))
    obtain ⟨ad4, cap4, e4⟩ := hu4.shape
    rw [HQ.out] at e4
    subst e4
    clear bel hu4 HRN HNC HOW
    go_wp2_with fail
    refine (units_any rs _ w4 HA4.out (HT.out.on HL4.out) HRR.out).mono ?_
    rintro e w5 ⟨x, rfl, ⟨gu, us, hxe, ho, hall⟩, bel⟩
    subst hxe
    have HA5 := hid (HA4.out.on bel)
    have HL5 := hid (up_trans HL4.out bel)
    have HB45 := hid bel
    have HO5 := hid ho
    have HALL5 := hid hall
    have HGU : Hid (w4.heap.size ≤ gu ∧ gu < w5.heap.size) := hid (World.ownsRow.lt ho gu rfl)
    clear bel ho hall
    go_wp2_with fail
    refine (reached_any rs _ w5 HA5.out (HT.out.on HL5.out) HRR.out).mono ?_
    rintro e w6 ⟨y, rfl, hy, bel⟩
    have HB46 := hid (up_trans HB45.out bel)
    have HO6 := hid (owns_below HO5.out bel)
    have HALL6 : Hid (∀ i, i < 20 → ∃ u, us[i]? = some u ∧ RowNew w6 (gu + 1) u (unitsL rs i)) := hid (fun i hi => by obtain ⟨u, h1, h2⟩ := HALL5.out i hi; exact ⟨u, h1, h2.on bel⟩)
    have HY6 := hid (hy.base (B' := gu + 1) HGU.out.2)
    obtain ⟨ady, capy, ey⟩ := hy.shape
    have hyl : (reachedL rs).length ≤ 20 := symL_length (reachedS rs)
    generalize hly : (reachedL rs).length = ly at *
    have HLY := hid hly
    subst ey
    clear bel hy HO5 HALL5 HB45 hly
    go_wp2
    go_loopw [11] (fun v wr => ∃ i : Nat, i ≤ 20 ∧ v = .int .i64 i ∧ Hid (Kept w6 wr ∧ Below (gu + 1) w6 wr)) (fun v _ => 20 - (intOf v).toNat)
    case atStart => exact ⟨0, by omega, rfl, hid ⟨Kept.refl _, Below.refl _ _⟩⟩
    case round =>
      obtain ⟨i, hi20, rfl, HKB⟩ := hrel
      by_cases hlt : i < 20
      · obtain ⟨uv, hus, hrow⟩ := HALL6.out i hlt
        have HXU := hid (UnitsAt.cell HO6.out hus)
        have hL20 : (unitsL rs i).length ≤ 20 := symL_length (edge 1 rs i)
        obtain ⟨adu, capu, hsh⟩ := hrow.shape
        generalize hL : (unitsL rs i).length = L at *
        have HLL := hid hL
        have HROW := hid hrow
        subst hsh
        have hlt2 : (i : Int) < 20 := by omega
        clear hus hrow hL
        go_wp2
        go_loopw [12] (fun v wr => ∃ k : Nat, k ≤ L ∧ v = .int .i64 k ∧ Hid (Kept w6 wr ∧ Below (gu + 1) w6 wr)) (fun v _ => L - (intOf v).toNat)
        case atStart => exact ⟨0, by omega, rfl, HKB⟩
        case round =>
          obtain ⟨k, hk, rfl, HKB2⟩ := hrel
          have xu := (HKB2.out.2.cell (p := ⟨gu, i, none⟩) (Nat.lt_succ_self _)).trans HXU.out
          by_cases hltk : k < L
          · obtain ⟨gr, capg, eg, hgr, hcells⟩ := HROW.out.at (by rw [HLL.out]; omega)
            simp only [Value.slice.injEq] at eg
            obtain ⟨eg1, -, -⟩ := eg
            subst eg1
            have hc6 := hcells k (by rw [HLL.out]; exact hltk)
            obtain ⟨⟨old, xk⟩, fk⟩ := HKB2.out.1 _ _ hc6.1
            rw [hc6.2] at fk
            have hltk2 : (k : Int) < (L : Int) := by omega
            have HK3 : Hid (Kept w6 (wr.setCell ⟨gr, k, none⟩ (.int .i64 a2)) ∧ Below (gu + 1) w6 (wr.setCell ⟨gr, k, none⟩ (.int .i64 a2))) := hid ⟨HKB2.out.1.set _ ⟨_, xk⟩ _, HKB2.out.2.setCell (p := ⟨gr, k, none⟩) hgr _⟩
            clear hcells hc6
            go_wp2
            go_roundw
            case rel => exact ⟨k + 1, by omega, by simp, HK3⟩
            case measure => simp [intOf]; omega
          · obtain rfl : k = L := by omega
            go_wp2
            go_roundw
            case rel => exact ⟨i + 1, by omega, by simp, HKB2⟩
            case measure => simp [intOf]; omega
      · obtain rfl : i = 20 := by omega
        go_wp2
        go_loopw [13] (fun v wr => ∃ k : Nat, k ≤ ly ∧ v = .int .i64 k ∧ Hid (Kept w6 wr ∧ Below (gu + 1) w6 wr)) (fun v _ => ly - (intOf v).toNat)
        case atStart => exact ⟨0, by omega, rfl, HKB⟩
        case round =>
          obtain ⟨k, hk, rfl, HKB2⟩ := hrel
          by_cases hltk : k < ly
          · obtain ⟨gr, capg, eg, hgr, hcells⟩ := HY6.out.at (by rw [HLY.out]; omega)
            simp only [Value.slice.injEq] at eg
            obtain ⟨eg1, -, -⟩ := eg
            subst eg1
            have hc6 := hcells k (by rw [HLY.out]; exact hltk)
            obtain ⟨⟨old, xk⟩, fk⟩ := HKB2.out.1 _ _ hc6.1
            rw [hc6.2] at fk
            have hltk2 : (k : Int) < (ly : Int) := by omega
            have HK3 : Hid (Kept w6 (wr.setCell ⟨gr, k, none⟩ (.int .i64 a2)) ∧ Below (gu + 1) w6 (wr.setCell ⟨gr, k, none⟩ (.int .i64 a2))) := hid ⟨HKB2.out.1.set _ ⟨_, xk⟩ _, HKB2.out.2.setCell (p := ⟨gr, k, none⟩) hgr _⟩
            clear hcells hc6
            go_wp2
            go_roundw
            case rel => exact ⟨k + 1, by omega, by simp, HK3⟩
            case measure => simp [intOf]; omega
          · obtain rfl : k = ly := by omega
            have HBW := hid (HB46.out.trans (HKB2.out.2.mono (by have := HGU.out; omega)))
            have HQ3 := hid (HA4.out.on HBW.out)
            have HQB := hid (HB4.out.on HBW.out)
            have HB := hid (up_trans HL4.out HBW.out)
            have HU20 := hid (fun i => symL_length (edge 1 rs i))
            go_wp2_with fail
            refine (units_any rs _ wr HQ3.out (HT.out.on HB.out) HRR.out).mono ?_
            rintro e w7 ⟨u7, rfl, hu, bel⟩
            have HA7 := hid (HQ3.out.on bel)
            have HQ7 := hid (HQB.out.on bel)
            have HB7 := hid (up_trans HB.out bel)
            have HU7 := hid hu
            obtain ⟨g7, us7, e7, -, -⟩ := hu
            subst e7
            clear bel
            go_wp2_with fail
            refine (runits_any rs _ w7 HQ7.out HRR.out).mono ?_
            rintro e w8 ⟨x8, rfl, hx, bel⟩
            have HA8 := hid (HA7.out.on bel)
            have HQ8 := hid (HQ7.out.on bel)
            have HB8 := hid (up_trans HB7.out bel)
            have HU8 := hid (HU7.out.on bel)
            have HX8 := hid hx
            obtain ⟨g8, us8, e8, -, -⟩ := hx
            subst e8
            clear bel HA7 HQ7 HB7 HU7
            go_wp2_with fail
            refine (reached_any rs _ w8 HA8.out (HT.out.on HB8.out) HRR.out).mono ?_
            rintro e w9 ⟨r9, rfl, hr9, bel⟩
            have HQ9 := hid (HQ8.out.on bel)
            have HB9 := hid (up_trans HB8.out bel)
            have HU9 := hid (HU8.out.on bel)
            have HX9 := hid (HX8.out.on bel)
            have HR9 := hid (hr9.row (by have := symL_length (reachedS rs); unfold reachedL maxLen; omega))
            obtain ⟨ad9, cap9, e9⟩ := hr9.shape
            subst e9
            clear bel HA8 HQ8 HB8 HU8 HX8 hr9
            go_wp2_with fail
            refine (rreached_any rs _ w9 HQ9.out HRR.out).mono ?_
            rintro e w10 ⟨r10, rfl, hr10, bel⟩
            have HB10 := hid (up_trans HB9.out bel)
            have HU10 := hid (HU9.out.on bel)
            have HX10 := hid (HX9.out.on bel)
            have HR10 := hid (HR9.out.on bel)
            have HS10 := hid (hr10.row (by have := symL_length (reachedS rs); unfold reachedL maxLen; omega))
            obtain ⟨ad10, cap10, e10⟩ := hr10.shape
            subst e10
            clear bel HQ9 HB9 HU9 HX9 HR9 hr10
            go_wp2_with fail
            refine (ints_any (reachedL rs) _ _ w10 HR10.out HS10.out).mono ?_
            rintro e w11 ⟨rfl, bel⟩
            have HB11 := hid (up_trans HB10.out bel)
            have HU11 := hid (HU10.out.on bel)
            have HX11 := hid (HX10.out.on bel)
            clear bel HB10 HU10 HX10 HR10 HS10
            go_wp2
            go_loopw [16] (fun v wr => ∃ i : Nat, i ≤ 20 ∧ v = .int .i64 i ∧ Below w11.heap.size w11 wr) (fun v _ => 20 - (intOf v).toNat)
            case atStart => exact ⟨0, by omega, rfl, Below.refl _ _⟩
            case round =>
              obtain ⟨i, hi20, rfl, hb⟩ := hrel
              by_cases hlt : i < 20
              · obtain ⟨g1, us1, e1, ho1, hall1⟩ := HU11.out
                obtain ⟨g2, us2, e2, ho2, hall2⟩ := HX11.out
                simp only [Value.slice.injEq, Option.some.injEq, Addr.mk.injEq, and_true] at e1 e2
                subst e1 e2
                obtain ⟨u1, hu1, hr1⟩ := hall1 i hlt
                obtain ⟨u2, hu2, hr2⟩ := hall2 i hlt
                have x1 := UnitsAt.cell ho1 hu1
                have x2 := UnitsAt.cell ho2 hu2
                have y1 := (hb.cell (lt_of_cell x1)).trans x1
                have y2 := (hb.cell (lt_of_cell x2)).trans x2
                have HR1 := hid ((hr1.row (by have := HU20.out i; unfold unitsL maxLen; omega)).on hb)
                have HR2 := hid ((hr2.row (by have := HU20.out i; unfold unitsL maxLen; omega)).on hb)
                obtain ⟨ad1, cap1, e1⟩ := hr1.shape
                obtain ⟨ad2, cap2, e2⟩ := hr2.shape
                subst e1 e2
                have HBB := hid hb
                have hlt2 : (i : Int) < 20 := by omega
                clear ho1 ho2 hall1 hall2 hu1 hu2 hr1 hr2 x1 x2 hb
                go_wp2
                go_region_law (go_simp; go_at_call 23; refine (ints_any (unitsL rs i) _ _ _ (HR1.out.on ((Below.refl _ _).drew)) (HR2.out.on ((Below.refl _ _).drew))).mono ?_; rintro e wz ⟨rfl, bel⟩; have HBZ := hid (HBB.out.trans ((((Below.refl _ _).drew).trans bel).mono HBB.out.size)); clear bel)
                all_goals
                  go_wp2
                  go_roundw
                  · exact ⟨i + 1, by omega, by simp, HBZ.out⟩
                  · simp [intOf]; omega
              · obtain rfl : i = 20 := by omega
                have HBB := hid hb
                clear hb
                go_wp2
                go_ret
                exact ⟨rfl, HB11.out.trans (HBB.out.mono HB11.out.size)⟩

theorem own : ownKnob Tryd.prog.godebug = none := by kernel_rfl

theorem table {W : World} (h : laidMetH Tryd.prog Rows.gramOwnRow.laid W) : Tab W := by
  rw [MakeChecks.laidMetH_plain _ _ _ (by kernel_rfl)] at h
  exact tab_of_laid h

set_option maxRecDepth 100000 in
theorem lifted (os : Os) (started : os.Started) (H : Type) (enc : TypeId × Value → H) :
    ReturnsInHanded {} Tryd.checked os 12 .any (fun w args => (Rows.gramOwnSpec.pre enc Tryd.prog Tryd.f12 Rows.gramOwnRow.domain false w args ∧ laidMetH Tryd.prog Rows.gramOwnRow.laid w) ∧ sizedMet enc Tryd.prog Tryd.f12 (OpenSpec.ofChange Rows.gramOwnSpec) false w args)
      (Rows.gramOwnSpec.post enc Tryd.prog Tryd.f12 false true false false) := by
  refine returnsInHanded_of_change_and (C := Tryd.checked) (X := fun w _ => laidMetH Tryd.prog Rows.gramOwnRow.laid w) (fun _ _ _ hh h => h.of_heap hh) own started (by kernel_rfl) Tryd.func12
    (ChangeSpec.witness_shaped (enc := enc) (C := Tryd.checked) (os := os) (X := fun w _ => laidMetH Tryd.prog Rows.gramOwnRow.laid w) false (World.laidAll Tryd.prog os Rows.gramOwnRow.laid) #[.slice none 0 0, .int .i64 0, .int .i64 0] 8 (World.laidAll_os _ _ _)
      (World.shaped_of_ZipB (by kernel_rfl) (by kernel_rfl)) (by kernel_rfl) (by kernel_rfl) (by kernel_rfl)
      (by rw [MakeChecks.laidMetH_plain _ _ _ (by kernel_rfl)]; exact laidMet_laidAll _ (by kernel_rfl) (by kernel_rfl))) ?_
  intro W base args ds gs before hval0 hW _ _ hL _
  have hval : ∀ (j : Nat) t v, Tryd.f12.params[j]? = some t → args[j]? = some v → Value.okWide Tryd.prog W .any base t v := hval0
  have hW' := hW
  obtain ⟨p, q, hA0, hV, rfl, hfz, hnd⟩ := hW
  have hA : DataW.TrodAll enc Tryd.prog W 0 (fun _ => true) true Tryd.f12.params.toList args.toList ds p := hA0
  rw [Tryd.params12] at hA hval
  obtain ⟨v0, vs0, d0, ds0, p0, q0, hargs, rfl, rfl, h0, r0⟩ := trodAll_cons hA
  obtain ⟨v1, vs1, d1, ds1, p1, q1, rfl, rfl, rfl, h1, r1⟩ := trodAll_cons r0
  obtain ⟨v2, vs2, d2, ds2, p2, q2, rfl, rfl, rfl, h2, r2⟩ := trodAll_cons r1
  obtain ⟨rfl, rfl, rfl⟩ := trodAll_nil r2
  obtain rfl : args = #[v0, v1, v2] := by cases args; simp_all
  obtain ⟨rfl, rfl⟩ := trodVars_none hV
  obtain ⟨x0, w0⟩ := raws_of (hval 0 27 v0 rfl rfl) h0
  have l0 : ∀ x ∈ p0, x.block < W.heap.size := fun x hx => hW'.lt x (by simp [hx])
  obtain ⟨a1, rfl, rfl, rfl, w1⟩ := open_int Tryd.underlying3 (hval 1 3 v1 rfl rfl) h1
  obtain ⟨a2, rfl, rfl, rfl, w2⟩ := open_int Tryd.underlying3 (hval 2 3 v2 rfl rfl) h2
  clear hA0 hval0
  refine (walk v0 x0 a1 a2 W w0 w1 w2 (table hL)).mono fun e W' ⟨he, bel⟩ => ?_
  subst he
  exact ⟨_, rfl, _, _, _, _, _, [], hW', trodAll_mk1 (shut_bool Tryd.underlying4 _), (trodAll_cons_mk (Below.trod (by kernel_rfl) (by kernel_rfl) (of_decide_eq_true (by kernel_rfl)) h0 bel l0) (trodAll_cons_mk (shut_int Tryd.underlying3 w1) (trodAll_cons_mk (shut_int Tryd.underlying3 w2) trodAll_mk0))), rfl, bel.frame _, fun h => by cases h⟩

theorem row_holds : Rows.GramOwnSaid :=
  OpenClaim.holds_of_wide 12 Tryd.f12 rfl rfl rfl rfl rfl rfl rfl ⟨rfl, rfl, rfl, rfl, rfl⟩ rfl rfl rfl rfl rfl (by kernel_rfl) Tryd.func12 (by kernel_rfl)
    (of_decide_eq_true (by kernel_rfl)) (by unfold Func.isWrapper; first | (rw [if_pos (by decide +kernel)]; kernel_rfl) | (rw [if_neg (by decide +kernel)]; exact ⟨rfl, rfl⟩))
    (fun os started H enc _ => lifted os started H enc)

theorem gramOwn_holds : Rows.GramOwnCardSaid :=
  Claim7.holds_tied_plain_at .later [] _ _ _ _ row_holds (fun _ h => by cases h) (by kernel_rfl) (fun _ h => by cases h) gramOwn_row_tie rfl ⟨rfl, rfl⟩ (by kernel_rfl) rfl
    (fun f fn hf hfn => by
      obtain rfl : f = 12 := Option.some.inj ((show Tryd.prog.funcNamed "interlocutor/interlocutorlaw4.GramOwn" = some 12 by kernel_rfl).symm.trans hf) |>.symm
      obtain rfl : fn = Tryd.f12 := (Option.some.inj (Tryd.func12.symm.trans hfn)).symm
      exact ⟨by kernel_rfl, fun j t ht => by
        rw [Tryd.params12] at ht
        have hm : t ∈ [27, 3, 3] := by simpa using Array.mem_of_getElem? ht
        have hall : ([27, 3, 3].all fun u => !Tryd.prog.wantsStandIn u) = true := by kernel_rfl
        exact (show Tryd.prog.wantsStandIn t = false by simpa using List.all_eq_true.1 hall t hm)⟩)
    (by kernel_rfl)

end Go.Proofs.YtgpkgkmjppphgaaDoor
