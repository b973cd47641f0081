/- GramChecks answers true of every input: of any rules whether they may be, their units, what is reached, are the document's. The table of places reads as the program's text lays it. -/
import Derived.Test.YtgpkgkmjppphgaaDoorCards
import Derived.Test.YtgpkgkmjppphgaaDoorTie
import Derived.Test.YtgpkgkmjppphgaaDoorTable
import Derived.Test.YtgpkgkmjppphgaaDoorLawBase
import Derived.Test.YtgpkgkmjppphgaaDoorMake
import Derived.Test.YtgpkgkmjppphgaaDoorRefCheck
import Derived.Test.YtgpkgkmjppphgaaDoorRefReached
import Derived.Test.YtgpkgkmjppphgaaDoorRefInts
import Derived.ProofKit
import Derived.OpenShut
import Derived.Lay
import Derived.SevenTiedAt
import Derived.Stop.Joined
import Derived.Lib.LaidTab
namespace Go.Proofs.YtgpkgkmjppphgaaDoor
open Go.ChangeShapes Go.WideShapes Go.ChangeAt Go.RowKit

set_option maxRecDepth 4000 in
set_option maxHeartbeats 20000000 in
theorem walk (v0 : Value) (l : List Raw) (a1 a2 : Int) (W : World) (hl0 : RawsAt W v0 l) (_ : (Lit.int .i64 a1).wf = true) (_ : (Lit.int .i64 a2).wf = true) (hT : Tab W) : Calls Tryd.prog 4 #[v0, .int .i64 a1, .int .i64 a2] W fun e W' => e = .returned (.bool true) ∧ Below W.heap.size W W' := by
  have HK := hid (known_any W hT)
  have HT := hid hT
  have HL0 := hid hl0
  have HW := hid (fun a n w h h' => lwithin_any a n w h h')
  have hsym : 1 ≤ 1 + a1 % 20 ∧ 1 + a1 % 20 ≤ 20 := by omega
  obtain ⟨ad, cap, hv0, hmx, hc⟩ := hl0
  subst hv0
  have HC := hid hc
  unfold maxLen at hmx
  clear hc hT
  cases hf : few l with
  | false =>
    have HF := hid (fun w1 (bel : Below W.heap.size W w1) => few_any l _ w1 (HL0.out.on bel))
    rw [hf] at HF
    clear hf
    go_enter Tryd.func4, Tryd.ntmps4
    go_wp2_with fail
    refine HK.out.mono ?_
    rintro e w1 ⟨rfl, bel⟩
    have HL1 := hid bel
    clear bel HK
    go_wp2_with fail
    refine (HF.out w1 HL1.out).mono ?_
    rintro e w2 ⟨rfl, rfl⟩
    go_wp2
    go_ret
    exact ⟨rfl, HL1.out⟩
  | true =>
    have HFR := hid (few_raw hf)
    have h80 := HFR.out.1
    have HF := hid (fun w1 (bel : Below W.heap.size W w1) => few_any l _ w1 (HL0.out.on bel))
    rw [hf] at HF
    clear hf
    generalize hlen : l.length = n at *
    have HLEN := hid hlen
    clear hlen
    go_enter Tryd.func4, Tryd.ntmps4
    go_wp2_with fail
    refine HK.out.mono ?_
    rintro e w1 ⟨rfl, bel⟩
    have HL1 := hid bel
    clear bel HK
    go_wp2_with fail
    refine (HF.out w1 HL1.out).mono ?_
    rintro e w2 ⟨rfl, hw2⟩
    obtain rfl := hw2.symm
    clear hw2
    go_wp2_with fail
    refine (HW.out a1 20 w1 (by decide) (by decide)).mono ?_
    rintro e w2 ⟨rfl, hw2⟩
    obtain rfl := hw2.symm
    clear hw2
    generalize hK : 1 + a1 % 20 = K at *
    have HKK := hid hK
    go_wp2
    try simp only [hK]
    clear hK
    go_loopw [7, 9] (fun v7 v9 wr => ∃ (j : Nat) (rs : List Rule), j ≤ n ∧ v9 = .int .i64 j ∧ RulesNew wr W.heap.size v7 rs ∧ Hid (rs.length = j ∧ rs.all right = true) ∧ Below W.heap.size W wr) (fun _ v9 _ => n - (intOf v9).toNat)
    case atStart => exact ⟨0, [], by omega, rfl, RulesNew.nil w1 W.heap.size, hid ⟨rfl, rfl⟩, HL1.out⟩
    case round =>
      obtain ⟨j, rs, hj, rfl, hR, HRS, hb⟩ := hrel
      by_cases hlt : j < n
      · obtain ⟨a, rfl, hraw⟩ := HC.out j hlt
        generalize l.getD j nilRaw = r at *
        obtain ⟨sv, pv, c0, c1, c2, c3, c4, h5, h6, h7⟩ := hraw.on hb
        have HMK := hid (make_any r sv pv K hsym h7 wr h5 h6)
        obtain ⟨ad1, cap1, e1, _, _⟩ := h5
        obtain ⟨ad2, cap2, e2, _, _⟩ := h6
        subst e1 e2
        have HR := hid hR
        have HB := hid hb
        have hsz := hb.size
        have hlt2 : (j : Int) < (n : Int) := by omega
        have HOWN := hid hR.own
        obtain ⟨ad5, cap5, hv5⟩ := hR.shape
        rw [HRS.out.1] at hv5
        subst hv5
        clear hR hb hraw
        go_wp2_with (first | (go_at_call 15; refine HMK.out.mono ?_; rintro e wm ⟨sv', pv', rfl, hs', hp', hbm⟩; have HRM := hid (HR.out.on hbm); have HBM := hid (HB.out.trans (hbm.mono hsz)); have HO1 := hid (off_fresh hs' (fun k e => (HOWN.out k e).2)); have HO2 := hid (off_fresh hp' (fun k e => (HOWN.out k e).2)); have HW1 := hid (hs'.row (rule_small r _).1); have HW2 := hid (hp'.row (rule_small r _).2); have hszm := HBM.out.size; obtain ⟨ads, caps, es⟩ := hs'.shape; obtain ⟨adq, capq, ep⟩ := hp'.shape; subst es ep; unfold ruleV; clear hs' hp' hbm) | (at_builtin; refine wpList_append_rule _ rfl (.tmp 28) (.tmp 35) rfl W.heap.size _ rs rfl (HRM.out.on (up_alloc _ _)) (mkRule r K) _ _ (HW1.out.on (up_alloc _ _)) (HW2.out.on (up_alloc _ _)) HO1.out HO2.out wm.heap.size rfl (box_new _ _ _ _ _ _ _ _ rfl) (by have := HRS.out.1; omega) (by simp; omega) ?_; intro g cap w3 hR3 hg3 hloc3; have HR3 := hid hR3; have HB3 := hid ((HBM.out.alloc HBM.out.size _).grown hg3 (by simp; omega) (fun k e => (HRM.out.own k e).1)); clear hR3 hg3 hloc3))
        go_roundw
        case rel => exact ⟨j + 1, rs ++ [mkRule r K], by omega, by simp, HR3.out, hid ⟨by simp [HRS.out.1], by rw [List.all_append, HRS.out.2]; simp [make_right r K hsym]⟩, HB3.out⟩
        case measure => simp [intOf]; omega
      · obtain rfl : j = n := by omega
        have HR := hid hR
        have HB := hid hb
        clear hR hb
        obtain ⟨M, hM⟩ : ∃ M : Nat, a2 % 12 = (M : Int) := ⟨(a2 % 12).toNat, by omega⟩
        have hM12 : M < 12 := by omega
        have HW2 := hid (fun w => lwithin_any a2 12 w (by decide) (by decide))
        rw [hM] at HW2
        clear hM
        obtain ⟨n, rfl⟩ : ∃ n, n = j := ⟨j, rfl⟩
        go_wp2
        go_loopw [7, 10] (fun v7 v10 wr => ∃ (i : Nat) (rs : List Rule), i ≤ M ∧ v10 = .int .i64 i ∧ RulesNew wr W.heap.size v7 rs ∧ Hid (rs.length ≤ 80 + i ∧ rs.all right = true) ∧ Below W.heap.size W wr) (fun _ v10 _ => M - (intOf v10).toNat)
        case atStart => exact ⟨0, rs, by omega, rfl, HR.out, hid ⟨by have := HRS.out.1; omega, HRS.out.2⟩, HB.out⟩
        case round =>
          obtain ⟨i, rs, hi, rfl, hR, HRS, hb⟩ := hrel
          obtain ⟨ad7, cap7, hv7⟩ := hR.shape
          have HR := hid hR
          have HB := hid hb
          have hsz := hb.size
          generalize hq : rs.length = q at *
          have HQ := hid hq
          have hq92 : q ≤ 80 + i := HRS.out.1
          subst hv7
          clear hR hb hq
          by_cases hgo : i < M ∧ 0 < q
          · have g1 : (i : Int) < (M : Int) := by omega
            have g2 : (0 : Int) < (q : Int) := by omega
            have hm : i % q < q := Nat.mod_lt _ hgo.2
            have hrem : ((i : Int)).tmod (q : Int) = ((i % q : Nat) : Int) := (Int.ofNat_tmod i q).symm
            generalize i % q = m at *
            have HX : Hid (rs[m]? = some (rs.getD m nilRule)) := hid (rule_at (by rw [HQ.out]; exact hm))
            generalize rs.getD m nilRule = r at *
            obtain ⟨g, cap, sv, pv, ev, c0, c1, c2, c3, c4, h5, h6, h7, h8⟩ := HR.out.get HX.out
            rw [HQ.out] at ev
            simp only [Value.slice.injEq, true_and] at ev
            obtain ⟨rfl, rfl⟩ := ev
            have HF := hid (And.intro h5 (And.intro h6 (And.intro h7 h8)))
            obtain ⟨ads, caps, es, _, _⟩ := h5
            obtain ⟨adp, capp, ep, _, _⟩ := h6
            subst es ep
            have hm2 : (m : Int) < (q : Int) := by omega
            have hq0 : ((q : Int) == 0) = false := by simp; omega
            clear h7 h8 hgo
            go_wp2_with (first | (go_at_call 17; refine (HW2.out _).mono ?_; rintro e w1 ⟨rfl, hw1⟩; obtain rfl := hw1.symm; clear hw1) | (at_builtin; refine wpList_append_rule _ rfl (.tmp 48) (.tmp 56) rfl W.heap.size _ rs rfl (HR.out.on (up_alloc _ _)) r _ _ (HF.out.1.on (up_alloc _ _)) (HF.out.2.1.on (up_alloc _ _)) HF.out.2.2.1 HF.out.2.2.2 wr.heap.size rfl (box_new _ _ _ _ _ _ _ _ rfl) (by have := HQ.out; omega) (by simp; omega) ?_; intro g3 cap3 w3 hR3 hg3 hloc3; have HR3 := hid hR3; have HB3 := hid ((HB.out.alloc hsz _).grown hg3 (by simp; omega) (fun k e => (HR.out.own k e).1)); clear hR3 hg3 hloc3))
            go_roundw
            case rel => exact ⟨i + 1, rs ++ [r], by omega, by simp, HR3.out, hid ⟨by have := HQ.out; simp; omega, by rw [List.all_append, HRS.out.2]; simp [List.all_eq_true.1 HRS.out.2 r (List.mem_of_getElem? HX.out)]⟩, HB3.out⟩
            case measure => simp [intOf]; omega
          · have HQR := hid (HR.out.rules (by have := HQ.out; omega))
            have hcase : (¬ (i : Int) < (M : Int) ∧ True) ∨ ((i : Int) < (M : Int) ∧ ¬ ((0 : Int) < (q : Int))) := by
              by_cases h : (i : Int) < (M : Int)
              · exact .inr ⟨h, fun h2 => hgo ⟨by omega, by omega⟩⟩
              · exact .inl ⟨h, trivial⟩
            have HU20 := hid (fun i => symL_length (edge 1 rs i))
            clear hgo
            rcases hcase with ⟨g1, g2⟩ | ⟨g1, g2⟩
            all_goals
              go_wp2_with (go_at_call 17; refine (HW2.out _).mono ?_; rintro e w1 ⟨rfl, hw1⟩; obtain rfl := hw1.symm; clear hw1)
              refine (units_any rs _ wr HQR.out (HT.out.on HB.out) HRS.out.2).mono ?_
              rintro e w3 ⟨u, rfl, hu, bel⟩
              have HQ3 := hid (HQR.out.on bel)
              have HB3 := hid (up_trans HB.out bel)
              have HU3 := hid hu
              obtain ⟨gu, us, hue, _, _⟩ := hu
              have HUE := hid hue
              subst hue
              clear bel HUE
              go_wp2_with fail
              refine (runits_any rs _ w3 HQ3.out HRS.out.2).mono ?_
              rintro e w4 ⟨x, rfl, hx, bel⟩
              have HQ4 := hid (HQ3.out.on bel)
              have HB4 := hid (up_trans HB3.out bel)
              have HU4 := hid (HU3.out.on bel)
              have HX4 := hid hx
              obtain ⟨gx, xs, hxe, _, _⟩ := hx
              subst hxe
              clear bel HQ3 HB3 HU3
              go_wp2_with fail
              refine (check_any rs _ w4 HQ4.out (HT.out.on HB4.out)).mono ?_
              rintro e w5 ⟨rfl, bel⟩
              have HQ5 := hid (HQ4.out.on bel)
              have HB5 := hid (up_trans HB4.out bel)
              have HU5 := hid (HU4.out.on bel)
              have HX5 := hid (HX4.out.on bel)
              clear bel HQ4 HB4 HU4 HX4
              go_wp2_with fail
              refine (rcheck_any rs _ w5 HQ5.out).mono ?_
              rintro e w6 ⟨rfl, bel⟩
              have HQ6 := hid (HQ5.out.on bel)
              have HB6 := hid (up_trans HB5.out bel)
              have HU6 := hid (HU5.out.on bel)
              have HX6 := hid (HX5.out.on bel)
              generalize check rs = cc
              have hcc : (cc != cc) = false := by simp
              clear bel HQ5 HB5 HU5 HX5
              go_wp2_with fail
              refine (reached_any rs _ w6 HQ6.out (HT.out.on HB6.out) HRS.out.2).mono ?_
              rintro e w7 ⟨r1, rfl, hr1, bel⟩
              have HQ7 := hid (HQ6.out.on bel)
              have HB7 := hid (up_trans HB6.out bel)
              have HU7 := hid (HU6.out.on bel)
              have HX7 := hid (HX6.out.on bel)
              have HR7 := hid (hr1.row (by have := symL_length (reachedS rs); unfold reachedL maxLen; omega))
              obtain ⟨ad8, cap8, e8⟩ := hr1.shape
              subst e8
              clear bel HQ6 HB6 HU6 HX6 hr1
              go_wp2_with fail
              refine (rreached_any rs _ w7 HQ7.out HRS.out.2).mono ?_
              rintro e w8 ⟨r2, rfl, hr2, bel⟩
              have HB8 := hid (up_trans HB7.out bel)
              have HU8 := hid (HU7.out.on bel)
              have HX8 := hid (HX7.out.on bel)
              have HR8 := hid (HR7.out.on bel)
              have HS8 := hid (hr2.row (by have := symL_length (reachedS rs); unfold reachedL maxLen; omega))
              obtain ⟨ad9, cap9, e9⟩ := hr2.shape
              subst e9
              clear bel HQ7 HB7 HU7 HX7 HR7 hr2
              go_wp2_with fail
              refine (ints_any (reachedL rs) _ _ w8 HR8.out HS8.out).mono ?_
              rintro e w9 ⟨rfl, bel⟩
              have HB9 := hid (up_trans HB8.out bel)
              have HU9 := hid (HU8.out.on bel)
              have HX9 := hid (HX8.out.on bel)
              clear bel HB8 HU8 HX8 HR8 HS8
              go_wp2
              go_loopw [13] (fun v13 wr => ∃ i : Nat, i ≤ 20 ∧ v13 = .int .i64 i ∧ Below w9.heap.size w9 wr) (fun v13 _ => 20 - (intOf v13).toNat)
              · exact ⟨0, by omega, rfl, Below.refl _ _⟩
              · obtain ⟨i, hi20, rfl, hb⟩ := hrel
                by_cases hlt : i < 20
                · obtain ⟨g1, us1, e1, ho1, hall1⟩ := HU9.out
                  obtain ⟨g2, us2, e2, ho2, hall2⟩ := HX9.out
                  simp only [Value.slice.injEq, Option.some.injEq, Addr.mk.injEq, and_true] at e1 e2
                  subst e1 e2
                  obtain ⟨u1, hu1, hr1⟩ := hall1 i hlt
                  obtain ⟨u2, hu2, hr2⟩ := hall2 i hlt
                  have x1 := UnitsAt.cell ho1 hu1
                  have x2 := UnitsAt.cell ho2 hu2
                  have y1 := (hb.cell (lt_of_cell x1)).trans x1
                  have y2 := (hb.cell (lt_of_cell x2)).trans x2
                  have HR1 := hid ((hr1.row (by have := HU20.out i; unfold unitsL maxLen; omega)).on hb)
                  have HR2 := hid ((hr2.row (by have := HU20.out i; unfold unitsL maxLen; omega)).on hb)
                  obtain ⟨ad1, cap1, e1⟩ := hr1.shape
                  obtain ⟨ad2, cap2, e2⟩ := hr2.shape
                  subst e1 e2
                  have HBB := hid hb
                  have hlt2 : (i : Int) < 20 := by omega
                  clear ho1 ho2 hall1 hall2 hu1 hu2 hr1 hr2 x1 x2 hb
                  go_wp2
                  go_region_law (go_simp; go_at_call 23; refine (ints_any (unitsL rs i) _ _ _ (HR1.out.on ((Below.refl _ _).drew)) (HR2.out.on ((Below.refl _ _).drew))).mono ?_; rintro e wz ⟨rfl, bel⟩; have HBZ := hid (HBB.out.trans ((((Below.refl _ _).drew).trans bel).mono HBB.out.size)); clear bel)
                  all_goals
                    go_wp2
                    go_roundw
                    · exact ⟨i + 1, by omega, by simp, HBZ.out⟩
                    · simp [intOf]; omega
                · obtain rfl : i = 20 := by omega
                  have HBB := hid hb
                  clear hb
                  go_wp2
                  go_ret
                  exact ⟨rfl, HB9.out.trans (HBB.out.mono HB9.out.size)⟩

theorem own : ownKnob Tryd.prog.godebug = none := by kernel_rfl

theorem table {W : World} (h : laidMetH Tryd.prog Rows.gramChecksRow.laid W) : Tab W := by
  rw [MakeChecks.laidMetH_plain _ _ _ (by kernel_rfl)] at h
  exact tab_of_laid h

set_option maxRecDepth 100000 in
theorem lifted (os : Os) (started : os.Started) (H : Type) (enc : TypeId × Value → H) :
    ReturnsInHanded {} Tryd.checked os 4 .any (fun w args => (Rows.gramChecksSpec.pre enc Tryd.prog Tryd.f4 Rows.gramChecksRow.domain false w args ∧ laidMetH Tryd.prog Rows.gramChecksRow.laid w) ∧ sizedMet enc Tryd.prog Tryd.f4 (OpenSpec.ofChange Rows.gramChecksSpec) false w args)
      (Rows.gramChecksSpec.post enc Tryd.prog Tryd.f4 false true false false) := by
  refine returnsInHanded_of_change_and (C := Tryd.checked) (X := fun w _ => laidMetH Tryd.prog Rows.gramChecksRow.laid w) (fun _ _ _ hh h => h.of_heap hh) own started (by kernel_rfl) Tryd.func4
    (ChangeSpec.witness_shaped (enc := enc) (C := Tryd.checked) (os := os) (X := fun w _ => laidMetH Tryd.prog Rows.gramChecksRow.laid w) false (World.laidAll Tryd.prog os Rows.gramChecksRow.laid) #[.slice none 0 0, .int .i64 0, .int .i64 0] 8 (World.laidAll_os _ _ _)
      (World.shaped_of_ZipB (by kernel_rfl) (by kernel_rfl)) (by kernel_rfl) (by kernel_rfl) (by kernel_rfl)
      (by rw [MakeChecks.laidMetH_plain _ _ _ (by kernel_rfl)]; exact laidMet_laidAll _ (by kernel_rfl) (by kernel_rfl))) ?_
  intro W base args ds gs before hval0 hW _ _ hL _
  have hval : ∀ (j : Nat) t v, Tryd.f4.params[j]? = some t → args[j]? = some v → Value.okWide Tryd.prog W .any base t v := hval0
  have hW' := hW
  obtain ⟨p, q, hA0, hV, rfl, hfz, hnd⟩ := hW
  have hA : DataW.TrodAll enc Tryd.prog W 0 (fun _ => true) true Tryd.f4.params.toList args.toList ds p := hA0
  rw [Tryd.params4] at hA hval
  obtain ⟨v0, vs0, d0, ds0, p0, q0, hargs, rfl, rfl, h0, r0⟩ := trodAll_cons hA
  obtain ⟨v1, vs1, d1, ds1, p1, q1, rfl, rfl, rfl, h1, r1⟩ := trodAll_cons r0
  obtain ⟨v2, vs2, d2, ds2, p2, q2, rfl, rfl, rfl, h2, r2⟩ := trodAll_cons r1
  obtain ⟨rfl, rfl, rfl⟩ := trodAll_nil r2
  obtain rfl : args = #[v0, v1, v2] := by cases args; simp_all
  obtain ⟨rfl, rfl⟩ := trodVars_none hV
  obtain ⟨x0, w0⟩ := raws_of (hval 0 27 v0 rfl rfl) h0
  have l0 : ∀ x ∈ p0, x.block < W.heap.size := fun x hx => hW'.lt x (by simp [hx])
  obtain ⟨a1, rfl, rfl, rfl, w1⟩ := open_int Tryd.underlying3 (hval 1 3 v1 rfl rfl) h1
  obtain ⟨a2, rfl, rfl, rfl, w2⟩ := open_int Tryd.underlying3 (hval 2 3 v2 rfl rfl) h2
  clear hA0 hval0
  refine (walk v0 x0 a1 a2 W w0 w1 w2 (table hL)).mono fun e W' ⟨he, bel⟩ => ?_
  subst he
  exact ⟨_, rfl, _, _, _, _, _, [], hW', trodAll_mk1 (shut_bool Tryd.underlying4 _), (trodAll_cons_mk (Below.trod (by kernel_rfl) (by kernel_rfl) (of_decide_eq_true (by kernel_rfl)) h0 bel l0) (trodAll_cons_mk (shut_int Tryd.underlying3 w1) (trodAll_cons_mk (shut_int Tryd.underlying3 w2) trodAll_mk0))), rfl, bel.frame _, fun h => by cases h⟩

theorem row_holds : Rows.GramChecksSaid :=
  OpenClaim.holds_of_wide 4 Tryd.f4 rfl rfl rfl rfl rfl rfl rfl ⟨rfl, rfl, rfl, rfl, rfl⟩ rfl rfl rfl rfl rfl (by kernel_rfl) Tryd.func4 (by kernel_rfl)
    (of_decide_eq_true (by kernel_rfl)) (by unfold Func.isWrapper; first | (rw [if_pos (by decide +kernel)]; kernel_rfl) | (rw [if_neg (by decide +kernel)]; exact ⟨rfl, rfl⟩))
    (fun os started H enc _ => lifted os started H enc)

theorem gramChecks_holds : Rows.GramChecksCardSaid :=
  Claim7.holds_tied_plain_at .later [] _ _ _ _ row_holds (fun _ h => by cases h) (by kernel_rfl) (fun _ h => by cases h) gramChecks_row_tie rfl ⟨rfl, rfl⟩ (by kernel_rfl) rfl
    (fun f fn hf hfn => by
      obtain rfl : f = 4 := Option.some.inj ((show Tryd.prog.funcNamed "interlocutor/interlocutorlaw4.GramChecks" = some 4 by kernel_rfl).symm.trans hf) |>.symm
      obtain rfl : fn = Tryd.f4 := (Option.some.inj (Tryd.func4.symm.trans hfn)).symm
      exact ⟨by kernel_rfl, fun j t ht => by
        rw [Tryd.params4] at ht
        have hm : t ∈ [27, 3, 3] := by simpa using Array.mem_of_getElem? ht
        have hall : ([27, 3, 3].all fun u => !Tryd.prog.wantsStandIn u) = true := by kernel_rfl
        exact (show Tryd.prog.wantsStandIn t = false by simpa using List.all_eq_true.1 hall t hm)⟩)
    (by kernel_rfl)

end Go.Proofs.YtgpkgkmjppphgaaDoor
