/- RankParts answers true of any numbers: the best of two rows is the best of their bests. The tables of the library are as listed. -/
import Derived.Test.YtjocpbcmehicmaaDoorCards
import Derived.Test.YtjocpbcmehicmaaDoorTie
import Derived.Test.YtjocpbcmehicmaaDoorApp
import Derived.Test.YtjocpbcmehicmaaDoorSame
import Derived.Test.YtjocpbcmehicmaaDoorMath3
import Derived.ProofKit
import Derived.OpenShut
import Derived.Lay
import Derived.SevenTiedAt
import Derived.Stop.Joined
import Derived.Lib.LaidTab
import Derived.Deep.Cut
import Derived.Deep.CutBlock
namespace Go.Proofs.YtjocpbcmehicmaaDoor
open Go.ChangeShapes Go.WideShapes Go.ChangeAt Go.RowKit


theorem RW.lit (B : Nat) (w : World) (hB : B ≤ w.heap.size) : RW B (w.alloc (.cells #[] 36)) (.slice (some ⟨w.heap.size, 0, none⟩) 0 0) [] :=
  ⟨⟨rfl, .inr ⟨w.heap.size, 0, #[], rfl, hB, new_row _ _, Nat.le_refl _, by unfold maxLen; omega, rfl, rfl⟩⟩, fun p hp => by simp at hp⟩
set_option maxRecDepth 8000 in
set_option maxHeartbeats 8000000 in
theorem walk (v0 : Value) (ns : List Int) (v1 : Value) (ms : List Int) (a2 : Int) (W : World) (w0 : IX W v0 ns) (w1 : IX W v1 ms) (w2 : (Lit.int .i64 a2).wf = true) (hT : Tab W) :
    Calls Tryd.prog 12 #[v0, v1, .int .i64 a2] W fun e W' => e = .returned (.bool true) ∧ Below W.heap.size W W' := by
  obtain ⟨b0, b1⟩ := wf_bd w2
  obtain ⟨F, hF⟩ := mk_ex
  have HK := hid (known_any W hT)
  have HW := hid fun w => within_any a2 50 w (by decide) (by decide) b0 b1
  have hk : 0 ≤ a2 % 50 ∧ a2 % 50 < 50 := by omega
  generalize a2 % 50 = k at *
  have HM := hid fun w (hb : Below W.heap.size W w) => make_any F hF ns v0 25 (by decide) W w w0 hb
  have HM2 := hid fun w (hb : Below W.heap.size W w) => make_any F hF ms v1 25 (by decide) W w w1 hb
  have hshape : ∃ ad n cap, v0 = .slice ad n cap := by obtain ⟨ad, cap, e, _⟩ := w0; exact ⟨ad, _, cap, e⟩
  obtain ⟨ad, n0, cap, rfl⟩ := hshape
  have hshape : ∃ ad n cap, v1 = .slice ad n cap := by obtain ⟨ad, cap, e, _⟩ := w1; exact ⟨ad, _, cap, e⟩
  obtain ⟨ad2, n1, cap2, rfl⟩ := hshape
  clear w0 w1 w2 hT
  go_enter Tryd.func12, Tryd.ntmps12
  go_wp2_with fail
  refine HK.out.mono ?_
  rintro e wb ⟨rfl, hb⟩
  have HB := hid hb
  clear hb
  go_wp2_with fail
  refine (HM.out wb HB.out).mono ?_
  rintro e wc ⟨u, rfl, ps, hps, hrw, hb⟩
  have HBC := hid (HB.out.trans (hb.mono HB.out.size))
  have hl : ps.length ≤ 25 := by have := congrArg List.length hps; rw [List.length_map, List.length_take] at this; omega
  have HP := hid hrw
  clear hps hrw hb
  go_wp2_with fail
  refine (HM2.out wc HBC.out).mono ?_
  rintro e wd ⟨u2, rfl, qs, hqs, hrw, hb⟩
  have HBD := hid (HBC.out.trans (hb.mono HBC.out.size))
  have hl2 : qs.length ≤ 25 := by have := congrArg List.length hqs; rw [List.length_map, List.length_take] at this; omega
  have HP1 := hid (HP.out.on hb)
  have HQ1 := hid hrw
  have HLC := hid HBC.out.size
  clear hqs hrw hb HP
  go_wp2_with fail
  refine (HW.out _).mono ?_
  rintro e we ⟨rfl, hw⟩
  obtain rfl := hw.symm
  clear hw
  have E0 := hid (RW.lit W.heap.size wd HBD.out.size)
  have SP := hid (HP1.out.rs.low HB.out.size)
  have SQ := hid (HQ1.out.rs.low HBC.out.size)
  have S1 := hid (SP.out.on (up_alloc wd (.cells #[] 36)))
  have N1 : Hid (∀ q ∈ ps, ∀ b, q.1.ownBlock = some b → (Value.slice (some ⟨wd.heap.size, 0, none⟩) 0 0).ownBlock ≠ some b) := hid (fun q hq b hqb e => by
    have := ((HP1.out.nums q hq).1.lt hqb).2
    injection e with e
    dsimp only at e
    omega)
  have hdz := HBD.out.size
  go_wp2_with (at_builtin; refine Hid.out ?_)
  refine hid ?_
  refine wpList_append_rs rfl _ _ rfl rfl rfl E0.out S1.out N1.out (by simp; omega) (by simp; omega) ?_
  intro v5 w5 hr hb hv
  have R5 := hid hr
  have HB5 := hid (show Below wd.heap.size wd w5 from ((Below.refl _ _).alloc (Nat.le_refl _) _).trans (hb wd.heap.size (by simp) (fun k hk => by injection hk with hk; exact Nat.le_of_eq hk)))
  have V5 : Hid (∀ b, v5.ownBlock = some b → wd.heap.size ≤ b) := hid (fun b e => by
    rcases hv with hv | hv
    · rw [hv] at e; injection e with e; exact Nat.le_of_eq e
    · rw [hv] at e; injection e with e; rw [← e]; simp)
  have S2 := hid (SQ.out.on HB5.out)
  have N2 : Hid (∀ q ∈ qs, ∀ b, q.1.ownBlock = some b → v5.ownBlock ≠ some b) := hid (fun q hq b hqb e => by
    have := ((HQ1.out.nums q hq).1.lt hqb).2
    have := V5.out b e
    omega)
  rw [List.nil_append] at R5
  clear hr hb hv N1 S1 E0
  go_wp2_with (at_builtin; refine Hid.out ?_)
  refine hid ?_
  refine wpList_append_rs rfl _ _ rfl rfl rfl R5.out S2.out N2.out (by omega) (by have := HB5.out.size; omega) ?_
  intro v6 w6 hr hb hv
  have R6 := hid hr
  have HB6 := hid (HB5.out.trans ((hb wd.heap.size HB5.out.size V5.out)))
  clear hr hb hv N2 S2 R5
  have hlen : ((ps ++ qs).map Prod.snd).length ≤ 50 := by simp; omega
  have HBE := hid (best_any _ v6 k w6 (R6.out.ra (by simp; omega)) hk.1)
  rw [List.map_append] at HBE
  go_wp2_with fail
  refine HBE.out.mono ?_
  rintro e w7 ⟨o1, va, hb1, rfl, hro, hb⟩
  have O1 := hid hb1
  have RA1 := hid hro
  have HB7 := hid (HB6.out.trans (hb.mono HB6.out.size))
  generalize decide (k < (o1.length : Int)) = cut1 at *
  clear hb1 hro hb HBE R6
  have HBE := hid (best_any _ u 100 w7 ((HP1.out.on HB7.out).ra (by omega)) (by decide))
  go_wp2_with fail
  refine HBE.out.mono ?_
  rintro e w8 ⟨o2, vb, hb2, rfl, hro, hb⟩
  have O2 := hid hb2
  have len2 : o2.length ≤ 25 := by have := hb2.len; rw [List.length_map] at this; omega
  rw [List.take_of_length_le (show o2.length ≤ (100 : Int).toNat by have : (100 : Int).toNat = 100 := rfl; omega)] at hro
  obtain ⟨p2, e2, s2⟩ := hro.rs
  have T2 := hid (s2.low HB7.out.size)
  have RA1 := hid (RA1.out.on hb)
  have HB8 := hid (HB7.out.trans (hb.mono HB7.out.size))
  have hp2 : p2.length ≤ 25 := by have := congrArg List.length e2; rw [List.length_map] at this; omega
  have E2 := hid e2
  generalize decide ((100 : Int) < (o2.length : Int)) = cut2 at *
  clear hb2 hro hb HBE s2 e2
  have HBE := hid (best_any _ u2 100 w8 ((HQ1.out.on HB8.out).ra (by omega)) (by decide))
  go_wp2_with fail
  refine HBE.out.mono ?_
  rintro e w9 ⟨o3, vc, hb3, rfl, hro, hb⟩
  have O3 := hid hb3
  have len3 : o3.length ≤ 25 := by have := hb3.len; rw [List.length_map] at this; omega
  rw [List.take_of_length_le (show o3.length ≤ (100 : Int).toNat by have : (100 : Int).toNat = 100 := rfl; omega)] at hro
  obtain ⟨p3, e3, s3⟩ := hro.rs
  have T3 := hid (s3.low HB8.out.size)
  have T2 := hid ((T2.out.on hb))
  have RA1 := hid (RA1.out.on hb)
  have HB9 := hid (HB8.out.trans (hb.mono HB8.out.size))
  have hp3 : p3.length ≤ 25 := by have := congrArg List.length e3; rw [List.length_map] at this; omega
  have E3 := hid e3
  generalize decide ((100 : Int) < (o3.length : Int)) = cut3 at *
  clear hb3 hro hb HBE s3 e3
  have d9 := HB9.out.size
  have E0 := hid (RW.lit wd.heap.size w9 d9)
  have S1 := hid (T2.out.on (up_alloc w9 (.cells #[] 36)))
  have N1 : Hid (∀ q ∈ p2, ∀ b, q.1.ownBlock = some b → (Value.slice (some ⟨w9.heap.size, 0, none⟩) 0 0).ownBlock ≠ some b) := hid (fun q hq b hqb e => by
    have := ((T2.out.2 q hq).lt hqb).2
    injection e with e
    dsimp only at e
    omega)
  go_wp2_with (at_builtin; refine Hid.out ?_)
  refine hid ?_
  refine wpList_append_rs rfl _ _ rfl rfl rfl E0.out S1.out N1.out (by simp; omega) (by simp; omega) ?_
  intro v10 w10 hr hb hv
  have R5 := hid hr
  have HB10 := hid (show Below w9.heap.size w9 w10 from ((Below.refl _ _).alloc (Nat.le_refl _) _).trans (hb w9.heap.size (by simp) (fun k hk => by injection hk with hk; exact Nat.le_of_eq hk)))
  have V5 : Hid (∀ b, v10.ownBlock = some b → w9.heap.size ≤ b) := hid (fun b e => by
    rcases hv with hv | hv
    · rw [hv] at e; injection e with e; exact Nat.le_of_eq e
    · rw [hv] at e; injection e with e; rw [← e]; simp)
  have S2 := hid (T3.out.on HB10.out)
  have N2 : Hid (∀ q ∈ p3, ∀ b, q.1.ownBlock = some b → v10.ownBlock ≠ some b) := hid (fun q hq b hqb e => by
    have := ((T3.out.2 q hq).lt hqb).2
    have := V5.out b e
    omega)
  rw [List.nil_append] at R5
  clear hr hb hv N1 S1 E0
  go_wp2_with (at_builtin; refine Hid.out ?_)
  refine hid ?_
  refine wpList_append_rs rfl _ _ rfl rfl rfl R5.out S2.out N2.out (by omega) (by have := HB10.out.size; omega) ?_
  intro v11 w11 hr hb hv
  have R6 := hid hr
  have HB11 := hid (HB10.out.trans ((hb w9.heap.size HB10.out.size V5.out)))
  clear hr hb hv N2 S2 R5
  have HBE := hid (best_any _ v11 k w11 (R6.out.ra (by simp; omega)) hk.1)
  rw [List.map_append, E2.out, E3.out] at HBE
  go_wp2_with fail
  refine HBE.out.mono ?_
  rintro e w12 ⟨o4, vd, hb4, rfl, hro, hb⟩
  obtain rfl : o4 = o1 := (O2.out.parts O3.out hb4).unique O1.out
  have HSA := hid (same_any _ va vd w12 (((RA1.out.on HB11.out).on hb).ra) hro.ra)
  have HB12 := hid (HB9.out.trans ((HB11.out.trans (hb.mono HB11.out.size)).mono HB9.out.size))
  generalize decide (k < (o4.length : Int)) = cut4 at *
  clear hb4 hro hb HBE
  go_wp2_with fail
  refine HSA.out.mono ?_
  rintro e w13 ⟨rfl, hb⟩
  have HB13 := hid (HBD.out.trans ((HB12.out.trans (hb.mono HB12.out.size)).mono HBD.out.size))
  clear hb
  go_wp2
  go_ret
  exact ⟨rfl, HB13.out⟩

theorem own : ownKnob Tryd.prog.godebug = none := by kernel_rfl

theorem table {W : World} (h : laidMetH Tryd.prog Rows.rankPartsRow.laid W) : Tab W := by
  rw [MakeChecks.laidMetH_plain _ _ _ (by kernel_rfl)] at h
  exact tab_of_laid h

set_option maxRecDepth 100000 in
theorem lifted (os : Os) (started : os.Started) (H : Type) (enc : TypeId × Value → H) :
    ReturnsInHanded {} Tryd.checked os 12 .any (fun w args => (Rows.rankPartsSpec.pre enc Tryd.prog Tryd.f12 Rows.rankPartsRow.domain false w args ∧ laidMetH Tryd.prog Rows.rankPartsRow.laid w) ∧ sizedMet enc Tryd.prog Tryd.f12 (OpenSpec.ofChange Rows.rankPartsSpec) false w args)
      (Rows.rankPartsSpec.post enc Tryd.prog Tryd.f12 false true false false) := by
  refine returnsInHanded_of_change_and (C := Tryd.checked) (X := fun w _ => laidMetH Tryd.prog Rows.rankPartsRow.laid w) (fun _ _ _ hh h => h.of_heap hh) own started (by kernel_rfl) Tryd.func12
    (ChangeSpec.witness_shaped (enc := enc) (C := Tryd.checked) (os := os) (X := fun w _ => laidMetH Tryd.prog Rows.rankPartsRow.laid w) false (World.laidAll Tryd.prog os Rows.rankPartsRow.laid) #[.slice none 0 0, .slice none 0 0, .int .i64 0] 8 (World.laidAll_os _ _ _)
      (World.shaped_of_ZipB (by kernel_rfl) (by kernel_rfl)) (by kernel_rfl) (by kernel_rfl) (by kernel_rfl)
      (by rw [MakeChecks.laidMetH_plain _ _ _ (by kernel_rfl)]; exact laidMet_laidAll _ (by kernel_rfl) (by kernel_rfl))) ?_
  intro W base args ds gs before hval0 hW _ _ hL _
  have hval : ∀ (j : Nat) t v, Tryd.f12.params[j]? = some t → args[j]? = some v → Value.okWide Tryd.prog W .any base t v := hval0
  have hW' := hW
  obtain ⟨p, q, hA0, hV, rfl, hfz, hnd⟩ := hW
  have hA : DataW.TrodAll enc Tryd.prog W 0 (fun _ => true) true Tryd.f12.params.toList args.toList ds p := hA0
  rw [Tryd.params12] at hA hval
  obtain ⟨v0, vs0, d0, ds0, p0, q0, hargs, rfl, rfl, h0, r0⟩ := trodAll_cons hA
  obtain ⟨v1, vs1, d1, ds1, p1, q1, rfl, rfl, rfl, h1, r1⟩ := trodAll_cons r0
  obtain ⟨v2, vs2, d2, ds2, p2, q2, rfl, rfl, rfl, h2, r2⟩ := trodAll_cons r1
  obtain ⟨rfl, rfl, rfl⟩ := trodAll_nil r2
  obtain rfl : args = #[v0, v1, v2] := by cases args; simp_all
  obtain ⟨rfl, rfl⟩ := trodVars_none hV
  obtain ⟨x0, w0⟩ := ints_at (hval 0 22 v0 rfl rfl) h0
  have l0 : ∀ x ∈ p0, x.block < W.heap.size := fun x hx => hW'.lt x (by simp [hx])
  obtain ⟨x1, w1⟩ := ints_at (hval 1 22 v1 rfl rfl) h1
  have l1 : ∀ x ∈ p1, x.block < W.heap.size := fun x hx => hW'.lt x (by simp [hx])
  obtain ⟨a2, rfl, rfl, rfl, w2⟩ := open_int Tryd.underlying3 (hval 2 3 v2 rfl rfl) h2
  clear hA0 hval0
  refine (walk v0 x0 v1 x1 a2 W w0 w1 w2 (table hL)).mono fun e W' ⟨he, bel⟩ => ?_
  subst he
  exact ⟨_, rfl, _, _, _, _, _, [], hW', trodAll_mk1 (shut_bool Tryd.underlying4 _), (trodAll_cons_mk (Below.trod (by kernel_rfl) (by kernel_rfl) (of_decide_eq_true (by kernel_rfl)) h0 bel l0) (trodAll_cons_mk (Below.trod (by kernel_rfl) (by kernel_rfl) (of_decide_eq_true (by kernel_rfl)) h1 bel l1) (trodAll_cons_mk (shut_int Tryd.underlying3 w2) trodAll_mk0))), rfl, bel.frame _, fun h => by cases h⟩

theorem row_holds : Rows.RankPartsSaid :=
  OpenClaim.holds_of_wide 12 Tryd.f12 rfl rfl rfl rfl rfl rfl rfl ⟨rfl, rfl, rfl, rfl, rfl⟩ rfl rfl rfl rfl rfl (by kernel_rfl) Tryd.func12 (by kernel_rfl)
    (of_decide_eq_true (by kernel_rfl)) (by unfold Func.isWrapper; first | (rw [if_pos (by decide +kernel)]; kernel_rfl) | (rw [if_neg (by decide +kernel)]; exact ⟨rfl, rfl⟩))
    (fun os started H enc _ => lifted os started H enc)

theorem rankParts_holds : Rows.RankPartsCardSaid :=
  Claim7.holds_tied_plain_at .later [] _ _ _ _ row_holds (fun _ h => by cases h) (by kernel_rfl) (fun _ h => by cases h) rankParts_row_tie rfl ⟨rfl, rfl⟩ (by kernel_rfl) rfl
    (fun f fn hf hfn => by
      obtain rfl : f = 12 := Option.some.inj ((show Tryd.prog.funcNamed "interlocutor/interlocutorlaw10.RankParts" = some 12 by kernel_rfl).symm.trans hf) |>.symm
      obtain rfl : fn = Tryd.f12 := (Option.some.inj (Tryd.func12.symm.trans hfn)).symm
      exact ⟨by kernel_rfl, fun j t ht => by
        rw [Tryd.params12] at ht
        have hm : t ∈ [22, 22, 3] := by simpa using Array.mem_of_getElem? ht
        have hall : ([22, 22, 3].all fun u => !Tryd.prog.wantsStandIn u) = true := by kernel_rfl
        exact (show Tryd.prog.wantsStandIn t = false by simpa using List.all_eq_true.1 hall t hm)⟩)
    (by kernel_rfl)

end Go.Proofs.YtjocpbcmehicmaaDoor
