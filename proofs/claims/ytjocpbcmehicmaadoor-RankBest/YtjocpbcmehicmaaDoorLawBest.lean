/- RankBest answers true of any numbers: the best are those that the reference tells, as many as one likes. The tables of the library are as listed. -/
import Derived.Test.YtjocpbcmehicmaaDoorCards
import Derived.Test.YtjocpbcmehicmaaDoorTie
import Derived.Test.YtjocpbcmehicmaaDoorMake
import Derived.Test.YtjocpbcmehicmaaDoorSame
import Derived.Test.YtjocpbcmehicmaaDoorMath3
import Derived.Test.YtjocpbcmehicmaaDoorRBest
import Derived.ProofKit
import Derived.OpenShut
import Derived.Lay
import Derived.SevenTiedAt
import Derived.Stop.Joined
import Derived.Lib.LaidTab
import Derived.Deep.Cut
import Derived.Deep.CutBlock
namespace Go.Proofs.YtjocpbcmehicmaaDoor
open Go.ChangeShapes Go.WideShapes Go.ChangeAt Go.RowKit


set_option maxRecDepth 8000 in
set_option maxHeartbeats 8000000 in
theorem walk (v0 : Value) (ns : List Int) (a1 : Int) (W : World) (w0 : IX W v0 ns) (w1 : (Lit.int .i64 a1).wf = true) (hT : Tab W) :
    Calls Tryd.prog 4 #[v0, .int .i64 a1] W fun e W' => e = .returned (.bool true) ∧ Below W.heap.size W W' := by
  obtain ⟨b0, b1⟩ := wf_bd w1
  obtain ⟨F, hF⟩ := mk_ex
  have HK := hid (known_any W hT)
  have HW := hid fun w => within_any a1 50 w (by decide) (by decide) b0 b1
  have hk : 0 ≤ a1 % 50 ∧ a1 % 50 < 50 := by omega
  generalize a1 % 50 = k0 at *
  obtain ⟨k, rfl⟩ : ∃ n : Nat, k0 = (n : Int) := ⟨k0.toNat, by omega⟩
  have HM := hid fun w (hb : Below W.heap.size W w) => make_any F hF ns v0 40 (by decide) W w w0 hb
  have hshape : ∃ ad n cap, v0 = .slice ad n cap := by obtain ⟨ad, cap, e, _⟩ := w0; exact ⟨ad, _, cap, e⟩
  obtain ⟨ad, n0, cap, rfl⟩ := hshape
  clear w0 w1 hT
  go_enter Tryd.func4, Tryd.ntmps4
  go_wp2_with fail
  refine HK.out.mono ?_
  rintro e wb ⟨rfl, hb⟩
  have HB := hid hb
  clear hb
  go_wp2_with fail
  refine (HM.out wb HB.out).mono ?_
  rintro e w2 ⟨u, rfl, ps, hps, hrw, hb⟩
  have HB2 := hid (HB.out.trans (hb.mono HB.out.size))
  have hl : (ps.map Prod.snd).length ≤ 40 := by rw [hps, List.length_take]; omega
  have hln : ps.length ≤ 40 := by rw [List.length_map] at hl; exact hl
  have HRA := hid (hrw.ra (by omega))
  have HRB := hid hrw.rb
  have HWS := hid hb.size
  clear hps hrw hb hl
  go_wp2_with fail
  refine (HW.out _).mono ?_
  rintro e w3 ⟨rfl, hw⟩
  obtain rfl := hw.symm
  clear hw
  have HBE := hid (best_any _ u k w2 HRA.out (by omega))
  go_wp2_with fail
  refine HBE.out.mono ?_
  rintro e w4 ⟨out, v4, hbest, rfl, hro, hb4⟩
  obtain rfl := hbest.eq
  rw [Int.toNat_natCast] at hro
  have HRO := hid hro.ra
  have HB4 := hid (HB2.out.trans (hb4.mono HB2.out.size))
  have HRB4 := hid (HRB.out.on hb4)
  have HS4 := hid (Nat.le_trans HWS.out hb4.size)
  have HLN : Hid (((bestR (ps.map Prod.snd)).take k).length ≤ 40) := hid (by
    have := len_bestR (ps.map Prod.snd)
    rw [List.length_map] at this
    rw [List.length_take]
    omega)
  clear hbest hro hb4 HBE
  have HBE := hid (rbest_any _ w4 u ps k HRB4.out (by omega) HS4.out (by omega))
  generalize bestR (ps.map Prod.snd) = l at *
  generalize hcut : decide ((k : Int) < (l.length : Int)) = cut at *
  clear hcut
  go_wp2_with fail
  refine HBE.out.mono ?_
  rintro e w5 ⟨v5, os, rfl, hrb, hos, hb5⟩
  have hr5 := hrb.ra (by have := congrArg List.length hos; rw [List.length_map] at this; have := HLN.out; omega)
  rw [hos] at hr5
  have HB5 := hid (HB4.out.trans (hb5.mono HB4.out.size))
  have HSA := hid (same_any _ v4 v5 w5 (HRO.out.on hb5) hr5)
  clear hrb hos hr5 hb5 HBE
  go_wp2_with fail
  refine HSA.out.mono ?_
  rintro e w6 ⟨rfl, hb6⟩
  have HB6 := hid (HB5.out.trans (hb6.mono HB5.out.size))
  clear hb6
  go_wp2
  go_ret
  exact ⟨rfl, HB6.out⟩

theorem own : ownKnob Tryd.prog.godebug = none := by kernel_rfl

theorem table {W : World} (h : laidMetH Tryd.prog Rows.rankBestRow.laid W) : Tab W := by
  rw [MakeChecks.laidMetH_plain _ _ _ (by kernel_rfl)] at h
  exact tab_of_laid h

set_option maxRecDepth 100000 in
theorem lifted (os : Os) (started : os.Started) (H : Type) (enc : TypeId × Value → H) :
    ReturnsInHanded {} Tryd.checked os 4 .any (fun w args => (Rows.rankBestSpec.pre enc Tryd.prog Tryd.f4 Rows.rankBestRow.domain false w args ∧ laidMetH Tryd.prog Rows.rankBestRow.laid w) ∧ sizedMet enc Tryd.prog Tryd.f4 (OpenSpec.ofChange Rows.rankBestSpec) false w args)
      (Rows.rankBestSpec.post enc Tryd.prog Tryd.f4 false true false false) := by
  refine returnsInHanded_of_change_and (C := Tryd.checked) (X := fun w _ => laidMetH Tryd.prog Rows.rankBestRow.laid w) (fun _ _ _ hh h => h.of_heap hh) own started (by kernel_rfl) Tryd.func4
    (ChangeSpec.witness_shaped (enc := enc) (C := Tryd.checked) (os := os) (X := fun w _ => laidMetH Tryd.prog Rows.rankBestRow.laid w) false (World.laidAll Tryd.prog os Rows.rankBestRow.laid) #[.slice none 0 0, .int .i64 0] 8 (World.laidAll_os _ _ _)
      (World.shaped_of_ZipB (by kernel_rfl) (by kernel_rfl)) (by kernel_rfl) (by kernel_rfl) (by kernel_rfl)
      (by rw [MakeChecks.laidMetH_plain _ _ _ (by kernel_rfl)]; exact laidMet_laidAll _ (by kernel_rfl) (by kernel_rfl))) ?_
  intro W base args ds gs before hval0 hW _ _ hL _
  have hval : ∀ (j : Nat) t v, Tryd.f4.params[j]? = some t → args[j]? = some v → Value.okWide Tryd.prog W .any base t v := hval0
  have hW' := hW
  obtain ⟨p, q, hA0, hV, rfl, hfz, hnd⟩ := hW
  have hA : DataW.TrodAll enc Tryd.prog W 0 (fun _ => true) true Tryd.f4.params.toList args.toList ds p := hA0
  rw [Tryd.params4] at hA hval
  obtain ⟨v0, vs0, d0, ds0, p0, q0, hargs, rfl, rfl, h0, r0⟩ := trodAll_cons hA
  obtain ⟨v1, vs1, d1, ds1, p1, q1, rfl, rfl, rfl, h1, r1⟩ := trodAll_cons r0
  obtain ⟨rfl, rfl, rfl⟩ := trodAll_nil r1
  obtain rfl : args = #[v0, v1] := by cases args; simp_all
  obtain ⟨rfl, rfl⟩ := trodVars_none hV
  obtain ⟨x0, w0⟩ := ints_at (hval 0 22 v0 rfl rfl) h0
  have l0 : ∀ x ∈ p0, x.block < W.heap.size := fun x hx => hW'.lt x (by simp [hx])
  obtain ⟨a1, rfl, rfl, rfl, w1⟩ := open_int Tryd.underlying3 (hval 1 3 v1 rfl rfl) h1
  clear hA0 hval0
  refine (walk v0 x0 a1 W w0 w1 (table hL)).mono fun e W' ⟨he, bel⟩ => ?_
  subst he
  exact ⟨_, rfl, _, _, _, _, _, [], hW', trodAll_mk1 (shut_bool Tryd.underlying4 _), (trodAll_cons_mk (Below.trod (by kernel_rfl) (by kernel_rfl) (of_decide_eq_true (by kernel_rfl)) h0 bel l0) (trodAll_cons_mk (shut_int Tryd.underlying3 w1) trodAll_mk0)), rfl, bel.frame _, fun h => by cases h⟩

theorem row_holds : Rows.RankBestSaid :=
  OpenClaim.holds_of_wide 4 Tryd.f4 rfl rfl rfl rfl rfl rfl rfl ⟨rfl, rfl, rfl, rfl, rfl⟩ rfl rfl rfl rfl rfl (by kernel_rfl) Tryd.func4 (by kernel_rfl)
    (of_decide_eq_true (by kernel_rfl)) (by unfold Func.isWrapper; first | (rw [if_pos (by decide +kernel)]; kernel_rfl) | (rw [if_neg (by decide +kernel)]; exact ⟨rfl, rfl⟩))
    (fun os started H enc _ => lifted os started H enc)

theorem rankBest_holds : Rows.RankBestCardSaid :=
  Claim7.holds_tied_plain_at .later [] _ _ _ _ row_holds (fun _ h => by cases h) (by kernel_rfl) (fun _ h => by cases h) rankBest_row_tie rfl ⟨rfl, rfl⟩ (by kernel_rfl) rfl
    (fun f fn hf hfn => by
      obtain rfl : f = 4 := Option.some.inj ((show Tryd.prog.funcNamed "interlocutor/interlocutorlaw10.RankBest" = some 4 by kernel_rfl).symm.trans hf) |>.symm
      obtain rfl : fn = Tryd.f4 := (Option.some.inj (Tryd.func4.symm.trans hfn)).symm
      exact ⟨by kernel_rfl, fun j t ht => by
        rw [Tryd.params4] at ht
        have hm : t ∈ [22, 3] := by simpa using Array.mem_of_getElem? ht
        have hall : ([22, 3].all fun u => !Tryd.prog.wantsStandIn u) = true := by kernel_rfl
        exact (show Tryd.prog.wantsStandIn t = false by simpa using List.all_eq_true.1 hall t hm)⟩)
    (by kernel_rfl)

end Go.Proofs.YtjocpbcmehicmaaDoor
