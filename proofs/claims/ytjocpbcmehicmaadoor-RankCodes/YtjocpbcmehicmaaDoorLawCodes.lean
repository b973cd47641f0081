/- RankCodes answers true of any two values, any two numbers: any value's code is the document's; two have one just where they are the same. The tables of the library are as listed. -/
import Derived.Test.YtjocpbcmehicmaaDoorCards
import Derived.Test.YtjocpbcmehicmaaDoorTie
import Derived.Test.YtjocpbcmehicmaaDoorVal
import Derived.Test.YtjocpbcmehicmaaDoorCInj
import Derived.Test.YtjocpbcmehicmaaDoorCiExt
import Derived.ProofKit
import Derived.OpenShut
import Derived.Lay
import Derived.SevenTiedAt
import Derived.Stop.Joined
import Derived.Lib.LaidTab
import Derived.Deep.Cut
import Derived.Deep.CutBlock
namespace Go.Proofs.YtjocpbcmehicmaaDoor
open Go.ChangeShapes Go.WideShapes Go.ChangeAt Go.RowKit


set_option maxRecDepth 8000 in
set_option maxHeartbeats 8000000 in
theorem walk (v0 : Value) (x0 : Val) (v1 : Value) (x1 : Val) (n m : Int) (W : World) (w0 : VW W v0 x0) (w1 : VW W v1 x1) (w2 : (Lit.int .i64 n).wf = true) (w3 : (Lit.int .i64 m).wf = true) (hT : Tab W) :
    Calls Tryd.prog 7 #[v0, v1, .int .i64 n, .int .i64 m] W fun e W' => e = .returned (.bool true) ∧ Below W.heap.size W W' := by
  obtain ⟨ba, ba'⟩ := wf_bd w2
  obtain ⟨bb, bb'⟩ := wf_bd w3
  obtain ⟨a0, c0, rfl, V0, I0, m0⟩ := vw_ib w0
  obtain ⟨a1, c1, rfl, V1, I1, m1⟩ := vw_ib w1
  obtain ⟨wa, hwa⟩ : ∃ wa, wa = (W.alloc (.cells #[.int .i64 x0.kind, .slice a0 x0.f.length c0] 24)).alloc (.cells #[.int .i64 x1.kind, .slice a1 x1.f.length c1] 24) := ⟨_, rfl⟩
  have HB := hid (show Below W.heap.size W wa by rw [hwa]; exact up_trans (up_alloc _ _) (up_alloc _ _))
  have HR0 := hid (show wa.heap[W.heap.size]? = some (.cells #[.int .i64 x0.kind, .slice a0 x0.f.length c0] 24 (0, 0)) by rw [hwa, Below.heap_alloc _ _ _ (by simp)]; exact new_row _ _)
  have HR1 := hid (show wa.heap[W.heap.size + 1]? = some (.cells #[.int .i64 x1.kind, .slice a1 x1.f.length c1] 24 (0, 0)) by rw [hwa]; exact heap_alloc2_new _ _ _)
  have HK := hid (known_any wa (hT.on HB.out))
  have HT := hid (hT.on HB.out)
  have HV0 := hid V0
  have HV1 := hid V1
  have HI0 := hid I0
  have HI1 := hid I1
  have td7 : ∀ n : Int, I64 n → I64 (n.tdiv 7) ∧ I64 (n.tmod 7) := fun n h => by
    have h1 := Int.tmod_add_mul_tdiv n 7
    have h2 := Int.tmod_lt_of_pos n (show (0 : Int) < 7 by decide)
    have h3 := Int.tmod_lt_of_pos (-n) (show (0 : Int) < 7 by decide)
    rw [Int.neg_tmod] at h3
    unfold I64 at *
    omega
  obtain ⟨q1, q2⟩ := td7 n ⟨ba, ba'⟩
  obtain ⟨q3, q4⟩ := td7 m ⟨bb, bb'⟩
  obtain ⟨xc, hkc, ⟨ic, lc⟩, hc⟩ := lvalue_any (n.tmod 7) (n.tdiv 7) m q2 q1 ⟨bb, bb'⟩
  obtain ⟨xd, hkd, ⟨id_, ld⟩, hd⟩ := lvalue_any (m.tmod 7) (n.tdiv 7) m q4 q1 ⟨bb, bb'⟩
  clear hkc hkd
  have HC := hid hc
  have HD := hid hd
  have HIC := hid ic
  have HID := hid id_
  have HLL := hid (And.intro lc ld)
  obtain ⟨q1a, q1b⟩ := q1
  obtain ⟨q2a, q2b⟩ := q2
  obtain ⟨q4a, q4b⟩ := q4
  clear q3
  obtain ⟨n0, hn0⟩ : ∃ n, n = x0.f.length := ⟨_, rfl⟩
  obtain ⟨n1, hn1⟩ : ∃ n, n = x1.f.length := ⟨_, rfl⟩
  have HN0 := hid hn0
  have HN1 := hid hn1
  rw [← hn0] at m0 hwa HV0 HR0 ⊢
  rw [← hn1] at m1 hwa HV1 HR1 ⊢
  obtain ⟨k0, hk0⟩ : ∃ k, k = x0.kind := ⟨_, rfl⟩
  obtain ⟨k1, hk1⟩ : ∃ k, k = x1.kind := ⟨_, rfl⟩
  rw [← hk0] at hwa HV0 HR0 ⊢
  rw [← hk1] at hwa HV1 HR1 ⊢
  clear w0 w1 w2 w3 V0 V1 I0 I1 hT hn0 hn1 hk0 hk1 td7 hc hd ic id_ lc ld
  go_enter Tryd.func7, Tryd.ntmps7
  go_wp2_with fail
  rw [← hwa]
  clear hwa
  refine HK.out.mono ?_
  rintro e wb ⟨rfl, hbb⟩
  have HB2 := hid (HB.out.trans (hbb.mono HB.out.size))
  have HBB := hid hbb
  obtain ⟨p0, p1⟩ := box2 HR0.out hbb
  obtain ⟨q0, q1⟩ := box2 HR1.out hbb
  clear hbb
  by_cases g0 : (20 : Int) < (n0 : Int)
  · go_wp2
    go_ret
    exact ⟨rfl, HB2.out⟩
  by_cases g1 : (20 : Int) < (n1 : Int)
  · go_wp2
    go_ret
    exact ⟨rfl, HB2.out⟩
  have HA0 := hid (HV0.out (by omega))
  have HA1 := hid (HV1.out (by omega))
  go_wp2_with fail
  refine (HC.out _).mono ?_
  rintro e wc ⟨uc, rfl, huc, hbc⟩
  have HUC := hid huc
  have HBC := hid (HBB.out.trans (hbc.mono HBB.out.size))
  obtain ⟨fc, rfl, hfc⟩ := huc
  obtain ⟨adc, capc, rfl, _, _, _⟩ := hfc.ia.shape
  clear hbc hfc
  go_wp2_with fail
  refine (HD.out _).mono ?_
  rintro e wd ⟨ud, rfl, hud, hbd⟩
  have HUC2 := hid (HUC.out.on hbd)
  have HUD := hid hud
  have HBD := hid (HBC.out.trans (hbd.mono HBC.out.size))
  obtain ⟨fd, rfl, hfd⟩ := hud
  obtain ⟨add, capd, rfl, _, _, _⟩ := hfd.ia.shape
  clear hbd hfd HUC HC HD
  go_wp2_with fail
  obtain ⟨w6, hw6⟩ : ∃ w6, w6 = (wd.alloc (.cells #[.int .i64 xc.kind, .slice adc xc.f.length capc] 24)).alloc (.cells #[.int .i64 xd.kind, .slice add xd.f.length capd] 24) := ⟨_, rfl⟩
  have HB6 := hid (show Below wd.heap.size wd w6 by rw [hw6]; exact up_trans (up_alloc _ _) (up_alloc _ _))
  have HR2 := hid (show w6.heap[wd.heap.size]? = some (.cells #[.int .i64 xc.kind, .slice adc xc.f.length capc] 24 (0, 0)) by rw [hw6, Below.heap_alloc _ _ _ (by simp)]; exact new_row _ _)
  have HR3 := hid (show w6.heap[wd.heap.size + 1]? = some (.cells #[.int .i64 xd.kind, .slice add xd.f.length capd] 24 (0, 0)) by rw [hw6]; exact heap_alloc2_new _ _ _)
  rw [← hw6]
  clear hw6 p0 p1 q0 q1
  have hba : Below wa.heap.size wa w6 := HBD.out.trans (HB6.out.mono HBD.out.size)
  have hsx : ∀ s : Ci.Ext w6, Below wa.heap.size wa s.out := fun s => hba.trans (s.below.mono hba.size)
  have hsW : ∀ s : Ci.Ext w6, Below W.heap.size W s.out := fun s => HB.out.trans ((hsx s).mono HB.out.size)
  have P0 : ∀ s : Ci.Ext w6, s.out.cell? ⟨W.heap.size, 0, none⟩ = some (.int .i64 k0) := fun s => (box2 HR0.out (hsx s)).1
  have P1 : ∀ s : Ci.Ext w6, s.out.cell? ⟨W.heap.size, 1, none⟩ = some (.slice a0 n0 c0) := fun s => (box2 HR0.out (hsx s)).2
  have P2 : ∀ s : Ci.Ext w6, s.out.cell? ⟨W.heap.size + 1, 0, none⟩ = some (.int .i64 k1) := fun s => (box2 HR1.out (hsx s)).1
  have P3 : ∀ s : Ci.Ext w6, s.out.cell? ⟨W.heap.size + 1, 1, none⟩ = some (.slice a1 n1 c1) := fun s => (box2 HR1.out (hsx s)).2
  have P4 : ∀ s : Ci.Ext w6, s.out.cell? ⟨wd.heap.size, 0, none⟩ = some (.int .i64 xc.kind) := fun s => (box2 HR2.out s.below).1
  have P5 : ∀ s : Ci.Ext w6, s.out.cell? ⟨wd.heap.size, 1, none⟩ = some (.slice adc xc.f.length capc) := fun s => (box2 HR2.out s.below).2
  have P6 : ∀ s : Ci.Ext w6, s.out.cell? ⟨wd.heap.size + 1, 0, none⟩ = some (.int .i64 xd.kind) := fun s => (box2 HR3.out s.below).1
  have P7 : ∀ s : Ci.Ext w6, s.out.cell? ⟨wd.heap.size + 1, 1, none⟩ = some (.slice add xd.f.length capd) := fun s => (box2 HR3.out s.below).2
  have hx0 := fun s : Ci.Ext w6 => HA0.out.on (hsW s)
  have hx1 := fun s : Ci.Ext w6 => HA1.out.on (hsW s)
  have hxc := fun s : Ci.Ext w6 => ((HUC2.out.on HB6.out).on s.below).va
  have hxd := fun s : Ci.Ext w6 => ((HUD.out.on HB6.out).on s.below).va
  have hTs := fun s : Ci.Ext w6 => HT.out.on (hsx s)
  have KA := hid fun s : Ci.Ext w6 => (code_any x0 _ s.out (hx0 s) HI0.out (hTs s)).mono (fun e w' h => (⟨h.1, Ci.Ext.to s h.2⟩ : e = .returned (.string (codeS x0)) ∧ ∃ s' : Ci.Ext w6, w' = s'.out))
  have KR := hid fun s : Ci.Ext w6 => (rcode_any x0 _ s.out (hx0 s) HI0.out (by rw [← HN0.out]; omega)).mono (fun e w' h => (⟨h.1, Ci.Ext.to s h.2⟩ : e = .returned (.string (codeS x0)) ∧ ∃ s' : Ci.Ext w6, w' = s'.out))
  have KB := hid fun s : Ci.Ext w6 => (code_any x1 _ s.out (hx1 s) HI1.out (hTs s)).mono (fun e w' h => (⟨h.1, Ci.Ext.to s h.2⟩ : e = .returned (.string (codeS x1)) ∧ ∃ s' : Ci.Ext w6, w' = s'.out))
  have KC := hid fun s : Ci.Ext w6 => (code_any xc _ s.out (hxc s) HIC.out (hTs s)).mono (fun e w' h => (⟨h.1, Ci.Ext.to s h.2⟩ : e = .returned (.string (codeS xc)) ∧ ∃ s' : Ci.Ext w6, w' = s'.out))
  have KD := hid fun s : Ci.Ext w6 => (code_any xd _ s.out (hxd s) HID.out (hTs s)).mono (fun e w' h => (⟨h.1, Ci.Ext.to s h.2⟩ : e = .returned (.string (codeS xd)) ∧ ∃ s' : Ci.Ext w6, w' = s'.out))
  have KAB := hid fun s : Ci.Ext w6 => (cmp_any x0 x1 _ _ s.out (hx0 s) (hx1 s)).mono (fun e w' h => (⟨h.1, Ci.Ext.to s h.2.below⟩ : e = .returned (.int .i64 (cmpV x0 x1)) ∧ ∃ s' : Ci.Ext w6, w' = s'.out))
  have KCD := hid fun s : Ci.Ext w6 => (cmp_any xc xd _ _ s.out (hxc s) (hxd s)).mono (fun e w' h => (⟨h.1, Ci.Ext.to s h.2.below⟩ : e = .returned (.int .i64 (cmpV xc xd)) ∧ ∃ s' : Ci.Ext w6, w' = s'.out))
  have HSW := hid hsW
  have h01 := codeT x0 x1
  have hcd := codeT xc xd
  clear hx0 hx1 hxc hxd hTs hba hsx hsW
  refine Ci.wp_region_ext2 (by kernel_rfl) (by kernel_rfl) (fun hne hcell => ?_)
  clear hcell
  repeat (go_big_quiet_step ((first
    | (go_at_call 22; with_reducible exact KA.out _) | (go_at_call 22; with_reducible exact KB.out _) | (go_at_call 22; with_reducible exact KC.out _) | (go_at_call 22; with_reducible exact KD.out _)
    | (go_at_call 23; with_reducible exact KR.out _) | (go_at_call 14; with_reducible exact KAB.out _) | (go_at_call 14; with_reducible exact KCD.out _))))
  refine wpQuiet_nil ?_
  intro w7 hw7
  obtain ⟨s, rfl⟩ := hw7
  have HF := hid (HSW.out s)
  go_wp2
  go_ret
  exact ⟨rfl, HF.out⟩

theorem own : ownKnob Tryd.prog.godebug = none := by kernel_rfl

theorem table {W : World} (h : laidMetH Tryd.prog Rows.rankCodesRow.laid W) : Tab W := by
  rw [MakeChecks.laidMetH_plain _ _ _ (by kernel_rfl)] at h
  exact tab_of_laid h

set_option maxRecDepth 100000 in
theorem lifted (os : Os) (started : os.Started) (H : Type) (enc : TypeId × Value → H) :
    ReturnsInHanded {} Tryd.checked os 7 .any (fun w args => (Rows.rankCodesSpec.pre enc Tryd.prog Tryd.f7 Rows.rankCodesRow.domain false w args ∧ laidMetH Tryd.prog Rows.rankCodesRow.laid w) ∧ sizedMet enc Tryd.prog Tryd.f7 (OpenSpec.ofChange Rows.rankCodesSpec) false w args)
      (Rows.rankCodesSpec.post enc Tryd.prog Tryd.f7 false true false false) := by
  refine returnsInHanded_of_change_and (C := Tryd.checked) (X := fun w _ => laidMetH Tryd.prog Rows.rankCodesRow.laid w) (fun _ _ _ hh h => h.of_heap hh) own started (by kernel_rfl) Tryd.func7
    (ChangeSpec.witness_shaped (enc := enc) (C := Tryd.checked) (os := os) (X := fun w _ => laidMetH Tryd.prog Rows.rankCodesRow.laid w) false (World.laidAll Tryd.prog os Rows.rankCodesRow.laid) #[.agg #[.int .i64 0, .slice none 0 0], .agg #[.int .i64 0, .slice none 0 0], .int .i64 0, .int .i64 0] 8 (World.laidAll_os _ _ _)
      (World.shaped_of_ZipB (by kernel_rfl) (by kernel_rfl)) (by kernel_rfl) (by kernel_rfl) (by kernel_rfl)
      (by rw [MakeChecks.laidMetH_plain _ _ _ (by kernel_rfl)]; exact laidMet_laidAll _ (by kernel_rfl) (by kernel_rfl))) ?_
  intro W base args ds gs before hval0 hW _ _ hL _
  have hval : ∀ (j : Nat) t v, Tryd.f7.params[j]? = some t → args[j]? = some v → Value.okWide Tryd.prog W .any base t v := hval0
  have hW' := hW
  obtain ⟨p, q, hA0, hV, rfl, hfz, hnd⟩ := hW
  have hA : DataW.TrodAll enc Tryd.prog W 0 (fun _ => true) true Tryd.f7.params.toList args.toList ds p := hA0
  rw [Tryd.params7] at hA hval
  obtain ⟨v0, vs0, d0, ds0, p0, q0, hargs, rfl, rfl, h0, r0⟩ := trodAll_cons hA
  obtain ⟨v1, vs1, d1, ds1, p1, q1, rfl, rfl, rfl, h1, r1⟩ := trodAll_cons r0
  obtain ⟨v2, vs2, d2, ds2, p2, q2, rfl, rfl, rfl, h2, r2⟩ := trodAll_cons r1
  obtain ⟨v3, vs3, d3, ds3, p3, q3, rfl, rfl, rfl, h3, r3⟩ := trodAll_cons r2
  obtain ⟨rfl, rfl, rfl⟩ := trodAll_nil r3
  obtain rfl : args = #[v0, v1, v2, v3] := by cases args; simp_all
  obtain ⟨rfl, rfl⟩ := trodVars_none hV
  obtain ⟨x0, w0⟩ := value_of (hval 0 24 v0 rfl rfl) h0
  have l0 : ∀ x ∈ p0, x.block < W.heap.size := fun x hx => hW'.lt x (by simp [hx])
  obtain ⟨x1, w1⟩ := value_of (hval 1 24 v1 rfl rfl) h1
  have l1 : ∀ x ∈ p1, x.block < W.heap.size := fun x hx => hW'.lt x (by simp [hx])
  obtain ⟨a2, rfl, rfl, rfl, w2⟩ := open_int Tryd.underlying3 (hval 2 3 v2 rfl rfl) h2
  obtain ⟨a3, rfl, rfl, rfl, w3⟩ := open_int Tryd.underlying3 (hval 3 3 v3 rfl rfl) h3
  clear hA0 hval0
  refine (walk v0 x0 v1 x1 a2 a3 W w0 w1 w2 w3 (table hL)).mono fun e W' ⟨he, bel⟩ => ?_
  subst he
  exact ⟨_, rfl, _, _, _, _, _, [], hW', trodAll_mk1 (shut_bool Tryd.underlying4 _), (trodAll_cons_mk (Below.trod (by kernel_rfl) (by kernel_rfl) (of_decide_eq_true (by kernel_rfl)) h0 bel l0) (trodAll_cons_mk (Below.trod (by kernel_rfl) (by kernel_rfl) (of_decide_eq_true (by kernel_rfl)) h1 bel l1) (trodAll_cons_mk (shut_int Tryd.underlying3 w2) (trodAll_cons_mk (shut_int Tryd.underlying3 w3) trodAll_mk0)))), rfl, bel.frame _, fun h => by cases h⟩

theorem row_holds : Rows.RankCodesSaid :=
  OpenClaim.holds_of_wide 7 Tryd.f7 rfl rfl rfl rfl rfl rfl rfl ⟨rfl, rfl, rfl, rfl, rfl⟩ rfl rfl rfl rfl rfl (by kernel_rfl) Tryd.func7 (by kernel_rfl)
    (of_decide_eq_true (by kernel_rfl)) (by unfold Func.isWrapper; first | (rw [if_pos (by decide +kernel)]; kernel_rfl) | (rw [if_neg (by decide +kernel)]; exact ⟨rfl, rfl⟩))
    (fun os started H enc _ => lifted os started H enc)

theorem rankCodes_holds : Rows.RankCodesCardSaid :=
  Claim7.holds_tied_plain_at .later [] _ _ _ _ row_holds (fun _ h => by cases h) (by kernel_rfl) (fun _ h => by cases h) rankCodes_row_tie rfl ⟨rfl, rfl⟩ (by kernel_rfl) rfl
    (fun f fn hf hfn => by
      obtain rfl : f = 7 := Option.some.inj ((show Tryd.prog.funcNamed "interlocutor/interlocutorlaw10.RankCodes" = some 7 by kernel_rfl).symm.trans hf) |>.symm
      obtain rfl : fn = Tryd.f7 := (Option.some.inj (Tryd.func7.symm.trans hfn)).symm
      exact ⟨by kernel_rfl, fun j t ht => by
        rw [Tryd.params7] at ht
        have hm : t ∈ [24, 24, 3, 3] := by simpa using Array.mem_of_getElem? ht
        have hall : ([24, 24, 3, 3].all fun u => !Tryd.prog.wantsStandIn u) = true := by kernel_rfl
        exact (show Tryd.prog.wantsStandIn t = false by simpa using List.all_eq_true.1 hall t hm)⟩)
    (by kernel_rfl)

end Go.Proofs.YtjocpbcmehicmaaDoor
