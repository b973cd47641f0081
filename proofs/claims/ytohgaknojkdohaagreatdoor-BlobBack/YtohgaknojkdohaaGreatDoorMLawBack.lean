/- BlobBack answers true of any shape: the locales that it makes may be, are written as the reference writes them, and are read back as they were. The table of gram's places and fold's noughts is as listed. -/
import Derived.Test.YtohgaknojkdohaaGreatDoorCards
import Derived.Test.YtohgaknojkdohaaGreatDoorTie
import Derived.Test.YtohgaknojkdohaaGreatDoorTf
import Derived.Test.YtohgaknojkdohaaGreatDoorFb
import Derived.ProofKit
import Derived.OpenShut
import Derived.Lay
import Derived.SevenTiedAt
import Derived.Stop.Joined
import Derived.Lib.LaidTab
namespace Go.Proofs.YtohgaknojkdohaaGreatDoor
open Go.ChangeShapes Go.WideShapes Go.ChangeAt Go.RowKit Gr

set_option maxRecDepth 8000 in
set_option maxHeartbeats 4000000 in
theorem walk_of (ls : List Locale) (q1 : rightL ls = true) (q3 : decL (encLocales ls) = some ls) (q4 : (encLocales ls).length ≤ 800000) (hS : Small ls) (o d wd vl : Int) (adr : Option Addr) (nr capr : Nat) (m : Bool) (fw : Bool) (w : World) (hT : Tabs w) 
    (hF : ∀ W, Below w.heap.size w W → Calls Tryz.prog 12 #[(.agg #[.int .i64 o, .int .i64 d, .int .i64 wd, .int .i64 vl, .slice adr nr capr, .bool m])] W fun e w' => e = .returned (.bool fw) ∧ Below W.heap.size W w')
    (hM : ∀ W, Below w.heap.size w W → Calls Tryz.prog 13 #[(.agg #[.int .i64 o, .int .i64 d, .int .i64 wd, .int .i64 vl, .slice adr nr capr, .bool m])] W fun e w' => ∃ v, e = .returned v ∧ LocalesAt w' v ls ∧ Below W.heap.size W w') :
    Calls Tryz.prog 3 #[(.agg #[.int .i64 o, .int .i64 d, .int .i64 wd, .int .i64 vl, .slice adr nr capr, .bool m])] w fun e w' => e = .returned (.bool true) ∧ Below w.heap.size w w' := by
  have HU0 := hid (up_alloc w (.cells #[.int .i64 o, .int .i64 d, .int .i64 wd, .int .i64 vl, .slice adr nr capr, .bool m] 24))
  have HX0 := hid (row_new w (.cells #[.int .i64 o, .int .i64 d, .int .i64 wd, .int .i64 vl, .slice adr nr capr, .bool m] 24))
  have HK := hid (known_any (w.alloc (.cells #[.int .i64 o, .int .i64 d, .int .i64 wd, .int .i64 vl, .slice adr nr capr, .bool m] 24)) (hT.on HU0.out))
  have HF := hid hF
  have HM := hid hM
  have HT := hid hT
  have HQ := hid (And.intro q1 (And.intro q3 (And.intro q4 hS)))
  clear hT hF hM q1 q3 q4 hS
  go_enter Tryz.func3, Tryz.ntmps3
  go_wp2_with fail
  refine HK.out.mono ?_
  rintro e w1 ⟨rfl, hb1⟩
  have HB1 := hid (up_trans HU0.out hb1)
  have HX1 := hid ((hb1.block w.heap.size (by simp)).trans HX0.out)
  have hlt1 : w.heap.size < w1.heap.size := (Array.getElem?_eq_some_iff.1 HX1.out).1
  have c0 : w1.cell? ⟨w.heap.size, 0, none⟩ = some (.int .i64 o) := by rw [cell_of_row _ _ _ _ _ _ HX1.out]; rfl
  have c1 : w1.cell? ⟨w.heap.size, 1, none⟩ = some (.int .i64 d) := by rw [cell_of_row _ _ _ _ _ _ HX1.out]; rfl
  have c2 : w1.cell? ⟨w.heap.size, 2, none⟩ = some (.int .i64 wd) := by rw [cell_of_row _ _ _ _ _ _ HX1.out]; rfl
  have c3 : w1.cell? ⟨w.heap.size, 3, none⟩ = some (.int .i64 vl) := by rw [cell_of_row _ _ _ _ _ _ HX1.out]; rfl
  have c4 : w1.cell? ⟨w.heap.size, 4, none⟩ = some (.slice adr nr capr) := by rw [cell_of_row _ _ _ _ _ _ HX1.out]; rfl
  have c5 : w1.cell? ⟨w.heap.size, 5, none⟩ = some (.bool m) := by rw [cell_of_row _ _ _ _ _ _ HX1.out]; rfl
  clear hb1 HK HX0 HU0
  go_wp2_with fail
  refine (HF.out _ HB1.out).mono ?_
  rintro e w2 ⟨rfl, hb2⟩
  have HB2 := hid (up_trans HB1.out hb2)
  have HX2 := hid ((hb2.block w.heap.size hlt1).trans HX1.out)
  clear c0 c1 c2 c3 c4 c5 hlt1 HB1 HX1 hb2
  have c0 : w2.cell? ⟨w.heap.size, 0, none⟩ = some (.int .i64 o) := by rw [cell_of_row _ _ _ _ _ _ HX2.out]; rfl
  have c1 : w2.cell? ⟨w.heap.size, 1, none⟩ = some (.int .i64 d) := by rw [cell_of_row _ _ _ _ _ _ HX2.out]; rfl
  have c2 : w2.cell? ⟨w.heap.size, 2, none⟩ = some (.int .i64 wd) := by rw [cell_of_row _ _ _ _ _ _ HX2.out]; rfl
  have c3 : w2.cell? ⟨w.heap.size, 3, none⟩ = some (.int .i64 vl) := by rw [cell_of_row _ _ _ _ _ _ HX2.out]; rfl
  have c4 : w2.cell? ⟨w.heap.size, 4, none⟩ = some (.slice adr nr capr) := by rw [cell_of_row _ _ _ _ _ _ HX2.out]; rfl
  have c5 : w2.cell? ⟨w.heap.size, 5, none⟩ = some (.bool m) := by rw [cell_of_row _ _ _ _ _ _ HX2.out]; rfl
  clear HX2
  cases fw with
  | false =>
    go_wp2
    go_ret
    exact ⟨rfl, HB2.out⟩
  | true =>
    go_wp2_with fail
    refine (HM.out _ HB2.out).mono ?_
    rintro e w3 ⟨lv, rfl, hl3, hb3⟩
    have HB3 := hid (up_trans HB2.out hb3)
    have HL3 := hid hl3
    obtain ⟨adl, capl, el, _⟩ := hl3.shape
    obtain ⟨nl, hnl⟩ : ∃ nl, nl = ls.length := ⟨_, rfl⟩
    rw [← hnl] at el
    subst el
    clear hl3 hb3 HB2 HM HF hnl c0 c1 c2 c3 c4 c5
    go_wp2_with fail
    refine (encode_any ls _ w3 HL3.out HQ.out.2.2.2 (HT.out.on HB3.out) HQ.out.1 HQ.out.2.2.1).mono ?_
    rintro e w4 ⟨bv, rfl, hR, hb4⟩
    have HB4 := hid (up_trans HB3.out hb4)
    have HL4 := hid (HL3.out.on hb4)
    have HR4 := hid hR
    have HD := hid (decode_any _ _ w4 (bin_of_rb hR (byt_locales _) (enc_pos ls) (by have := HQ.out.2.2.1; omega)) (HT.out.on HB4.out))
    obtain ⟨adb, capb, eb⟩ := hR.shape
    obtain ⟨nb, hnb⟩ : ∃ nb, nb = (encLocales ls).length := ⟨_, rfl⟩
    rw [← hnb] at eb
    subst eb
    clear hR hb4 HL3 HB3 hnb
    go_wp2_with fail
    refine HD.out.mono ?_
    rintro e w5 ⟨hb5, h5⟩
    rw [HQ.out.2.1] at h5
    obtain ⟨mv, rfl, hm5⟩ := h5
    have HB5 := hid (up_trans HB4.out hb5)
    have HL5 := hid (HL4.out.on hb5)
    have HR5 := hid (HR4.out.on hb5)
    have HM5 := hid hm5
    obtain ⟨adm, capm, em, _⟩ := hm5.shape
    obtain ⟨nm, hnm⟩ : ∃ nm, nm = ls.length := ⟨_, rfl⟩
    rw [← hnm] at em
    subst em
    clear hm5 hb5 HD HL4 HR4 HB4 hnm
    obtain ⟨sb, hsb⟩ : ∃ sb : ByteArray, sb = ⟨(bytesL (encLocales ls)).toArray⟩ := ⟨_, rfl⟩
    have HCV := hid (fun (W : World) (B : Nat) (v : Value) (r : RB W B v (encLocales ls)) => conv_back r (byt_locales ls) (enc_pos ls))
    rw [← hsb] at HCV
    have HCB := hid (fun (W : World) (b : Below w5.heap.size w5 W) => HCV.out _ _ _ (HR5.out.on b))
    have HRT := hid (fun (W : World) (b : Below w5.heap.size w5 W) => bright_any ls _ W (HL5.out.on b) HQ.out.2.2.2 ((HT.out.on HB5.out).on b))
    rw [HQ.out.1] at HRT
    have HEN := hid (fun (W : World) (b : Below w5.heap.size w5 W) => rencode_any ls _ W (HL5.out.on b) HQ.out.2.2.1)
    have HSM := hid (fun (W : World) (b : Below w5.heap.size w5 W) => same_any ls ls _ _ W (HL5.out.on b) (HM5.out.on b) HQ.out.2.2.1 HQ.out.2.2.1)
    simp only [decide_true] at HSM
    clear hsb
    go_wp2_with fail
    go_region_held (fun w' => Hid (Below w5.heap.size w5 w')) (first | assumption | exact hid (Below.refl _ _).drew | exact hid (up_trans (Hid.out (by assumption)) (by assumption))) (first
      | (go_at_call 16; refine (HRT.out _ (Hid.out (by assumption))).mono ?_; rintro e w6 ⟨rfl, bb6⟩; have hcv6 := HCB.out _ (up_trans (Hid.out (by assumption)) bb6))
      | (go_at_call 17; refine (HEN.out _ (Hid.out (by assumption))).mono ?_; rintro e w7 ⟨u7, rfl, r7, bb7, _⟩; have hcv7 := HCV.out _ _ _ r7; have hcv8 := HCB.out _ (up_trans (Hid.out (by assumption)) bb7); obtain ⟨a7, m7, k7, e7⟩ := rb_shape r7; subst e7)
      | (go_at_call 18; refine (HSM.out _ (Hid.out (by assumption))).mono ?_; rintro e w8 ⟨rfl, bb8⟩))
    all_goals
      go_wp2
      go_ret
      exact ⟨rfl, up_trans HB5.out (Hid.out (by assumption))⟩

theorem walk (v : Value) (x : Shp) (w : World) (h : ShapeAt w v x) (hT : Tabs w) :
    Calls Tryz.prog 3 #[v] w fun e w' => e = .returned (.bool true) ∧ Below w.heap.size w w' := by
  obtain ⟨rv, rfl, hr⟩ := h
  have hr' := hr
  obtain ⟨adr, capr, rfl, _⟩ := hr'
  exact walk_of (mkL x) (mkL_right x) (there_back (mkL_right x)) (right_len (mkL_right x)) (right_small (mkL_right x)) _ _ _ _ _ _ _ _ _ w hT (fun W hb => few5_any _ _ _ _ _ _ _ W (hr.on hb)) (fun W hb => make_at x _ W (hr.on hb))

theorem own : ownKnob Tryz.prog.godebug = none := by kernel_rfl

theorem table {W : World} (h : laidMetH Tryz.prog Rows.blobBackRow.laid W) : Tabs W := by
  rw [MakeChecks.laidMetH_plain _ _ _ (by kernel_rfl)] at h
  exact tabs_of_laid h

set_option maxRecDepth 100000 in
theorem lifted (os : Os) (started : os.Started) (H : Type) (enc : TypeId × Value → H) :
    ReturnsInHanded {} Tryz.checked os 3 .any (fun w args => (Rows.blobBackSpec.pre enc Tryz.prog Tryz.f3 Rows.blobBackRow.domain false w args ∧ laidMetH Tryz.prog Rows.blobBackRow.laid w) ∧ sizedMet enc Tryz.prog Tryz.f3 (OpenSpec.ofChange Rows.blobBackSpec) false w args)
      (Rows.blobBackSpec.post enc Tryz.prog Tryz.f3 false true false false) := by
  refine returnsInHanded_of_change_and (C := Tryz.checked) (X := fun w _ => laidMetH Tryz.prog Rows.blobBackRow.laid w) (fun _ _ _ hh h => h.of_heap hh) own started (by kernel_rfl) Tryz.func3
    (ChangeSpec.witness_shaped (enc := enc) (C := Tryz.checked) (os := os) (X := fun w _ => laidMetH Tryz.prog Rows.blobBackRow.laid w) false (World.laidAll Tryz.prog os Rows.blobBackRow.laid) #[.agg #[.int .i64 0, .int .i64 0, .int .i64 0, .int .i64 0, .slice none 0 0, .bool false]] 8 (World.laidAll_os _ _ _)
      (World.shaped_of_ZipB (by kernel_rfl) (by kernel_rfl)) (by kernel_rfl) (by kernel_rfl) (by kernel_rfl)
      (by rw [MakeChecks.laidMetH_plain _ _ _ (by kernel_rfl)]; exact laidMet_laidAll _ (by kernel_rfl) (by kernel_rfl))) ?_
  intro W base args ds gs before hval0 hW _ _ hL _
  have hval : ∀ (j : Nat) t v, Tryz.f3.params[j]? = some t → args[j]? = some v → Value.okWide Tryz.prog W .any base t v := hval0
  have hW' := hW
  obtain ⟨p, q, hA0, hV, rfl, hfz, hnd⟩ := hW
  have hA : DataW.TrodAll enc Tryz.prog W 0 (fun _ => true) true Tryz.f3.params.toList args.toList ds p := hA0
  rw [Tryz.params3] at hA hval
  obtain ⟨v0, vs0, d0, ds0, p0, q0, hargs, rfl, rfl, h0, r0⟩ := trodAll_cons hA
  obtain ⟨rfl, rfl, rfl⟩ := trodAll_nil r0
  obtain rfl : args = #[v0] := by cases args; simp_all
  obtain ⟨rfl, rfl⟩ := trodVars_none hV
  obtain ⟨x0, w0⟩ := shape_at (hval 0 24 v0 rfl rfl) h0
  have l0 : ∀ x ∈ p0, x.block < W.heap.size := fun x hx => hW'.lt x (by simp [hx])
  clear hA0 hval0
  refine (walk v0 x0 W w0 (table hL)).mono fun e W' ⟨he, bel⟩ => ?_
  subst he
  exact ⟨_, rfl, _, _, _, _, _, [], hW', trodAll_mk1 (shut_bool Tryz.underlying4 _), (trodAll_cons_mk (Below.trod (by kernel_rfl) (by kernel_rfl) (of_decide_eq_true (by kernel_rfl)) h0 bel l0) trodAll_mk0), rfl, bel.frame _, fun h => by cases h⟩

theorem row_holds : Rows.BlobBackSaid :=
  OpenClaim.holds_of_wide 3 Tryz.f3 rfl rfl rfl rfl rfl rfl rfl ⟨rfl, rfl, rfl, rfl, rfl⟩ rfl rfl rfl rfl rfl (by kernel_rfl) Tryz.func3 (by kernel_rfl)
    (of_decide_eq_true (by kernel_rfl)) (by unfold Func.isWrapper; first | (rw [if_pos (by decide +kernel)]; kernel_rfl) | (rw [if_neg (by decide +kernel)]; exact ⟨rfl, rfl⟩))
    (fun os started H enc _ => lifted os started H enc)

theorem blobBack_holds : Rows.BlobBackCardSaid :=
  Claim7.holds_tied_plain_at .later [] _ _ _ _ row_holds (fun _ h => by cases h) (by kernel_rfl) (fun _ h => by cases h) blobBack_row_tie rfl ⟨rfl, rfl⟩ (by kernel_rfl) rfl
    (fun f fn hf hfn => by
      obtain rfl : f = 3 := Option.some.inj ((show Tryz.prog.funcNamed "interlocutor/interlocutorlaw5.BlobBack" = some 3 by kernel_rfl).symm.trans hf) |>.symm
      obtain rfl : fn = Tryz.f3 := (Option.some.inj (Tryz.func3.symm.trans hfn)).symm
      exact ⟨by kernel_rfl, fun j t ht => by
        rw [Tryz.params3] at ht
        have hm : t ∈ [24] := by simpa using Array.mem_of_getElem? ht
        have hall : ([24].all fun u => !Tryz.prog.wantsStandIn u) = true := by kernel_rfl
        exact (show Tryz.prog.wantsStandIn t = false by simpa using List.all_eq_true.1 hall t hm)⟩)
    (by kernel_rfl)

end Go.Proofs.YtohgaknojkdohaaGreatDoor
