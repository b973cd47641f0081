/- BlobCut answers true of any shape, any place, any bytes: what the shape makes, written, is not read where it is cut off, and is not read where bytes are behind it. The table of gram's places and fold's noughts is as listed. -/
import Derived.Test.YtohgaknojkdohaaGreatDoorCards
import Derived.Test.YtohgaknojkdohaaGreatDoorTie
import Derived.Test.YtohgaknojkdohaaGreatDoorTf
import Derived.Test.YtohgaknojkdohaaGreatDoorFb
import Derived.ProofKit
import Derived.OpenShut
import Derived.Lay
import Derived.SevenTiedAt
import Derived.Stop.Joined
import Derived.Lib.LaidTab
namespace Go.Proofs.YtohgaknojkdohaaGreatDoor
open Go.ChangeShapes Go.WideShapes Go.ChangeAt Go.RowKit Gr

theorem byte_wf {x : Int} (h : (Lit.int .u8 x).wf = true) : 0 ≤ x ∧ x < 256 := by
  have h1 : (decide (IntKind.u8.min ≤ x) && decide (x ≤ IntKind.u8.max)) = true := h
  rw [Bool.and_eq_true, decide_eq_true_eq, decide_eq_true_eq] at h1
  have e1 : IntKind.u8.min = 0 := by decide
  have e2 : IntKind.u8.max = 255 := by decide
  omega
theorem arg_cells {w : World} {v : Value} {xs : List Int} (h : Fo.Arg w .u8 v xs) : CellsAt w v xs.length 1 (xs.map (Value.int .u8)) ∧ Byt xs := by
  obtain ⟨ad, cap, e, hc, hm, hn, hx, hw⟩ := h
  refine ⟨⟨ad, cap, e, by simp, fun h => ⟨(hn h).2, by rw [(hn h).1]; rfl⟩, fun u hu => by obtain ⟨y, _, rfl⟩ := List.mem_map.1 hu; rfl, fun j u hj => ?_⟩, fun z hz => byte_wf (hw z hz)⟩
  rw [List.getElem?_map] at hj
  obtain ⟨y, hy, rfl⟩ := Option.map_eq_some_iff.1 hj
  have hlt := (List.getElem?_eq_some_iff.1 hy).1
  cases ad with
  | none => rw [(hn rfl).1] at hlt; simp at hlt
  | some a => exact ⟨a, rfl, by rw [hx a rfl j hlt, List.getD_eq_getElem?_getD, hy]; rfl⟩
theorem rb_cells {w : World} {B : Nat} {v : Value} {bs : List Int} {n : Nat} (h : RB w B v bs) (hn : n = bs.length) (h0 : 0 < bs.length) : CellsAt w v n 1 (bs.map (Value.int .u8)) := by
  subst hn
  obtain ⟨g, cap, rfl, _, _, hc⟩ := own_at h h0
  refine ⟨_, _, rfl, by simp, fun h => (by cases h), fun u hu => (by obtain ⟨y, _, rfl⟩ := List.mem_map.1 hu; rfl), fun j u hj => ⟨_, rfl, ?_⟩⟩
  rw [Addr.add_lit, Nat.zero_add]
  exact hc j u hj
set_option maxRecDepth 8000 in
set_option maxHeartbeats 4000000 in
theorem walk_of (ls : List Locale) (q1 : rightL ls = true) (q3 : decL (encLocales ls) = some ls) (q4 : (encLocales ls).length ≤ 800000) (hS : Small ls) (o d wd vl : Int) (adr : Option Addr) (nr capr : Nat) (m : Bool) (fw : Bool) (cut : Int) (adm : Option Addr) (nm capm : Nat) (ms : List Int) (w : World) (hT : Tabs w) (hg : Fo.Arg w .u8 (.slice adm nm capm) ms ∧ nm = ms.length) (hc : (∀ c, c < (encLocales ls).length → decL ((encLocales ls).take c) = none) ∧ decL (encLocales ls ++ ms) = if ms = [] then some ls else none)
    (hF : ∀ W, Below w.heap.size w W → Calls Tryz.prog 12 #[(.agg #[.int .i64 o, .int .i64 d, .int .i64 wd, .int .i64 vl, .slice adr nr capr, .bool m])] W fun e w' => e = .returned (.bool fw) ∧ Below W.heap.size W w')
    (hM : ∀ W, Below w.heap.size w W → Calls Tryz.prog 13 #[(.agg #[.int .i64 o, .int .i64 d, .int .i64 wd, .int .i64 vl, .slice adr nr capr, .bool m])] W fun e w' => ∃ v, e = .returned v ∧ LocalesAt w' v ls ∧ Below W.heap.size W w') :
    Calls Tryz.prog 7 #[(.agg #[.int .i64 o, .int .i64 d, .int .i64 wd, .int .i64 vl, .slice adr nr capr, .bool m]), .int .i64 cut, .slice adm nm capm] w fun e w' => e = .returned (.bool true) ∧ Below w.heap.size w w' := by
  have HU0 := hid (up_alloc w (.cells #[.int .i64 o, .int .i64 d, .int .i64 wd, .int .i64 vl, .slice adr nr capr, .bool m] 24))
  have HX0 := hid (row_new w (.cells #[.int .i64 o, .int .i64 d, .int .i64 wd, .int .i64 vl, .slice adr nr capr, .bool m] 24))
  have HK := hid (known_any (w.alloc (.cells #[.int .i64 o, .int .i64 d, .int .i64 wd, .int .i64 vl, .slice adr nr capr, .bool m] 24)) (hT.on HU0.out))
  have HF := hid hF
  have HM := hid hM
  have HT := hid hT
  have HQ := hid (And.intro q1 (And.intro q3 (And.intro q4 hS)))
  clear hT hF hM q1 q3 q4 hS
  have HC := hid hc
  have HG := hid hg
  clear hc hg
  go_enter Tryz.func7, Tryz.ntmps7
  go_wp2_with fail
  refine HK.out.mono ?_
  rintro e w1 ⟨rfl, hb1⟩
  have HB1 := hid (up_trans HU0.out hb1)
  have HX1 := hid ((hb1.block w.heap.size (by simp)).trans HX0.out)
  have hlt1 : w.heap.size < w1.heap.size := (Array.getElem?_eq_some_iff.1 HX1.out).1
  have c0 : w1.cell? ⟨w.heap.size, 0, none⟩ = some (.int .i64 o) := by rw [cell_of_row _ _ _ _ _ _ HX1.out]; rfl
  have c1 : w1.cell? ⟨w.heap.size, 1, none⟩ = some (.int .i64 d) := by rw [cell_of_row _ _ _ _ _ _ HX1.out]; rfl
  have c2 : w1.cell? ⟨w.heap.size, 2, none⟩ = some (.int .i64 wd) := by rw [cell_of_row _ _ _ _ _ _ HX1.out]; rfl
  have c3 : w1.cell? ⟨w.heap.size, 3, none⟩ = some (.int .i64 vl) := by rw [cell_of_row _ _ _ _ _ _ HX1.out]; rfl
  have c4 : w1.cell? ⟨w.heap.size, 4, none⟩ = some (.slice adr nr capr) := by rw [cell_of_row _ _ _ _ _ _ HX1.out]; rfl
  have c5 : w1.cell? ⟨w.heap.size, 5, none⟩ = some (.bool m) := by rw [cell_of_row _ _ _ _ _ _ HX1.out]; rfl
  clear hb1 HK HX0 HU0
  go_wp2_with fail
  refine (HF.out _ HB1.out).mono ?_
  rintro e w2 ⟨rfl, hb2⟩
  have HB2 := hid (up_trans HB1.out hb2)
  have HX2 := hid ((hb2.block w.heap.size hlt1).trans HX1.out)
  clear c0 c1 c2 c3 c4 c5 hlt1 HB1 HX1 hb2
  have c0 : w2.cell? ⟨w.heap.size, 0, none⟩ = some (.int .i64 o) := by rw [cell_of_row _ _ _ _ _ _ HX2.out]; rfl
  have c1 : w2.cell? ⟨w.heap.size, 1, none⟩ = some (.int .i64 d) := by rw [cell_of_row _ _ _ _ _ _ HX2.out]; rfl
  have c2 : w2.cell? ⟨w.heap.size, 2, none⟩ = some (.int .i64 wd) := by rw [cell_of_row _ _ _ _ _ _ HX2.out]; rfl
  have c3 : w2.cell? ⟨w.heap.size, 3, none⟩ = some (.int .i64 vl) := by rw [cell_of_row _ _ _ _ _ _ HX2.out]; rfl
  have c4 : w2.cell? ⟨w.heap.size, 4, none⟩ = some (.slice adr nr capr) := by rw [cell_of_row _ _ _ _ _ _ HX2.out]; rfl
  have c5 : w2.cell? ⟨w.heap.size, 5, none⟩ = some (.bool m) := by rw [cell_of_row _ _ _ _ _ _ HX2.out]; rfl
  clear HX2
  cases fw with
  | false =>
    go_wp2
    go_ret
    exact ⟨rfl, HB2.out⟩
  | true =>
    by_cases hmn : (60 : Int) < (nm : Int)
    · go_wp2
      go_ret
      exact ⟨rfl, HB2.out⟩
    go_wp2_with fail
    refine (HM.out _ HB2.out).mono ?_
    rintro e w3 ⟨lv, rfl, hl3, hb3⟩
    have HB3 := hid (up_trans HB2.out hb3)
    have HL3 := hid hl3
    obtain ⟨adl, capl, el, _⟩ := hl3.shape
    obtain ⟨nl, hnl⟩ : ∃ nl, nl = ls.length := ⟨_, rfl⟩
    rw [← hnl] at el
    subst el
    clear hl3 hb3 HB2 HM HF hnl c0 c1 c2 c3 c4 c5
    go_wp2_with fail
    refine (encode_any ls _ w3 HL3.out HQ.out.2.2.2 (HT.out.on HB3.out) HQ.out.1 HQ.out.2.2.1).mono ?_
    rintro e w4 ⟨bv, rfl, hR, hb4⟩
    have HB4 := hid (up_trans HB3.out hb4)
    have HL4 := hid (HL3.out.on hb4)
    have HR4 := hid hR
    have hpos := enc_pos ls
    have HPO := hid hpos
    have HLE := hid HQ.out.2.2.1
    obtain ⟨gb, capb, eb, _, hcap, _⟩ := own_at hR hpos
    obtain ⟨nb, hnb⟩ : ∃ nb, nb = (encLocales ls).length := ⟨_, rfl⟩
    rw [← hnb] at eb hcap hpos
    subst eb
    have HNB := hid hnb
    have hnb0 : ¬ ((nb : Int) = 0) := by omega
    have hnbm : nb ≤ 800000 := by rw [hnb]; exact HLE.out
    have HW := hid (swithin_any cut nb w4 (by omega) (by omega))
    obtain ⟨kc, hkc⟩ : ∃ kc : Nat, cut % (nb : Int) = (kc : Int) := ⟨(cut % (nb : Int)).toNat, by have := Int.emod_nonneg cut hnb0; omega⟩
    have hkl : kc < nb := by have := Int.emod_lt_of_pos cut (show (0 : Int) < nb by omega); omega
    rw [hkc] at HW
    have HD1 := hid (decode_any _ _ w4 (bin_take hR (byt_locales ls) (enc_pos ls) (by have := HLE.out; omega) kc (by omega)) (HT.out.on HB4.out))
    have HDN := hid (HC.out.1 kc (by omega))
    have hk0 : (0 : Int) ≤ (kc : Int) := by omega
    have hk1 : (kc : Int) ≤ (capb : Int) := by omega
    clear hR hb4 HL3 HB3 hnb hkc
    go_wp2_with fail
    refine HW.out.mono ?_
    rintro e wx ⟨rfl, hwx⟩
    rw [hwx]
    clear hwx wx HW
    go_wp2_with fail
    refine HD1.out.mono ?_
    rintro e w5 ⟨hb5, h5⟩
    rw [HDN.out] at h5
    subst h5
    have HB5 := hid (up_trans HB4.out hb5)
    have HR5 := hid (HR4.out.on hb5)
    clear hb5 HD1 HDN HL4 HR4 HB4
    have HU5 := hid (up_alloc w5 (.cells #[] 5))
    have HOM := hid (own_made w5 5 1 w5.heap.size w5.heap.size (Nat.le_refl _) rfl)
    have HCB := hid (rb_cells (HR5.out.on HU5.out) HNB.out HPO.out)
    have HMC : Hid (CellsAt w (.slice adm nm capm) nm 1 (ms.map (Value.int .u8))) := hid (by have := (arg_cells HG.out.1).1; rw [← HG.out.2] at this; exact this)
    have HNM := hid HG.out.2
    have HBM := hid (arg_cells HG.out.1).2
    have hnm60 : nm ≤ 60 := by omega
    clear HG
    go_wp2_with (at_builtin; first
      | (refine wpList_append_cells _ rfl (.tmp 39) (.tmp 40) 28 5 rfl (.int .u8 0) 1 1 Tryz.underlying28 info_byte rfl (by decide) (by decide) w5.heap.size _ 0 _ rfl HOM.out _ nb _ rfl HCB.out (by omega) (by simp) ?_; intro v6 w6 h1 h2 h3; have HO6 := hid h1; have HB6 := hid (HU5.out.grown h2 (by simp) (fun k e => Nat.le_of_eq (Option.some.inj e))); have hs6 := HB6.out.size; have HM6 := hid (HMC.out.on (up_trans HB5.out HB6.out)); have HW6 := hid (fun k (e : v6.ownBlock = some k) => (World.ownsRow.lt h1 k e).1); obtain ⟨ad6, cap6, e6, _⟩ := own_shape h1; rw [Nat.zero_add] at e6; subst e6; rw [Nat.zero_add] at HO6; clear h1 h2 h3 HOM)
      | (refine wpList_append_cells _ rfl (.tmp 41) (.tmp 42) 28 5 rfl (.int .u8 0) 1 1 Tryz.underlying28 info_byte rfl (by decide) (by decide) w5.heap.size _ nb _ rfl HO6.out _ nm _ rfl HM6.out (by omega) hs6 ?_; intro v7 w7 h1 h2 h3; have HO7 := hid h1; have HB7 := hid (HB6.out.grown h2 hs6 HW6.out); obtain ⟨ad7, cap7, e7, _⟩ := own_shape h1; subst e7; clear h1 h2 h3))
    have HR7 : Hid (RB w7 w5.heap.size (.slice ad7 (nb + nm) cap7) (encLocales ls ++ ms)) := hid (by
      unfold RB
      rw [List.length_append, List.map_append, ← HNB.out, ← HNM.out]
      exact HO7.out)
    have HB8 := hid (up_trans HB5.out HB7.out)
    have HD2 := hid (decode_any _ _ w7 (bin_of_rb HR7.out ((byt_locales ls).app HBM.out) (by rw [List.length_append]; have := HPO.out; omega) (by rw [List.length_append, ← HNB.out, ← HNM.out]; omega)) (HT.out.on HB8.out))
    clear HR7 HO7 HB7 HO6 HB6 HM6 HW6 HMC
    refine HD2.out.mono ?_
    rintro e w8 ⟨hb8, h8⟩
    rw [HC.out.2] at h8
    have HB9 := hid (up_trans HB8.out hb8)
    by_cases hms : ms = []
    · rw [if_pos hms] at h8
      obtain ⟨mv, rfl, hm8⟩ := h8
      obtain ⟨adx, capx, ex, _⟩ := hm8.shape
      obtain ⟨nx, hnx⟩ : ∃ nx, nx = ls.length := ⟨_, rfl⟩
      rw [← hnx] at ex
      subst ex
      have hz : nm = 0 := by rw [HNM.out, hms]; rfl
      subst hz
      clear hm8 hb8 hnx
      go_wp2
      go_ret
      exact ⟨rfl, HB9.out⟩
    · rw [if_neg hms] at h8
      subst h8
      have hz : ¬ (nm : Int) = 0 := fun e => hms (List.length_eq_zero_iff.1 (by have := HNM.out; omega))
      have hz2 : ((nm : Int) == 0) = false := by simpa using hz
      clear hb8
      go_wp2
      go_ret
      exact ⟨rfl, HB9.out⟩

theorem walk (v : Value) (x : Shp) (cut : Int) (mv : Value) (ms : List Int) (w : World) (h : ShapeAt w v x) (_ : (Lit.int .i64 cut).wf = true) (hg : Fo.Arg w .u8 mv ms) (hT : Tabs w) :
    Calls Tryz.prog 7 #[v, .int .i64 cut, mv] w fun e w' => e = .returned (.bool true) ∧ Below w.heap.size w w' := by
  obtain ⟨rv, rfl, hr⟩ := h
  have hr' := hr
  obtain ⟨adr, capr, rfl, _⟩ := hr'
  have hg' := hg
  obtain ⟨adm, capm, rfl, _⟩ := hg'
  exact walk_of (mkL x) (mkL_right x) (there_back (mkL_right x)) (right_len (mkL_right x)) (right_small (mkL_right x)) _ _ _ _ _ _ _ _ _ cut adm _ capm ms w hT ⟨hg, rfl⟩ ⟨fun c hc => decL_cut _ (locales_ok (mkL_right x)) (rightL_length (mkL_right x)) c hc, decL_more _ (locales_ok (mkL_right x)) (mkL_right x) ms⟩ (fun W hb => few5_any _ _ _ _ _ _ _ W (hr.on hb)) (fun W hb => make_at x _ W (hr.on hb))

theorem own : ownKnob Tryz.prog.godebug = none := by kernel_rfl

theorem table {W : World} (h : laidMetH Tryz.prog Rows.blobCutRow.laid W) : Tabs W := by
  rw [MakeChecks.laidMetH_plain _ _ _ (by kernel_rfl)] at h
  exact tabs_of_laid h

set_option maxRecDepth 100000 in
theorem lifted (os : Os) (started : os.Started) (H : Type) (enc : TypeId × Value → H) :
    ReturnsInHanded {} Tryz.checked os 7 .any (fun w args => (Rows.blobCutSpec.pre enc Tryz.prog Tryz.f7 Rows.blobCutRow.domain false w args ∧ laidMetH Tryz.prog Rows.blobCutRow.laid w) ∧ sizedMet enc Tryz.prog Tryz.f7 (OpenSpec.ofChange Rows.blobCutSpec) false w args)
      (Rows.blobCutSpec.post enc Tryz.prog Tryz.f7 false true false false) := by
  refine returnsInHanded_of_change_and (C := Tryz.checked) (X := fun w _ => laidMetH Tryz.prog Rows.blobCutRow.laid w) (fun _ _ _ hh h => h.of_heap hh) own started (by kernel_rfl) Tryz.func7
    (ChangeSpec.witness_shaped (enc := enc) (C := Tryz.checked) (os := os) (X := fun w _ => laidMetH Tryz.prog Rows.blobCutRow.laid w) false (World.laidAll Tryz.prog os Rows.blobCutRow.laid) #[.agg #[.int .i64 0, .int .i64 0, .int .i64 0, .int .i64 0, .slice none 0 0, .bool false], .int .i64 0, .slice none 0 0] 8 (World.laidAll_os _ _ _)
      (World.shaped_of_ZipB (by kernel_rfl) (by kernel_rfl)) (by kernel_rfl) (by kernel_rfl) (by kernel_rfl)
      (by rw [MakeChecks.laidMetH_plain _ _ _ (by kernel_rfl)]; exact laidMet_laidAll _ (by kernel_rfl) (by kernel_rfl))) ?_
  intro W base args ds gs before hval0 hW _ _ hL _
  have hval : ∀ (j : Nat) t v, Tryz.f7.params[j]? = some t → args[j]? = some v → Value.okWide Tryz.prog W .any base t v := hval0
  have hW' := hW
  obtain ⟨p, q, hA0, hV, rfl, hfz, hnd⟩ := hW
  have hA : DataW.TrodAll enc Tryz.prog W 0 (fun _ => true) true Tryz.f7.params.toList args.toList ds p := hA0
  rw [Tryz.params7] at hA hval
  obtain ⟨v0, vs0, d0, ds0, p0, q0, hargs, rfl, rfl, h0, r0⟩ := trodAll_cons hA
  obtain ⟨v1, vs1, d1, ds1, p1, q1, rfl, rfl, rfl, h1, r1⟩ := trodAll_cons r0
  obtain ⟨v2, vs2, d2, ds2, p2, q2, rfl, rfl, rfl, h2, r2⟩ := trodAll_cons r1
  obtain ⟨rfl, rfl, rfl⟩ := trodAll_nil r2
  obtain rfl : args = #[v0, v1, v2] := by cases args; simp_all
  obtain ⟨rfl, rfl⟩ := trodVars_none hV
  obtain ⟨x0, w0⟩ := shape_at (hval 0 24 v0 rfl rfl) h0
  have l0 : ∀ x ∈ p0, x.block < W.heap.size := fun x hx => hW'.lt x (by simp [hx])
  obtain ⟨a1, rfl, rfl, rfl, w1⟩ := open_int Tryz.underlying3 (hval 1 3 v1 rfl rfl) h1
  obtain ⟨x2, w2⟩ := Fo.arg_of Tryz.underlying28 Tryz.underlying5 (by kernel_rfl) (hval 2 28 v2 rfl rfl) h2
  have l2 : ∀ x ∈ p2, x.block < W.heap.size := fun x hx => hW'.lt x (by simp [hx])
  clear hA0 hval0
  refine (walk v0 x0 a1 v2 x2 W w0 w1 w2 (table hL)).mono fun e W' ⟨he, bel⟩ => ?_
  subst he
  exact ⟨_, rfl, _, _, _, _, _, [], hW', trodAll_mk1 (shut_bool Tryz.underlying4 _), (trodAll_cons_mk (Below.trod (by kernel_rfl) (by kernel_rfl) (of_decide_eq_true (by kernel_rfl)) h0 bel l0) (trodAll_cons_mk (shut_int Tryz.underlying3 w1) (trodAll_cons_mk (Below.trod (by kernel_rfl) (by kernel_rfl) (of_decide_eq_true (by kernel_rfl)) h2 bel l2) trodAll_mk0))), rfl, bel.frame _, fun h => by cases h⟩

theorem row_holds : Rows.BlobCutSaid :=
  OpenClaim.holds_of_wide 7 Tryz.f7 rfl rfl rfl rfl rfl rfl rfl ⟨rfl, rfl, rfl, rfl, rfl⟩ rfl rfl rfl rfl rfl (by kernel_rfl) Tryz.func7 (by kernel_rfl)
    (of_decide_eq_true (by kernel_rfl)) (by unfold Func.isWrapper; first | (rw [if_pos (by decide +kernel)]; kernel_rfl) | (rw [if_neg (by decide +kernel)]; exact ⟨rfl, rfl⟩))
    (fun os started H enc _ => lifted os started H enc)

theorem blobCut_holds : Rows.BlobCutCardSaid :=
  Claim7.holds_tied_plain_at .later [] _ _ _ _ row_holds (fun _ h => by cases h) (by kernel_rfl) (fun _ h => by cases h) blobCut_row_tie rfl ⟨rfl, rfl⟩ (by kernel_rfl) rfl
    (fun f fn hf hfn => by
      obtain rfl : f = 7 := Option.some.inj ((show Tryz.prog.funcNamed "interlocutor/interlocutorlaw5.BlobCut" = some 7 by kernel_rfl).symm.trans hf) |>.symm
      obtain rfl : fn = Tryz.f7 := (Option.some.inj (Tryz.func7.symm.trans hfn)).symm
      exact ⟨by kernel_rfl, fun j t ht => by
        rw [Tryz.params7] at ht
        have hm : t ∈ [24, 3, 28] := by simpa using Array.mem_of_getElem? ht
        have hall : ([24, 3, 28].all fun u => !Tryz.prog.wantsStandIn u) = true := by kernel_rfl
        exact (show Tryz.prog.wantsStandIn t = false by simpa using List.all_eq_true.1 hall t hm)⟩)
    (by kernel_rfl)

end Go.Proofs.YtohgaknojkdohaaGreatDoor
