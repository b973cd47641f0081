/- FoldBad answers true of any four bytes and any string: what is read of them is the document's, and a sign ahead is read by itself. The table of noughts reads as the program's text lays it. -/
import Derived.Test.YtigolkgojckciabDoorCards
import Derived.Test.YtigolkgojckciabDoorTie
import Derived.Test.YtigolkgojckciabDoorRefFold
import Derived.ProofKit
import Derived.OpenShut
import Derived.Lay
import Derived.SevenTiedAt
import Derived.Stop.Joined
import Derived.Lib.LaidTab
import Derived.Carry
namespace Go.Proofs.YtigolkgojckciabDoor
open Go.ChangeShapes Go.WideShapes Go.ChangeAt Go.RowKit

theorem cons_runes (l : List UInt8) : runesOf (122 :: l) = 122 :: runesOf l := by
  unfold runesOf
  rw [signsOf_cons 122 l (by decide), List.map_cons]
  rfl

theorem tail_row {w : World} {g : Nat} {x : Int} {rs : List Int} (h : Holds w g 0 (x :: rs)) : Holds w g 1 rs := by
  intro j hj
  have := h (j + 1) (by simpa using hj)
  rw [show 0 + (j + 1) = 1 + j by omega] at this
  simpa using this
theorem nil_row {w : World} {g o : Nat} {rs : List Int} (h : rs.length = 0) : Holds w g o rs := fun j hj => by omega

theorem walk (a b c d : Int) (more : ByteArray) (w : World) (w0 : (Lit.int .u8 a).wf = true) (w1 : (Lit.int .u8 b).wf = true) (w2 : (Lit.int .u8 c).wf = true) (w3 : (Lit.int .u8 d).wf = true) (hm : more.size ≤ maxLen) (hT : Tab w) :
    Calls Tryd.prog 4 #[.int .u8 a, .int .u8 b, .int .u8 c, .int .u8 d, .string more] w fun e w' => e = .returned (.bool true) ∧ Below w.heap.size w w' := by
  have HK := hid (known_any w hT)
  obtain ⟨a0, a1⟩ := bounds_u8 w0
  obtain ⟨b0, b1⟩ := bounds_u8 w1
  obtain ⟨c0, c1⟩ := bounds_u8 w2
  obtain ⟨d0, d1⟩ := bounds_u8 w3
  unfold maxLen at hm
  have HT := hid hT
  clear hT
  by_cases hr : more.size ≤ 60
  · have hcv := fun (V : World) => conv_row V #[.int .u8 a, .int .u8 b, .int .u8 c, .int .u8 d] [a.toNat.toUInt8, b.toNat.toUInt8, c.toNat.toUInt8, d.toNat.toUInt8] 4 rfl (by simp only [List.map_cons, List.map_nil, toByte a a0 (by omega), toByte b b0 (by omega), toByte c c0 (by omega), toByte d d0 (by omega)])
    have hQ : (⟨[a.toNat.toUInt8, b.toNat.toUInt8, c.toNat.toUInt8, d.toNat.toUInt8].toArray⟩ : ByteArray).size = 4 := rfl
    generalize (⟨[a.toNat.toUInt8, b.toNat.toUInt8, c.toNat.toUInt8, d.toNat.toUInt8].toArray⟩ : ByteArray) = Q at *
    obtain ⟨S, hS⟩ : ∃ S, Q ++ more = S := ⟨_, rfl⟩
    have hSs : S.size ≤ 64 := by rw [← hS, ByteArray.size_append]; omega
    obtain ⟨Z, hZ⟩ : ∃ Z, (⟨#[122]⟩ : ByteArray) ++ S = Z := ⟨_, rfl⟩
    have hZs : Z.size ≤ 65 := by rw [← hZ, ByteArray.size_append]; have : (⟨#[122]⟩ : ByteArray).size = 1 := rfl; omega
    have hZr : runesOf Z.data.toList = 122 :: runesOf S.data.toList := by
      rw [← cons_runes, ← hZ]
      congr 1
    have HF := hid (fun w h => fold_walk S w (by omega) h)
    have HG := hid (fun w => rfold_walk S w (by omega))
    have HZ := hid (fun w h => fold_walk Z w (by omega) h)
    rw [hZr] at HZ
    have hl1 := runesOf_length S.data.toList
    have hl2 := placesOf_length S.data.toList
    have hsl : S.data.toList.length = S.size := (Lib.size_eq S).symm
    have HI := hid (fun v1 v2 w h1 h2 => ints_any v1 v2 (runesOf S.data.toList) w (by omega) h1 h2)
    have HJ := hid (fun v1 v2 w h1 h2 => ints_any v1 v2 (placesOf S.data.toList) w (by omega) h1 h2)
    have HPL := hid hl2
    have hn : (runesOf S.data.toList).length ≤ 64 := by omega
    clear hl1 hl2 hsl hZr
    generalize runesOf S.data.toList = rs at *
    generalize placesOf S.data.toList = ps at *
    generalize placesOf Z.data.toList = zs at *
    go_enter Tryd.func4, Tryd.ntmps4
    go_wp2_with fail
    refine HK.out.mono ?_
    rintro e w1 ⟨rfl, bel⟩
    have HT1 := hid (HT.out.on (bel.trans ((Below.refl _ _).alloc bel.size (.cells #[.int .u8 a, .int .u8 b, .int .u8 c, .int .u8 d] 5))))
    have HL1 := hid (up_trans bel (up_alloc _ (.cells #[.int .u8 a, .int .u8 b, .int .u8 c, .int .u8 d] 5)))
    clear bel
    go_wp2_with fail
    refine (HF.out _ HT1.out).mono ?_
    rintro e w2 ⟨g1, g2, c1, c2, rfl, k1, k2, H1, H2, b1, b2, bel⟩
    have HT2 := hid (HT1.out.on bel)
    have HL2 := hid (up_trans HL1.out bel)
    have HR1 : Hid (RowAt w2 (.slice (some ⟨g1, 0, none⟩) rs.length c1) rs) := hid (.inr ⟨g1, 0, c1, rfl, H1⟩)
    have HP1 : Hid (RowAt w2 (.slice (some ⟨g2, 0, none⟩) (rs.length + 1) c2) ps) := hid (.inr ⟨g2, 0, c2, by rw [HPL.out], H2⟩)
    clear bel HT1 HL1 H1 H2 b1 b2
    go_wp2_with fail
    refine (HG.out _).mono ?_
    rintro e w3 ⟨v4, v5, rfl, R4, R5, bel⟩
    have HT3 := hid (HT2.out.on bel)
    have HL3 := hid (up_trans HL2.out bel)
    have HR2 := hid (HR1.out.on bel)
    have HP2 := hid (HP1.out.on bel)
    have HR4 := hid R4
    have HR5 := hid R5
    clear bel HT2 HL2 HR1 HP1 R4 R5
    go_wp2_with fail
    refine (HZ.out _ HT3.out).mono ?_
    rintro e w4 ⟨g3, g4, c3, c4, rfl, k3, k4, H3, H4, b3, b4, bel⟩
    have HL4 := hid (up_trans HL3.out bel)
    have HR3 := hid (HR2.out.on bel)
    have HP3 := hid (HP2.out.on bel)
    have HR6 := hid (HR4.out.on bel)
    have HR7 := hid (HR5.out.on bel)
    have HZ3 := hid H3
    rw [List.length_cons] at k3 k4
    clear bel HT3 HL3 HR2 HP2 HR4 HR5 H3 H4 b3 b4
    go_wp2_with fail
    refine (HI.out _ _ w4 HR3.out HR6.out).mono ?_
    rintro e w5 ⟨rfl, bel⟩
    have HL5 := hid (up_trans HL4.out bel)
    have HR8 := hid (HR3.out.on bel)
    have HP8 := hid (HP3.out.on bel)
    have HR9 := hid (HR7.out.on bel)
    have HZ5 := hid (HZ3.out.on bel)
    clear bel HL4 HR3 HP3 HR6 HR7 HZ3
    go_wp2_with fail
    refine (HJ.out _ _ w5 HP8.out HR9.out).mono ?_
    rintro e w6 ⟨rfl, bel⟩
    have HL6 := hid (up_trans HL5.out bel)
    have HR10 := hid (HR8.out.on bel)
    have HZ6 := hid (HZ5.out.on bel)
    clear bel HL5 HR8 HP8 HR9 HZ5
    go_wp2_with fail
    · refine (HI.out _ _ w6 (.inr ⟨g3, 0, 0, rfl, nil_row (by omega)⟩) HR10.out).mono ?_
      rintro e w7 ⟨rfl, bel⟩
      have HL7 := hid (up_trans HL6.out bel)
      have x0 : w7.cell? ⟨g3, 0, none⟩ = some (.int .i64 122) := (HZ6.out.on bel).at 0 122 rfl
      clear bel
      go_wp2
      go_ret
      exact ⟨rfl, HL7.out⟩
    · refine (HI.out _ _ w6 (.inr ⟨g3, 1, c3 - 1, rfl, tail_row HZ6.out⟩) HR10.out).mono ?_
      rintro e w7 ⟨rfl, bel⟩
      have HL7 := hid (up_trans HL6.out bel)
      have x0 : w7.cell? ⟨g3, 0, none⟩ = some (.int .i64 122) := (HZ6.out.on bel).at 0 122 rfl
      clear bel
      go_wp2
      go_ret
      exact ⟨rfl, HL7.out⟩
  · have hr2 : 60 < more.size := by omega
    go_enter Tryd.func4, Tryd.ntmps4
    go_wp2_with fail
    refine HK.out.mono ?_
    rintro e w1 ⟨rfl, bel⟩
    have HL1 := hid bel
    clear bel
    go_wp2
    go_ret
    exact ⟨rfl, HL1.out⟩

theorem own : ownKnob Tryd.prog.godebug = none := by kernel_rfl

theorem table {W : World} (h : laidMetH Tryd.prog Rows.foldBadRow.laid W) : Tab W := by
  rw [MakeChecks.laidMetH_plain _ _ _ (by kernel_rfl)] at h
  have hn : Tryd.prog.globalNamed "interlocutor/fold.noughts" = some 0 := by kernel_rfl
  have hT := Lib.tabIs_of_head (k := .i64) (zs := [48, 1632, 1776, 2406]) hn (show (Tryd.prog.globals[0]?).map (·.type) = some 46 by kernel_rfl) Tryd.underlying46 Tryd.underlying42 (by kernel_rfl) (by kernel_rfl) h
  exact ⟨hT.cell hn 0 (by decide), hT.cell hn 1 (by decide), hT.cell hn 2 (by decide), hT.cell hn 3 (by decide)⟩

set_option maxRecDepth 100000 in
theorem lifted (os : Os) (started : os.Started) (H : Type) (enc : TypeId × Value → H) :
    ReturnsInHanded {} Tryd.checked os 4 .any (fun w args => (Rows.foldBadSpec.pre enc Tryd.prog Tryd.f4 Rows.foldBadRow.domain false w args ∧ laidMetH Tryd.prog Rows.foldBadRow.laid w) ∧ sizedMet enc Tryd.prog Tryd.f4 (OpenSpec.ofChange Rows.foldBadSpec) false w args)
      (Rows.foldBadSpec.post enc Tryd.prog Tryd.f4 false true false false) := by
  refine returnsInHanded_of_change_and (C := Tryd.checked) (X := fun w _ => laidMetH Tryd.prog Rows.foldBadRow.laid w) (fun _ _ _ hh h => h.of_heap hh) own started (by kernel_rfl) Tryd.func4
    (ChangeSpec.witness_shaped (enc := enc) (C := Tryd.checked) (os := os) (X := fun w _ => laidMetH Tryd.prog Rows.foldBadRow.laid w) false (World.laidAll Tryd.prog os Rows.foldBadRow.laid) #[.int .u8 0, .int .u8 0, .int .u8 0, .int .u8 0, .string ⟨#[]⟩] 8 (World.laidAll_os _ _ _)
      (World.shaped_of_ZipB (by kernel_rfl) (by kernel_rfl)) (by kernel_rfl) (by kernel_rfl) (by kernel_rfl)
      (by rw [MakeChecks.laidMetH_plain _ _ _ (by kernel_rfl)]; exact laidMet_laidAll _ (by kernel_rfl) (by kernel_rfl))) ?_
  intro W base args ds gs before hval0 hW _ _ hL _
  have hval : ∀ (j : Nat) t v, Tryd.f4.params[j]? = some t → args[j]? = some v → Value.okWide Tryd.prog W .any base t v := hval0
  have hW' := hW
  obtain ⟨p, q, hA0, hV, rfl, hfz, hnd⟩ := hW
  have hA : DataW.TrodAll enc Tryd.prog W 0 (fun _ => true) true Tryd.f4.params.toList args.toList ds p := hA0
  rw [Tryd.params4] at hA hval
  obtain ⟨v0, vs0, d0, ds0, p0, q0, hargs, rfl, rfl, h0, r0⟩ := trodAll_cons hA
  obtain ⟨v1, vs1, d1, ds1, p1, q1, rfl, rfl, rfl, h1, r1⟩ := trodAll_cons r0
  obtain ⟨v2, vs2, d2, ds2, p2, q2, rfl, rfl, rfl, h2, r2⟩ := trodAll_cons r1
  obtain ⟨v3, vs3, d3, ds3, p3, q3, rfl, rfl, rfl, h3, r3⟩ := trodAll_cons r2
  obtain ⟨v4, vs4, d4, ds4, p4, q4, rfl, rfl, rfl, h4, r4⟩ := trodAll_cons r3
  obtain ⟨rfl, rfl, rfl⟩ := trodAll_nil r4
  obtain rfl : args = #[v0, v1, v2, v3, v4] := by cases args; simp_all
  obtain ⟨rfl, rfl⟩ := trodVars_none hV
  obtain ⟨a0, rfl, rfl, rfl, w0⟩ := open_int Tryd.underlying5 (hval 0 5 v0 rfl rfl) h0
  obtain ⟨a1, rfl, rfl, rfl, w1⟩ := open_int Tryd.underlying5 (hval 1 5 v1 rfl rfl) h1
  obtain ⟨a2, rfl, rfl, rfl, w2⟩ := open_int Tryd.underlying5 (hval 2 5 v2 rfl rfl) h2
  obtain ⟨a3, rfl, rfl, rfl, w3⟩ := open_int Tryd.underlying5 (hval 3 5 v3 rfl rfl) h3
  obtain ⟨a4, rfl, rfl, rfl, w4⟩ := ChangeMaps.open_string Tryd.underlying9 (hval 4 9 v4 rfl rfl) h4
  clear hA0 hval0
  refine (walk a0 a1 a2 a3 a4 W w0 w1 w2 w3 w4 (table hL)).mono fun e W' ⟨he, bel⟩ => ?_
  subst he
  exact ⟨_, rfl, _, _, _, [], _, [], hW', trodAll_mk1 (shut_bool Tryd.underlying4 _), (trodAll_cons_mk (shut_int Tryd.underlying5 w0) (trodAll_cons_mk (shut_int Tryd.underlying5 w1) (trodAll_cons_mk (shut_int Tryd.underlying5 w2) (trodAll_cons_mk (shut_int Tryd.underlying5 w3) (trodAll_cons_mk (ChangeMaps.shut_string Tryd.underlying9 w4) trodAll_mk0))))), rfl, bel.frame _, fun h => by cases h⟩

theorem row_holds : Rows.FoldBadSaid :=
  OpenClaim.holds_of_wide 4 Tryd.f4 rfl rfl rfl rfl rfl rfl rfl ⟨rfl, rfl, rfl, rfl, rfl⟩ rfl rfl rfl rfl rfl (by kernel_rfl) Tryd.func4 (by kernel_rfl)
    (of_decide_eq_true (by kernel_rfl)) (by unfold Func.isWrapper; first | (rw [if_pos (by decide +kernel)]; kernel_rfl) | (rw [if_neg (by decide +kernel)]; exact ⟨rfl, rfl⟩))
    (fun os started H enc _ => lifted os started H enc)

theorem foldBad_holds : Rows.FoldBadCardSaid :=
  Claim7.holds_tied_plain_at .later [] _ _ _ _ row_holds (fun _ h => by cases h) (by kernel_rfl) (fun _ h => by cases h) foldBad_row_tie rfl ⟨rfl, rfl⟩ (by kernel_rfl) rfl
    (fun f fn hf hfn => by
      obtain rfl : f = 4 := Option.some.inj ((show Tryd.prog.funcNamed "interlocutor/interlocutorlaw3.FoldBad" = some 4 by kernel_rfl).symm.trans hf) |>.symm
      obtain rfl : fn = Tryd.f4 := (Option.some.inj (Tryd.func4.symm.trans hfn)).symm
      exact ⟨by kernel_rfl, fun j t ht => by
        rw [Tryd.params4] at ht
        have hm : t ∈ [5, 9] := by
          have := Array.mem_of_getElem? ht
          simp at this ⊢
          omega
        have hall : ([5, 9].all fun u => !Tryd.prog.wantsStandIn u) = true := by kernel_rfl
        exact (show Tryd.prog.wantsStandIn t = false by simpa using List.all_eq_true.1 hall t hm)⟩)
    (by kernel_rfl)

end Go.Proofs.YtigolkgojckciabDoor
