/- FoldTwice answers true of any numbers and any bytes: what was made alike is made alike to itself. The table of noughts reads as the program's text lays it. -/
import Derived.Test.YtigolkgojckciaaDoorCards
import Derived.Test.YtigolkgojckciaaDoorTie
import Derived.Test.YtigolkgojckciaaDoorSigns
import Derived.ProofKit
import Derived.OpenShut
import Derived.Lay
import Derived.SevenTiedAt
import Derived.Stop.Joined
import Derived.Lib.LaidTab
import Derived.Carry
namespace Go.Proofs.YtigolkgojckciaaDoor
open Go.ChangeShapes Go.WideShapes Go.ChangeAt Go.RowKit

theorem textOf_length (l : List UInt8) : (textOf l).length ≤ 4 * l.length := by
  have h1 := flat_length (runesOf l)
  have h2 := runesOf_length l
  unfold textOf
  omega

theorem walk (v0 : Value) (ns : List Int) (v1 : Value) (raw : List Int) (w : World) (h0 : Arg w .i64 v0 ns) (h1 : Arg w .u8 v1 raw) (hT : Tab w) :
    Calls Tryd.prog 5 #[v0, v1] w fun e w' => e = .returned (.bool true) ∧ Below w.heap.size w w' := by
  have HK := hid (known_any w hT)
  have HS := hid (fun (W : World) (hb : Below w.heap.size w W) (hr : raw.length ≤ 60) => signs_any v0 v1 ns raw W (h0.on hb) (h1.on hb) hr)
  obtain ⟨ad0, cap0, rfl, _, _, _, _, _⟩ := h0
  obtain ⟨ad1, cap1, rfl, hl1, hm1, _, _, _⟩ := h1
  unfold maxLen at hm1
  have HT := hid hT
  clear hT
  by_cases hr : raw.length ≤ 60
  · go_enter Tryd.func5, Tryd.ntmps5
    go_wp2_with fail
    refine HK.out.mono ?_
    rintro e w1 ⟨rfl, bel⟩
    have HT1 := hid (HT.out.on bel)
    have HL1 := hid bel
    clear bel
    go_wp2_with fail
    refine (HS.out w1 HL1.out hr).mono ?_
    rintro e w2 ⟨s, rfl, hs, bel⟩
    have HT2 := hid (HT1.out.on bel)
    have HL2 := hid (up_trans HL1.out bel)
    have hl : s.data.toList.length ≤ 2560 := by rw [← Lib.size_eq]; exact hs
    have ht := textOf_length s.data.toList
    have hrl := runesOf_length s.data.toList
    have HX := hid (text_walk s w2 (by omega) HT2.out)
    have HF := hid (fun w h => fold_walk s w (by omega) h)
    have HG := hid (fun w h => fold_at (textOf s.data.toList) (runesOf s.data.toList) _ _ (runesOf_text _) rfl rfl (by omega) w h)
    have HY := hid (fun w h => text_at (textOf s.data.toList) (textOf s.data.toList) (textOf_text _) (by omega) w h)
    have HI := hid (fun v1 v2 w h1 h2 => ints_any v1 v2 (runesOf s.data.toList) w (by omega) h1 h2)
    clear bel HT1 HL1 HS hl ht
    obtain ⟨rs, hrs⟩ : ∃ rs, rs = runesOf s.data.toList := ⟨_, rfl⟩
    rw [← hrs] at HF HG HI hrl
    clear hrs
    generalize textOf s.data.toList = T at *
    go_wp2_with fail
    refine HX.out.mono ?_
    rintro e w3 ⟨rfl, bel⟩
    have HT3 := hid (HT2.out.on bel)
    have HL3 := hid (up_trans HL2.out bel)
    clear bel HT2 HL2
    go_wp2_with fail
    refine (HF.out w3 HT3.out).mono ?_
    rintro e w4 ⟨g1, g2, c1, c2, rfl, k1, k2, H1, H2, b1, b2, bel⟩
    have HT4 := hid (HT3.out.on bel)
    have HL4 := hid (up_trans HL3.out bel)
    have HH1 := hid H1
    clear bel HT3 HL3 H1 H2 b1 b2
    go_wp2_with fail
    refine (HG.out w4 HT4.out).mono ?_
    rintro e w5 ⟨g3, g4, c3, c4, rfl, k3, k4, H3, H4, b3, b4, bel⟩
    have HT5 := hid (HT4.out.on bel)
    have HL5 := hid (up_trans HL4.out bel)
    have HH2 := hid (HH1.out.on bel)
    have HH3 := hid H3
    clear bel HT4 HL4 HH1 H3 H4 b3 b4
    go_wp2_with fail
    refine (HY.out w5 HT5.out).mono ?_
    rintro e w6 ⟨rfl, bel⟩
    have HL6 := hid (up_trans HL5.out bel)
    have HH4 := hid (HH2.out.on bel)
    have HH5 := hid (HH3.out.on bel)
    clear bel HT5 HL5 HH2 HH3
    go_wp2_with fail
    refine (HI.out _ _ w6 (.inr ⟨g1, 0, c1, rfl, HH4.out⟩) (.inr ⟨g3, 0, c3, rfl, HH5.out⟩)).mono ?_
    rintro e w7 ⟨rfl, bel⟩
    have HL7 := hid (up_trans HL6.out bel)
    clear bel
    go_wp2
    go_ret
    exact ⟨rfl, HL7.out⟩
  · have hr2 : 60 < raw.length := by omega
    go_enter Tryd.func5, Tryd.ntmps5
    go_wp2_with fail
    refine HK.out.mono ?_
    rintro e w1 ⟨rfl, bel⟩
    have HL1 := hid bel
    clear bel
    go_wp2
    go_ret
    exact ⟨rfl, HL1.out⟩

theorem own : ownKnob Tryd.prog.godebug = none := by kernel_rfl

theorem table {W : World} (h : laidMetH Tryd.prog Rows.foldTwiceRow.laid W) : Tab W := by
  rw [MakeChecks.laidMetH_plain _ _ _ (by kernel_rfl)] at h
  have hn : Tryd.prog.globalNamed "interlocutor/fold.noughts" = some 0 := by kernel_rfl
  have hT := Lib.tabIs_of_head (k := .i64) (zs := [48, 1632, 1776, 2406]) hn (show (Tryd.prog.globals[0]?).map (·.type) = some 55 by kernel_rfl) Tryd.underlying55 Tryd.underlying49 (by kernel_rfl) (by kernel_rfl) h
  exact ⟨hT.cell hn 0 (by decide), hT.cell hn 1 (by decide), hT.cell hn 2 (by decide), hT.cell hn 3 (by decide)⟩

set_option maxRecDepth 100000 in
theorem lifted (os : Os) (started : os.Started) (H : Type) (enc : TypeId × Value → H) :
    ReturnsInHanded {} Tryd.checked os 5 .any (fun w args => (Rows.foldTwiceSpec.pre enc Tryd.prog Tryd.f5 Rows.foldTwiceRow.domain false w args ∧ laidMetH Tryd.prog Rows.foldTwiceRow.laid w) ∧ sizedMet enc Tryd.prog Tryd.f5 (OpenSpec.ofChange Rows.foldTwiceSpec) false w args)
      (Rows.foldTwiceSpec.post enc Tryd.prog Tryd.f5 false true false false) := by
  refine returnsInHanded_of_change_and (C := Tryd.checked) (X := fun w _ => laidMetH Tryd.prog Rows.foldTwiceRow.laid w) (fun _ _ _ hh h => h.of_heap hh) own started (by kernel_rfl) Tryd.func5
    (ChangeSpec.witness_shaped (enc := enc) (C := Tryd.checked) (os := os) (X := fun w _ => laidMetH Tryd.prog Rows.foldTwiceRow.laid w) false (World.laidAll Tryd.prog os Rows.foldTwiceRow.laid) #[.slice none 0 0, .slice none 0 0] 8 (World.laidAll_os _ _ _)
      (World.shaped_of_ZipB (by kernel_rfl) (by kernel_rfl)) (by kernel_rfl) (by kernel_rfl) (by kernel_rfl)
      (by rw [MakeChecks.laidMetH_plain _ _ _ (by kernel_rfl)]; exact laidMet_laidAll _ (by kernel_rfl) (by kernel_rfl))) ?_
  intro W base args ds gs before hval0 hW _ _ hL _
  have hval : ∀ (j : Nat) t v, Tryd.f5.params[j]? = some t → args[j]? = some v → Value.okWide Tryd.prog W .any base t v := hval0
  have hW' := hW
  obtain ⟨p, q, hA0, hV, rfl, hfz, hnd⟩ := hW
  have hA : DataW.TrodAll enc Tryd.prog W 0 (fun _ => true) true Tryd.f5.params.toList args.toList ds p := hA0
  rw [Tryd.params5] at hA hval
  obtain ⟨v0, vs0, d0, ds0, p0, q0, hargs, rfl, rfl, h0, r0⟩ := trodAll_cons hA
  obtain ⟨v1, vs1, d1, ds1, p1, q1, rfl, rfl, rfl, h1, r1⟩ := trodAll_cons r0
  obtain ⟨rfl, rfl, rfl⟩ := trodAll_nil r1
  obtain rfl : args = #[v0, v1] := by cases args; simp_all
  obtain ⟨rfl, rfl⟩ := trodVars_none hV
  obtain ⟨x0, w0⟩ := arg_of Tryd.underlying22 Tryd.underlying3 (by kernel_rfl) (hval 0 22 v0 rfl rfl) h0
  have l0 : ∀ x ∈ p0, x.block < W.heap.size := fun x hx => hW'.lt x (by simp [hx])
  obtain ⟨x1, w1⟩ := arg_of Tryd.underlying23 Tryd.underlying5 (by kernel_rfl) (hval 1 23 v1 rfl rfl) h1
  have l1 : ∀ x ∈ p1, x.block < W.heap.size := fun x hx => hW'.lt x (by simp [hx])
  clear hA0 hval0
  refine (walk v0 x0 v1 x1 W w0 w1 (table hL)).mono fun e W' ⟨he, bel⟩ => ?_
  subst he
  exact ⟨_, rfl, _, _, _, _, _, [], hW', trodAll_mk1 (shut_bool Tryd.underlying4 _), (trodAll_cons_mk (Below.trod (by kernel_rfl) (by kernel_rfl) (of_decide_eq_true (by kernel_rfl)) h0 bel l0) (trodAll_cons_mk (Below.trod (by kernel_rfl) (by kernel_rfl) (of_decide_eq_true (by kernel_rfl)) h1 bel l1) trodAll_mk0)), rfl, bel.frame _, fun h => by cases h⟩

theorem row_holds : Rows.FoldTwiceSaid :=
  OpenClaim.holds_of_wide 5 Tryd.f5 rfl rfl rfl rfl rfl rfl rfl ⟨rfl, rfl, rfl, rfl, rfl⟩ rfl rfl rfl rfl rfl (by kernel_rfl) Tryd.func5 (by kernel_rfl)
    (of_decide_eq_true (by kernel_rfl)) (by unfold Func.isWrapper; first | (rw [if_pos (by decide +kernel)]; kernel_rfl) | (rw [if_neg (by decide +kernel)]; exact ⟨rfl, rfl⟩))
    (fun os started H enc _ => lifted os started H enc)

theorem foldTwice_holds : Rows.FoldTwiceCardSaid :=
  Claim7.holds_tied_plain_at .later [] _ _ _ _ row_holds (fun _ h => by cases h) (by kernel_rfl) (fun _ h => by cases h) foldTwice_row_tie rfl ⟨rfl, rfl⟩ (by kernel_rfl) rfl
    (fun f fn hf hfn => by
      obtain rfl : f = 5 := Option.some.inj ((show Tryd.prog.funcNamed "interlocutor/interlocutorlaw3.FoldTwice" = some 5 by kernel_rfl).symm.trans hf) |>.symm
      obtain rfl : fn = Tryd.f5 := (Option.some.inj (Tryd.func5.symm.trans hfn)).symm
      exact ⟨by kernel_rfl, fun j t ht => by
        rw [Tryd.params5] at ht
        have hm : t ∈ [22, 23] := by
          have := Array.mem_of_getElem? ht
          simp at this ⊢
          omega
        have hall : ([22, 23].all fun u => !Tryd.prog.wantsStandIn u) = true := by kernel_rfl
        exact (show Tryd.prog.wantsStandIn t = false by simpa using List.all_eq_true.1 hall t hm)⟩)
    (by kernel_rfl)

end Go.Proofs.YtigolkgojckciaaDoor
