/- FoldOnes answers true of every int: each sign by itself is one sign, as long as it is. The table of noughts reads as the program's text lays it. -/
import Derived.Test.YtigolkgojckciabDoorCards
import Derived.Test.YtigolkgojckciabDoorTie
import Derived.Test.YtigolkgojckciabDoorRef
import Derived.Test.YtigolkgojckciabDoorDigits
import Derived.ProofKit
import Derived.OpenShut
import Derived.Lay
import Derived.SevenTiedAt
import Derived.Stop.Joined
import Derived.Lib.LaidTab
namespace Go.Proofs.YtigolkgojckciabDoor
open Go.ChangeShapes Go.WideShapes Go.ChangeAt Go.RowKit

theorem walk (a : Int) (w : World) (_w0 : (Lit.int .i64 a).wf = true) (hT : Tab w) :
    Calls Tryd.prog 5 #[.int .i64 a] w fun e w' => e = .returned (.bool true) ∧ Below w.heap.size w w' := by
  have HK := hid (known_any w hT)
  have HA := hid (fun w => lwithin_any a 1114112 w (by decide) (by decide))
  have hk : 0 ≤ a % 1114112 ∧ a % 1114112 < 1114112 := by omega
  generalize a % 1114112 = k at *
  have key : ∃ q : Int, (55296 ≤ k ∧ k ≤ 57343 ∧ q = 8364 ∨ ¬ (55296 ≤ k ∧ k ≤ 57343) ∧ q = k) ∧ okRune q ∧ 0 ≤ q ∧ q ≤ 1114111 := by
    by_cases h : 55296 ≤ k ∧ k ≤ 57343
    · exact ⟨8364, Or.inl ⟨h.1, h.2, rfl⟩, by unfold okRune; omega, by omega, by omega⟩
    · exact ⟨k, Or.inr ⟨h, rfl⟩, by unfold okRune; omega, by omega, by omega⟩
  obtain ⟨q, hq, hok, q0, q1⟩ := key
  have HO := hid (fun w => one_any q w q0 q1 hok)
  have hl := encodeRune_length q
  have er := one_runes q hok
  have ep := one_places q hok
  have HR := hid (fun w => rrune_any q (by omega) (by omega) w)
  have HF := hid (fold_at _ _ _ 1 er ep rfl (by omega))
  clear er ep hok
  generalize runeZ q = z at *
  generalize Lib.encodeRune q = L at *
  have HT := hid hT
  clear hT
  rcases hq with ⟨h1, h2, rfl⟩ | ⟨h1, rfl⟩
  · go_enter Tryd.func5, Tryd.ntmps5
    go_wp2_with fail
    refine HK.out.mono ?_
    rintro e w1 ⟨rfl, bel⟩
    have HT1 := hid (HT.out.on bel)
    have HL1 := hid bel
    clear bel
    go_wp2_with fail
    refine (HA.out _).mono ?_
    rintro e w2 ⟨rfl, rfl⟩
    go_wp2_with fail
    refine (HO.out _).mono ?_
    rintro e w2 ⟨rfl, bel⟩
    have HT2 := hid (HT1.out.on bel)
    have HL2 := hid (up_trans HL1.out bel)
    clear bel
    go_wp2_with fail
    refine (HF.out _ HT2.out).mono ?_
    rintro e w3 ⟨g1, g2, c1, c2, rfl, k1, k2, H1, H2, b1, b2, bel⟩
    have x0 : w3.cell? ⟨g1, 0, none⟩ = some (.int .i64 z) := H1.at 0 z rfl
    have x1 : w3.cell? ⟨g2, 0, none⟩ = some (.int .i64 0) := H2.at 0 0 rfl
    have x2 : w3.cell? ⟨g2, 1, none⟩ = some (.int .i64 (L.length : Int)) := H2.at 1 _ rfl
    have HL3 := hid (up_trans HL2.out bel)
    clear bel H1 H2
    go_wp2_with fail
    go_quiet ((go_at_call 14; refine Calls.quiet_of_same (HR.out _)))
    go_wp2
    go_ret
    exact ⟨rfl, below_drewN HL3.out _⟩
  · rcases (show q < 55296 ∨ 55296 ≤ q ∧ 57343 < q by omega) with h2 | h2
    · go_enter Tryd.func5, Tryd.ntmps5
      go_wp2_with fail
      refine HK.out.mono ?_
      rintro e w1 ⟨rfl, bel⟩
      have HT1 := hid (HT.out.on bel)
      have HL1 := hid bel
      clear bel
      go_wp2_with fail
      refine (HA.out _).mono ?_
      rintro e w2 ⟨rfl, rfl⟩
      go_wp2_with fail
      refine (HO.out _).mono ?_
      rintro e w2 ⟨rfl, bel⟩
      have HT2 := hid (HT1.out.on bel)
      have HL2 := hid (up_trans HL1.out bel)
      clear bel
      go_wp2_with fail
      refine (HF.out _ HT2.out).mono ?_
      rintro e w3 ⟨g1, g2, c1, c2, rfl, k1, k2, H1, H2, b1, b2, bel⟩
      have x0 : w3.cell? ⟨g1, 0, none⟩ = some (.int .i64 z) := H1.at 0 z rfl
      have x1 : w3.cell? ⟨g2, 0, none⟩ = some (.int .i64 0) := H2.at 0 0 rfl
      have x2 : w3.cell? ⟨g2, 1, none⟩ = some (.int .i64 (L.length : Int)) := H2.at 1 _ rfl
      have HL3 := hid (up_trans HL2.out bel)
      clear bel H1 H2
      go_wp2_with fail
      go_quiet ((go_at_call 14; refine Calls.quiet_of_same (HR.out _)))
      go_wp2
      go_ret
      exact ⟨rfl, below_drewN HL3.out _⟩
    · go_enter Tryd.func5, Tryd.ntmps5
      go_wp2_with fail
      refine HK.out.mono ?_
      rintro e w1 ⟨rfl, bel⟩
      have HT1 := hid (HT.out.on bel)
      have HL1 := hid bel
      clear bel
      go_wp2_with fail
      refine (HA.out _).mono ?_
      rintro e w2 ⟨rfl, rfl⟩
      go_wp2_with fail
      refine (HO.out _).mono ?_
      rintro e w2 ⟨rfl, bel⟩
      have HT2 := hid (HT1.out.on bel)
      have HL2 := hid (up_trans HL1.out bel)
      clear bel
      go_wp2_with fail
      refine (HF.out _ HT2.out).mono ?_
      rintro e w3 ⟨g1, g2, c1, c2, rfl, k1, k2, H1, H2, b1, b2, bel⟩
      have x0 : w3.cell? ⟨g1, 0, none⟩ = some (.int .i64 z) := H1.at 0 z rfl
      have x1 : w3.cell? ⟨g2, 0, none⟩ = some (.int .i64 0) := H2.at 0 0 rfl
      have x2 : w3.cell? ⟨g2, 1, none⟩ = some (.int .i64 (L.length : Int)) := H2.at 1 _ rfl
      have HL3 := hid (up_trans HL2.out bel)
      clear bel H1 H2
      go_wp2_with fail
      go_quiet ((go_at_call 14; refine Calls.quiet_of_same (HR.out _)))
      go_wp2
      go_ret
      exact ⟨rfl, below_drewN HL3.out _⟩

theorem own : ownKnob Tryd.prog.godebug = none := by kernel_rfl

theorem table {W : World} (h : laidMetH Tryd.prog Rows.foldOnesRow.laid W) : Tab W := by
  rw [MakeChecks.laidMetH_plain _ _ _ (by kernel_rfl)] at h
  have hn : Tryd.prog.globalNamed "interlocutor/fold.noughts" = some 0 := by kernel_rfl
  have hT := Lib.tabIs_of_head (k := .i64) (zs := [48, 1632, 1776, 2406]) hn (show (Tryd.prog.globals[0]?).map (·.type) = some 46 by kernel_rfl) Tryd.underlying46 Tryd.underlying42 (by kernel_rfl) (by kernel_rfl) h
  exact ⟨hT.cell hn 0 (by decide), hT.cell hn 1 (by decide), hT.cell hn 2 (by decide), hT.cell hn 3 (by decide)⟩

set_option maxRecDepth 100000 in
theorem lifted (os : Os) (started : os.Started) (H : Type) (enc : TypeId × Value → H) :
    ReturnsInHanded {} Tryd.checked os 5 .any (fun w args => (Rows.foldOnesSpec.pre enc Tryd.prog Tryd.f5 Rows.foldOnesRow.domain false w args ∧ laidMetH Tryd.prog Rows.foldOnesRow.laid w) ∧ sizedMet enc Tryd.prog Tryd.f5 (OpenSpec.ofChange Rows.foldOnesSpec) false w args)
      (Rows.foldOnesSpec.post enc Tryd.prog Tryd.f5 false true false false) := by
  refine returnsInHanded_of_change_and (C := Tryd.checked) (X := fun w _ => laidMetH Tryd.prog Rows.foldOnesRow.laid w) (fun _ _ _ hh h => h.of_heap hh) own started (by kernel_rfl) Tryd.func5
    (ChangeSpec.witness_shaped (enc := enc) (C := Tryd.checked) (os := os) (X := fun w _ => laidMetH Tryd.prog Rows.foldOnesRow.laid w) false (World.laidAll Tryd.prog os Rows.foldOnesRow.laid) #[.int .i64 0] 8 (World.laidAll_os _ _ _)
      (World.shaped_of_ZipB (by kernel_rfl) (by kernel_rfl)) (by kernel_rfl) (by kernel_rfl) (by kernel_rfl)
      (by rw [MakeChecks.laidMetH_plain _ _ _ (by kernel_rfl)]; exact laidMet_laidAll _ (by kernel_rfl) (by kernel_rfl))) ?_
  intro W base args ds gs before hval0 hW _ _ hL _
  have hval : ∀ (j : Nat) t v, Tryd.f5.params[j]? = some t → args[j]? = some v → Value.okWide Tryd.prog W .any base t v := hval0
  have hW' := hW
  obtain ⟨p, q, hA0, hV, rfl, hfz, hnd⟩ := hW
  have hA : DataW.TrodAll enc Tryd.prog W 0 (fun _ => true) true Tryd.f5.params.toList args.toList ds p := hA0
  rw [Tryd.params5] at hA hval
  obtain ⟨v0, vs0, d0, ds0, p0, q0, hargs, rfl, rfl, h0, r0⟩ := trodAll_cons hA
  obtain ⟨rfl, rfl, rfl⟩ := trodAll_nil r0
  obtain rfl : args = #[v0] := by cases args; simp_all
  obtain ⟨rfl, rfl⟩ := trodVars_none hV
  obtain ⟨a0, rfl, rfl, rfl, w0⟩ := open_int Tryd.underlying3 (hval 0 3 v0 rfl rfl) h0
  clear hA0 hval0
  refine (walk a0 W w0 (table hL)).mono fun e W' ⟨he, bel⟩ => ?_
  subst he
  exact ⟨_, rfl, _, _, _, [], _, [], hW', trodAll_mk1 (shut_bool Tryd.underlying4 _), (trodAll_cons_mk (shut_int Tryd.underlying3 w0) trodAll_mk0), rfl, bel.frame _, fun h => by cases h⟩

theorem row_holds : Rows.FoldOnesSaid :=
  OpenClaim.holds_of_wide 5 Tryd.f5 rfl rfl rfl rfl rfl rfl rfl ⟨rfl, rfl, rfl, rfl, rfl⟩ rfl rfl rfl rfl rfl (by kernel_rfl) Tryd.func5 (by kernel_rfl)
    (of_decide_eq_true (by kernel_rfl)) (by unfold Func.isWrapper; first | (rw [if_pos (by decide +kernel)]; kernel_rfl) | (rw [if_neg (by decide +kernel)]; exact ⟨rfl, rfl⟩))
    (fun os started H enc _ => lifted os started H enc)

theorem foldOnes_holds : Rows.FoldOnesCardSaid :=
  Claim7.holds_tied_plain_at .later [] _ _ _ _ row_holds (fun _ h => by cases h) (by kernel_rfl) (fun _ h => by cases h) foldOnes_row_tie rfl ⟨rfl, rfl⟩ (by kernel_rfl) rfl
    (fun f fn hf hfn => by
      obtain rfl : f = 5 := Option.some.inj ((show Tryd.prog.funcNamed "interlocutor/interlocutorlaw3.FoldOnes" = some 5 by kernel_rfl).symm.trans hf) |>.symm
      obtain rfl : fn = Tryd.f5 := (Option.some.inj (Tryd.func5.symm.trans hfn)).symm
      exact ⟨by kernel_rfl, fun j t ht => by
        rw [Tryd.params5] at ht
        have hm : t ∈ [3] := by
          have := Array.mem_of_getElem? ht
          simp at this ⊢
          omega
        have hall : ([3].all fun u => !Tryd.prog.wantsStandIn u) = true := by kernel_rfl
        exact (show Tryd.prog.wantsStandIn t = false by simpa using List.all_eq_true.1 hall t hm)⟩)
    (by kernel_rfl)

end Go.Proofs.YtigolkgojckciabDoor
