/- FoldDigits answers true of every two ints: a digit of one of the four systems is written as the document says, and made alike to its number. The table of noughts reads as the program's text lays it. -/
import Derived.Test.YtigolkgojckciaaDoorCards
import Derived.Test.YtigolkgojckciaaDoorTie
import Derived.Test.YtigolkgojckciaaDoorRefDigit
import Derived.Test.YtigolkgojckciaaDoorDigits
import Derived.Deep.RegionHeld
import Derived.ProofKit
import Derived.OpenShut
import Derived.Lay
import Derived.SevenTiedAt
import Derived.Stop.Joined
import Derived.Lib.LaidTab
namespace Go.Proofs.YtigolkgojckciaaDoor
open Go.ChangeShapes Go.WideShapes Go.ChangeAt Go.RowKit

theorem conv_on {V w5 : World} {x : Int} {b : UInt8} (hb : (b.toNat : Int) = x) (b5 : Below (V.alloc (.cells #[.int .u8 x] 5)).heap.size (V.alloc (.cells #[.int .u8 x] 5)) w5) :
    (convert 23 9 (.slice (some ⟨V.heap.size, 0, none⟩) 1 1)).run Tryd.prog w5 = .ok (.string ⟨#[b]⟩) w5 := by
  refine run_convert_bytes_back (P := Tryd.prog) w5 23 9 5 ⟨V.heap.size, 0, none⟩ 1 [b] Tryd.underlying23 Tryd.underlying5 Tryd.underlying9 (fun j hj => ?_)
  obtain rfl : j = 0 := by simpa using hj
  rw [b5.cell (by simp [Addr.add])]
  have e : ((⟨V.heap.size, 0, none⟩ : Addr).add 0) = ⟨V.heap.size, 0, none⟩ := by simp [Addr.add]
  rw [e, cell_of_row _ _ 0 #[.int .u8 x] 5 _ (row_new V _)]
  simp [hb]

theorem held_on {w W W' : World} {g : Nat} {x : Int} (b : Below W.heap.size W W') (h : W.cell? ⟨g, 0, none⟩ = some (.int .i64 x) ∧ Hid (Tab W ∧ Below w.heap.size w W)) : W'.cell? ⟨g, 0, none⟩ = some (.int .i64 x) ∧ Hid (Tab W' ∧ Below w.heap.size w W') :=
  ⟨(b.cell (lt_of_cell h.1)).trans h.1, ⟨h.2.out.1.on b, up_trans h.2.out.2 b⟩⟩
theorem held_tab {w W : World} {g : Nat} {x : Int} (h : W.cell? ⟨g, 0, none⟩ = some (.int .i64 x) ∧ Hid (Tab W ∧ Below w.heap.size w W)) : Tab W := h.2.out.1

theorem held_below {w W : World} {g : Nat} {x : Int} (h : W.cell? ⟨g, 0, none⟩ = some (.int .i64 x) ∧ Hid (Tab W ∧ Below w.heap.size w W)) : Below w.heap.size w W := h.2.out.2

set_option maxHeartbeats 3000000 in
theorem walk (a b : Int) (w : World) (_w0 : (Lit.int .i64 a).wf = true) (_w1 : (Lit.int .i64 b).wf = true) (hT : Tab w) :
    Calls Tryd.prog 8 #[.int .i64 a, .int .i64 b] w fun e w' => e = .returned (.bool true) ∧ Below w.heap.size w w' := by
  have HK := hid (known_any w hT)
  have HW := hid lwithin_any
  have hk : 0 ≤ a % 4 ∧ a % 4 < 4 := by omega
  have hd : 0 ≤ b % 10 ∧ b % 10 ≤ 9 := by omega
  have HA := hid (fun w => lwithin_any a 4 w (by decide) (by decide))
  have HB := hid (fun w => lwithin_any b 10 w (by decide) (by decide))
  generalize a % 4 = k at *
  generalize b % 10 = d at *
  have hok := nought_ok k d hd.1 hd.2
  have HD := hid (fun w h => digit_walk k d w h hk.1 hk.2 hd.1 hd.2)
  have HR := hid (fun w => rdigit_walk k d w hk.1 hk.2 hd.1 hd.2)
  have hl := encodeRune_length (nought k + d)
  have er := one_runes _ hok
  have et := one_text _ hok
  rw [digit_rune k d hk.1 hk.2 hd.1 hd.2] at er et
  rw [low_encode (48 + d) (by omega) (by omega)] at et
  have HF := hid (fold_at _ [48 + d] _ 1 er rfl rfl (by omega))
  have HX := hid (text_at _ _ et (by omega))
  clear er et hok
  generalize Lib.encodeRune (nought k + d) = L at *
  obtain ⟨c, hc⟩ : ∃ c : UInt8, c = (48 + d).toNat.toUInt8 := ⟨_, rfl⟩
  rw [← hc] at HX
  have hcn : (c.toNat : Int) = 48 + d := by rw [hc]; simp; omega
  clear hc
  have hcv := fun (V : World) => conv_row V #[.int .u8 (48 + d)] [c] 1 rfl (by simp [hcn])
  have HC := hid hcn
  clear hcn
  have HT := hid hT
  clear hT
  go_enter Tryd.func8, Tryd.ntmps8
  go_wp2_with fail
  refine HK.out.mono ?_
  rintro e w1 ⟨rfl, bel⟩
  have HT1 := hid (HT.out.on bel)
  have HL1 := hid bel
  clear bel
  go_wp2_with fail
  refine (HA.out _).mono ?_
  rintro e w2 ⟨rfl, rfl⟩
  go_wp2_with fail
  refine (HB.out _).mono ?_
  rintro e w2 ⟨rfl, rfl⟩
  go_wp2_with fail
  refine (HD.out _ HT1.out).mono ?_
  rintro e w2 ⟨rfl, rfl⟩
  go_wp2_with fail
  refine (HF.out _ HT1.out).mono ?_
  rintro e w3 ⟨g1, g2, c1, c2, rfl, k1, k2, H1, H2, b1, b2, bel⟩
  have x0 : w3.cell? ⟨g1, 0, none⟩ = some (.int .i64 (48 + d)) := H1.at 0 (48 + d) rfl
  have HT3 := hid (HT1.out.on bel)
  have HL3 := hid (up_trans HL1.out bel)
  have hs : g1 < w3.heap.size := lt_of_cell x0
  clear bel H1 H2
  have y0 : w3.drew.cell? ⟨g1, 0, none⟩ = some (.int .i64 (48 + d)) ∧ Hid (Tab w3.drew ∧ Below w.heap.size w w3.drew) := ⟨x0, hid ⟨HT3.out, HL3.out.drew⟩⟩
  clear x0 hs
  have e1 : IntKind.i64.wrap (48 + d) = 48 + d := by rw [IntKind.wrap_i64]; omega
  have e2 : IntKind.u8.wrap (48 + d) = 48 + d := by rw [IntKind.wrap_u8]; omega
  go_wp2_with fail
  go_region_held (fun w' => w'.cell? ⟨g1, 0, none⟩ = some (.int .i64 (48 + d)) ∧ Hid (Tab w' ∧ Below w.heap.size w w')) (first | assumption | exact held_on (by assumption) (by assumption) | exact held_on (up_alloc _ _) (by assumption)) (first | (go_at_call 20; refine (HR.out _).mono ?_; rintro e w5 ⟨rfl, b5⟩) | (go_at_call 14; refine (HX.out _ (held_tab (w := w) (g := g1) (x := 48 + d) (by assumption))).mono ?_; rintro e w6 ⟨rfl, b6⟩; try have hcw := conv_on HC.out b6))
  all_goals
    go_wp2
    go_ret
    exact ⟨rfl, held_below (g := g1) (x := 48 + d) (by assumption)⟩

theorem own : ownKnob Tryd.prog.godebug = none := by kernel_rfl

theorem table {W : World} (h : laidMetH Tryd.prog Rows.foldDigitsRow.laid W) : Tab W := by
  rw [MakeChecks.laidMetH_plain _ _ _ (by kernel_rfl)] at h
  have hn : Tryd.prog.globalNamed "interlocutor/fold.noughts" = some 0 := by kernel_rfl
  have hT := Lib.tabIs_of_head (k := .i64) (zs := [48, 1632, 1776, 2406]) hn (show (Tryd.prog.globals[0]?).map (·.type) = some 55 by kernel_rfl) Tryd.underlying55 Tryd.underlying49 (by kernel_rfl) (by kernel_rfl) h
  exact ⟨hT.cell hn 0 (by decide), hT.cell hn 1 (by decide), hT.cell hn 2 (by decide), hT.cell hn 3 (by decide)⟩

set_option maxRecDepth 100000 in
theorem lifted (os : Os) (started : os.Started) (H : Type) (enc : TypeId × Value → H) :
    ReturnsInHanded {} Tryd.checked os 8 .any (fun w args => (Rows.foldDigitsSpec.pre enc Tryd.prog Tryd.f8 Rows.foldDigitsRow.domain false w args ∧ laidMetH Tryd.prog Rows.foldDigitsRow.laid w) ∧ sizedMet enc Tryd.prog Tryd.f8 (OpenSpec.ofChange Rows.foldDigitsSpec) false w args)
      (Rows.foldDigitsSpec.post enc Tryd.prog Tryd.f8 false true false false) := by
  refine returnsInHanded_of_change_and (C := Tryd.checked) (X := fun w _ => laidMetH Tryd.prog Rows.foldDigitsRow.laid w) (fun _ _ _ hh h => h.of_heap hh) own started (by kernel_rfl) Tryd.func8
    (ChangeSpec.witness_shaped (enc := enc) (C := Tryd.checked) (os := os) (X := fun w _ => laidMetH Tryd.prog Rows.foldDigitsRow.laid w) false (World.laidAll Tryd.prog os Rows.foldDigitsRow.laid) #[.int .i64 0, .int .i64 0] 8 (World.laidAll_os _ _ _)
      (World.shaped_of_ZipB (by kernel_rfl) (by kernel_rfl)) (by kernel_rfl) (by kernel_rfl) (by kernel_rfl)
      (by rw [MakeChecks.laidMetH_plain _ _ _ (by kernel_rfl)]; exact laidMet_laidAll _ (by kernel_rfl) (by kernel_rfl))) ?_
  intro W base args ds gs before hval0 hW _ _ hL _
  have hval : ∀ (j : Nat) t v, Tryd.f8.params[j]? = some t → args[j]? = some v → Value.okWide Tryd.prog W .any base t v := hval0
  have hW' := hW
  obtain ⟨p, q, hA0, hV, rfl, hfz, hnd⟩ := hW
  have hA : DataW.TrodAll enc Tryd.prog W 0 (fun _ => true) true Tryd.f8.params.toList args.toList ds p := hA0
  rw [Tryd.params8] at hA hval
  obtain ⟨v0, vs0, d0, ds0, p0, q0, hargs, rfl, rfl, h0, r0⟩ := trodAll_cons hA
  obtain ⟨v1, vs1, d1, ds1, p1, q1, rfl, rfl, rfl, h1, r1⟩ := trodAll_cons r0
  obtain ⟨rfl, rfl, rfl⟩ := trodAll_nil r1
  obtain rfl : args = #[v0, v1] := by cases args; simp_all
  obtain ⟨rfl, rfl⟩ := trodVars_none hV
  obtain ⟨a0, rfl, rfl, rfl, w0⟩ := open_int Tryd.underlying3 (hval 0 3 v0 rfl rfl) h0
  obtain ⟨a1, rfl, rfl, rfl, w1⟩ := open_int Tryd.underlying3 (hval 1 3 v1 rfl rfl) h1
  clear hA0 hval0
  refine (walk a0 a1 W w0 w1 (table hL)).mono fun e W' ⟨he, bel⟩ => ?_
  subst he
  exact ⟨_, rfl, _, _, _, [], _, [], hW', trodAll_mk1 (shut_bool Tryd.underlying4 _), (trodAll_cons_mk (shut_int Tryd.underlying3 w0) (trodAll_cons_mk (shut_int Tryd.underlying3 w1) trodAll_mk0)), rfl, bel.frame _, fun h => by cases h⟩

theorem row_holds : Rows.FoldDigitsSaid :=
  OpenClaim.holds_of_wide 8 Tryd.f8 rfl rfl rfl rfl rfl rfl rfl ⟨rfl, rfl, rfl, rfl, rfl⟩ rfl rfl rfl rfl rfl (by kernel_rfl) Tryd.func8 (by kernel_rfl)
    (of_decide_eq_true (by kernel_rfl)) (by unfold Func.isWrapper; first | (rw [if_pos (by decide +kernel)]; kernel_rfl) | (rw [if_neg (by decide +kernel)]; exact ⟨rfl, rfl⟩))
    (fun os started H enc _ => lifted os started H enc)

theorem foldDigits_holds : Rows.FoldDigitsCardSaid :=
  Claim7.holds_tied_plain_at .later [] _ _ _ _ row_holds (fun _ h => by cases h) (by kernel_rfl) (fun _ h => by cases h) foldDigits_row_tie rfl ⟨rfl, rfl⟩ (by kernel_rfl) rfl
    (fun f fn hf hfn => by
      obtain rfl : f = 8 := Option.some.inj ((show Tryd.prog.funcNamed "interlocutor/interlocutorlaw3.FoldDigits" = some 8 by kernel_rfl).symm.trans hf) |>.symm
      obtain rfl : fn = Tryd.f8 := (Option.some.inj (Tryd.func8.symm.trans hfn)).symm
      exact ⟨by kernel_rfl, fun j t ht => by
        rw [Tryd.params8] at ht
        have hm : t ∈ [3] := by
          have := Array.mem_of_getElem? ht
          simp at this ⊢
          omega
        have hall : ([3].all fun u => !Tryd.prog.wantsStandIn u) = true := by kernel_rfl
        exact (show Tryd.prog.wantsStandIn t = false by simpa using List.all_eq_true.1 hall t hm)⟩)
    (by kernel_rfl)

end Go.Proofs.YtigolkgojckciaaDoor
