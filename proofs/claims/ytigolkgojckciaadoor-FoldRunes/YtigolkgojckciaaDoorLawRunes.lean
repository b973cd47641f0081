/- FoldRunes answers true of every two ints: what a sign is made alike to is what the document says, and made alike again it is the same. The table of noughts reads as the program's text lays it. -/
import Derived.Test.YtigolkgojckciaaDoorCards
import Derived.Test.YtigolkgojckciaaDoorTie
import Derived.Test.YtigolkgojckciaaDoorRef
import Derived.BigRegion
import Derived.Deep.RegionWith
import Derived.ProofKit
import Derived.OpenShut
import Derived.Lay
import Derived.SevenTiedAt
import Derived.Stop.Joined
import Derived.Lib.LaidTab
namespace Go.Proofs.YtigolkgojckciaaDoor
open Go.ChangeShapes Go.WideShapes Go.ChangeAt Go.RowKit

def nearL : List Int := [9, 65, 90, 160, 192, 215, 222, 700, 913, 930, 937, 1024, 1039, 1040, 1071, 1632, 1641, 1776, 1785, 2406, 2415, 8192, 8202, 8208, 8213, 8216, 8239, 8287, 8722, 12288, 65281, 65374, 65313, 65338]
theorem near_bd (k : Nat) (h : k < 34) : 0 ≤ nearL.getD k 0 ∧ nearL.getD k 0 ≤ 100000 := by
  have : ∀ k : Fin 34, 0 ≤ nearL.getD k.1 0 ∧ nearL.getD k.1 0 ≤ 100000 := by decide
  exact this ⟨k, h⟩

set_option maxHeartbeats 3000000 in
theorem walk (r n : Int) (w : World) (w0 : (Lit.int .i64 r).wf = true) (_w1 : (Lit.int .i64 n).wf = true) (hT : Tab w) :
    Calls Tryd.prog 4 #[.int .i64 r, .int .i64 n] w fun e w' => e = .returned (.bool true) ∧ Below w.heap.size w w' := by
  have HK := hid (known_any w hT)
  obtain ⟨r0, r1⟩ := bounds_i64 w0
  obtain ⟨k, hk⟩ : ∃ k : Nat, n % 34 = (k : Int) := ⟨(n % 34).toNat, by omega⟩
  have hk34 : k < 34 := by omega
  obtain ⟨nb0, nb1⟩ := near_bd k hk34
  have HW := hid lwithin_any
  have ab : 0 ≤ r % 69632 ∧ r % 69632 < 69632 := by omega
  have bb : 0 ≤ r % 3 ∧ r % 3 < 3 := by omega
  have cb : 0 ≤ r % 1280 ∧ r % 1280 < 1280 := by omega
  have HT := hid hT
  clear hT
  go_enter Tryd.func4, Tryd.ntmps4
  go_wp2_with fail
  refine HK.out.mono ?_
  rintro e w1 ⟨rfl, bel⟩
  have HT1 := hid (HT.out.on bel)
  have HL1 := hid bel
  clear bel
  go_wp2
  obtain ⟨W, hW⟩ : ∃ W, W = w1.alloc (.cells #[.int .i64 9, .int .i64 65, .int .i64 90, .int .i64 160, .int .i64 192, .int .i64 215, .int .i64 222, .int .i64 700, .int .i64 913, .int .i64 930, .int .i64 937, .int .i64 1024, .int .i64 1039, .int .i64 1040, .int .i64 1071, .int .i64 1632, .int .i64 1641, .int .i64 1776, .int .i64 1785, .int .i64 2406, .int .i64 2415, .int .i64 8192, .int .i64 8202, .int .i64 8208, .int .i64 8213, .int .i64 8216, .int .i64 8239, .int .i64 8287, .int .i64 8722, .int .i64 12288, .int .i64 65281, .int .i64 65374, .int .i64 65313, .int .i64 65338] 3) := ⟨_, rfl⟩
  rw [← hW]
  have b1 : Below w1.heap.size w1 W := by rw [hW]; exact up_alloc _ _
  have c1 : W.cell? ⟨w1.heap.size, k, none⟩ = some (.int .i64 (nearL.getD k 0)) := by
    have := row_holds' nearL rfl (show W.heap[w1.heap.size]? = some _ by rw [hW]; exact row_new _ _) k hk34
    rwa [Nat.zero_add] at this
  have HT2 := hid (HT1.out.on b1)
  have HL2 := hid (up_trans HL1.out b1)
  have s1 : w1.heap.size < W.heap.size := lt_of_cell c1
  clear b1 hW HT1 HL1
  generalize nearL.getD k 0 = x at *
  have hk2 : (k : Int) < 34 := by omega
  have e1 : IntKind.i64.wrap (x + r % 3) = x + r % 3 := by rw [IntKind.wrap_i64]; omega
  have e2 : IntKind.i64.wrap (x + r % 3 - 1) = x + r % 3 - 1 := by rw [IntKind.wrap_i64]; omega
  go_region_with ((go_at_call 16; refine (HW.out _ _ _ (by omega) (by omega)).mono ?_; rintro e w5 ⟨rfl, rfl⟩))
  all_goals
    go_wp2
    obtain ⟨W2, hW2⟩ : ∃ W2, W2 = (W.alloc (.cells #[.int .i64 r, .int .i64 (r % 69632), .int .i64 (x + r % 3 - 1), .int .i64 (r % 1280)] 3)).drew := ⟨_, rfl⟩
    rw [← hW2]
    have hH : Holds W2 W.heap.size 0 [r, r % 69632, x + r % 3 - 1, r % 1280] := by rw [hW2]; exact row_holds' _ rfl (row_new W _)
    have b2 : Below W.heap.size W W2 := by rw [hW2]; exact (up_alloc _ _).drew
    have hx : ∀ y ∈ [r, r % 69632, x + r % 3 - 1, r % 1280], -9223372036854775808 ≤ y ∧ y ≤ 9223372036854775807 := by
      intro y hy
      simp only [List.mem_cons, List.not_mem_nil, or_false] at hy
      omega
    have HT3 := hid (HT2.out.on b2)
    have HL3 := hid (up_trans HL2.out b2)
    have hl : [r, r % 69632, x + r % 3 - 1, r % 1280].length = 4 := rfl
    generalize [r, r % 69632, x + r % 3 - 1, r % 1280] = xs at *
    have HH := hid hH
    have HX := hid hx
    have HN := hid hl
    clear hW2 b2 hH hx hl e1 e2 c1 hk hk2 hk34 ab bb cb HT2 HL2
    go_loopw [7] (fun v wr => ∃ j : Nat, j ≤ 4 ∧ v = .int .i64 j ∧ Below W2.heap.size W2 wr) (fun v _ => 4 - (intOf v).toNat)
    case atStart => exact ⟨0, by omega, rfl, Below.refl _ _⟩
    case round =>
      obtain ⟨j, hj, rfl, hb⟩ := hrel
      by_cases hlt : j < 4
      · have hjl : j < xs.length := by rw [HN.out]; exact hlt
        obtain ⟨y, hy⟩ : ∃ y, y = xs.getD j 0 := ⟨_, rfl⟩
        have c : wr.cell? ⟨W.heap.size, j, none⟩ = some (.int .i64 y) := by
          have h3 := (HH.out.on hb) j hjl
          rwa [Nat.zero_add, ← hy] at h3
        have yb : -9223372036854775808 ≤ y ∧ y ≤ 9223372036854775807 := HX.out y (by rw [hy]; simp [List.getD, hjl])
        have HR := hid (fun W h => rune_any y yb.1 yb.2 W h)
        have HF := hid (fun W => rrune_any y yb.1 yb.2 W)
        have zb := runeZ_bd y yb.1 yb.2
        have HS := hid (fun W h => rune_any (runeZ y) zb.1 zb.2 W h)
        rw [(narrowZ_twice y).2] at HS
        have HB := hid hb
        have HT4 := hid (HT3.out.on hb)
        clear hy yb zb hb hjl
        generalize runeZ y = z at *
        go_wp2_with fail
        refine (HR.out wr HT4.out).mono ?_
        rintro e u1 ⟨rfl, d1⟩
        have c2 : u1.cell? ⟨W.heap.size, j, none⟩ = some (.int .i64 y) := (d1.cell (lt_of_cell c)).trans c
        have HT5 := hid (HT4.out.on d1)
        have HB5 := hid (up_trans HB.out d1)
        clear d1 c
        go_wp2_with fail
        refine (HF.out u1).mono ?_
        rintro e u2 ⟨rfl, rfl⟩
        go_wp2_with fail
        refine (HS.out u2 HT5.out).mono ?_
        rintro e u3 ⟨rfl, d2⟩
        have HB6 := hid (up_trans HB5.out d2)
        clear d2
        go_wp2
        go_roundw
        case rel => exact ⟨j + 1, by omega, by simp, HB6.out⟩
        case measure => simp [intOf]; omega
      · obtain rfl : j = 4 := by omega
        have HB := hid hb
        clear hb
        go_wp2
        go_ret
        exact ⟨rfl, up_trans HL3.out HB.out⟩

theorem own : ownKnob Tryd.prog.godebug = none := by kernel_rfl

theorem table {W : World} (h : laidMetH Tryd.prog Rows.foldRunesRow.laid W) : Tab W := by
  rw [MakeChecks.laidMetH_plain _ _ _ (by kernel_rfl)] at h
  have hn : Tryd.prog.globalNamed "interlocutor/fold.noughts" = some 0 := by kernel_rfl
  have hT := Lib.tabIs_of_head (k := .i64) (zs := [48, 1632, 1776, 2406]) hn (show (Tryd.prog.globals[0]?).map (·.type) = some 55 by kernel_rfl) Tryd.underlying55 Tryd.underlying49 (by kernel_rfl) (by kernel_rfl) h
  exact ⟨hT.cell hn 0 (by decide), hT.cell hn 1 (by decide), hT.cell hn 2 (by decide), hT.cell hn 3 (by decide)⟩

set_option maxRecDepth 100000 in
theorem lifted (os : Os) (started : os.Started) (H : Type) (enc : TypeId × Value → H) :
    ReturnsInHanded {} Tryd.checked os 4 .any (fun w args => (Rows.foldRunesSpec.pre enc Tryd.prog Tryd.f4 Rows.foldRunesRow.domain false w args ∧ laidMetH Tryd.prog Rows.foldRunesRow.laid w) ∧ sizedMet enc Tryd.prog Tryd.f4 (OpenSpec.ofChange Rows.foldRunesSpec) false w args)
      (Rows.foldRunesSpec.post enc Tryd.prog Tryd.f4 false true false false) := by
  refine returnsInHanded_of_change_and (C := Tryd.checked) (X := fun w _ => laidMetH Tryd.prog Rows.foldRunesRow.laid w) (fun _ _ _ hh h => h.of_heap hh) own started (by kernel_rfl) Tryd.func4
    (ChangeSpec.witness_shaped (enc := enc) (C := Tryd.checked) (os := os) (X := fun w _ => laidMetH Tryd.prog Rows.foldRunesRow.laid w) false (World.laidAll Tryd.prog os Rows.foldRunesRow.laid) #[.int .i64 0, .int .i64 0] 8 (World.laidAll_os _ _ _)
      (World.shaped_of_ZipB (by kernel_rfl) (by kernel_rfl)) (by kernel_rfl) (by kernel_rfl) (by kernel_rfl)
      (by rw [MakeChecks.laidMetH_plain _ _ _ (by kernel_rfl)]; exact laidMet_laidAll _ (by kernel_rfl) (by kernel_rfl))) ?_
  intro W base args ds gs before hval0 hW _ _ hL _
  have hval : ∀ (j : Nat) t v, Tryd.f4.params[j]? = some t → args[j]? = some v → Value.okWide Tryd.prog W .any base t v := hval0
  have hW' := hW
  obtain ⟨p, q, hA0, hV, rfl, hfz, hnd⟩ := hW
  have hA : DataW.TrodAll enc Tryd.prog W 0 (fun _ => true) true Tryd.f4.params.toList args.toList ds p := hA0
  rw [Tryd.params4] at hA hval
  obtain ⟨v0, vs0, d0, ds0, p0, q0, hargs, rfl, rfl, h0, r0⟩ := trodAll_cons hA
  obtain ⟨v1, vs1, d1, ds1, p1, q1, rfl, rfl, rfl, h1, r1⟩ := trodAll_cons r0
  obtain ⟨rfl, rfl, rfl⟩ := trodAll_nil r1
  obtain rfl : args = #[v0, v1] := by cases args; simp_all
  obtain ⟨rfl, rfl⟩ := trodVars_none hV
  obtain ⟨a0, rfl, rfl, rfl, w0⟩ := open_int Tryd.underlying3 (hval 0 3 v0 rfl rfl) h0
  obtain ⟨a1, rfl, rfl, rfl, w1⟩ := open_int Tryd.underlying3 (hval 1 3 v1 rfl rfl) h1
  clear hA0 hval0
  refine (walk a0 a1 W w0 w1 (table hL)).mono fun e W' ⟨he, bel⟩ => ?_
  subst he
  exact ⟨_, rfl, _, _, _, [], _, [], hW', trodAll_mk1 (shut_bool Tryd.underlying4 _), (trodAll_cons_mk (shut_int Tryd.underlying3 w0) (trodAll_cons_mk (shut_int Tryd.underlying3 w1) trodAll_mk0)), rfl, bel.frame _, fun h => by cases h⟩

theorem row_holds : Rows.FoldRunesSaid :=
  OpenClaim.holds_of_wide 4 Tryd.f4 rfl rfl rfl rfl rfl rfl rfl ⟨rfl, rfl, rfl, rfl, rfl⟩ rfl rfl rfl rfl rfl (by kernel_rfl) Tryd.func4 (by kernel_rfl)
    (of_decide_eq_true (by kernel_rfl)) (by unfold Func.isWrapper; first | (rw [if_pos (by decide +kernel)]; kernel_rfl) | (rw [if_neg (by decide +kernel)]; exact ⟨rfl, rfl⟩))
    (fun os started H enc _ => lifted os started H enc)

theorem foldRunes_holds : Rows.FoldRunesCardSaid :=
  Claim7.holds_tied_plain_at .later [] _ _ _ _ row_holds (fun _ h => by cases h) (by kernel_rfl) (fun _ h => by cases h) foldRunes_row_tie rfl ⟨rfl, rfl⟩ (by kernel_rfl) rfl
    (fun f fn hf hfn => by
      obtain rfl : f = 4 := Option.some.inj ((show Tryd.prog.funcNamed "interlocutor/interlocutorlaw3.FoldRunes" = some 4 by kernel_rfl).symm.trans hf) |>.symm
      obtain rfl : fn = Tryd.f4 := (Option.some.inj (Tryd.func4.symm.trans hfn)).symm
      exact ⟨by kernel_rfl, fun j t ht => by
        rw [Tryd.params4] at ht
        have hm : t ∈ [3] := by
          have := Array.mem_of_getElem? ht
          simp at this ⊢
          omega
        have hall : ([3].all fun u => !Tryd.prog.wantsStandIn u) = true := by kernel_rfl
        exact (show Tryd.prog.wantsStandIn t = false by simpa using List.all_eq_true.1 hall t hm)⟩)
    (by kernel_rfl)

end Go.Proofs.YtigolkgojckciaaDoor
