/- FoldCases answers true of every int: sixteen pairs of signs, capitals and small letters, wide and narrow ones, digits, are made one. The table of noughts reads as the program's text lays it. -/
import Derived.Test.YtigolkgojckciabDoorCards
import Derived.Test.YtigolkgojckciabDoorTie
import Derived.Test.YtigolkgojckciabDoorBase
import Derived.Test.YtigolkgojckciabDoorExt
import Derived.ProofKit
import Derived.OpenShut
import Derived.Lay
import Derived.SevenTiedAt
import Derived.Stop.Joined
import Derived.Lib.LaidTab
namespace Go.Proofs.YtigolkgojckciabDoor
open Go.ChangeShapes Go.WideShapes Go.ChangeAt Go.RowKit

def capL : List Int := [0x41, 0xc0, 0xd8, 0xde, 0x391, 0x3a9, 0x410, 0x42f, 0x400, 0x40f, 0xff21, 0xff3a, 0xff11, 0x664, 0x6f4, 0x96a]
def lowL : List Int := [0x61, 0xe0, 0xf8, 0xfe, 0x3b1, 0x3c9, 0x430, 0x44f, 0x450, 0x45f, 0x61, 0x7a, 0x31, 0x34, 0x34, 0x34]

theorem pairs (k : Nat) (h : k < 16) : runeZ (capL.getD k 0) = lowL.getD k 0 ∧ runeZ (lowL.getD k 0) = lowL.getD k 0 ∧ 0 ≤ capL.getD k 0 ∧ capL.getD k 0 ≤ 1000000 ∧ 0 ≤ lowL.getD k 0 ∧ lowL.getD k 0 ≤ 1000000 := by
  have : ∀ k : Fin 16, runeZ (capL.getD k.1 0) = lowL.getD k.1 0 ∧ runeZ (lowL.getD k.1 0) = lowL.getD k.1 0 ∧ 0 ≤ capL.getD k.1 0 ∧ capL.getD k.1 0 ≤ 1000000 ∧ 0 ≤ lowL.getD k.1 0 ∧ lowL.getD k.1 0 ≤ 1000000 := by decide
  exact this ⟨k, h⟩

set_option maxHeartbeats 1000000 in
theorem walk (a : Int) (w : World) (_w0 : (Lit.int .i64 a).wf = true) (hT : Tab w) :
    Calls Tryd.prog 6 #[.int .i64 a] w fun e w' => e = .returned (.bool true) ∧ Below w.heap.size w w' := by
  have HK := hid (known_any w hT)
  have HW := hid (fun w => lwithin_any a 16 w (by decide) (by decide))
  obtain ⟨k, hk⟩ : ∃ k : Nat, a % 16 = (k : Int) := ⟨(a % 16).toNat, by omega⟩
  have hk16 : k < 16 := by omega
  rw [hk] at HW
  clear hk
  obtain ⟨p1, p2, p3, p4, p5, p6⟩ := pairs k hk16
  have HA := hid (rune_any (capL.getD k 0) (by omega) (by omega))
  have HB := hid (rune_any (lowL.getD k 0) (by omega) (by omega))
  rw [p1] at HA
  rw [p2] at HB
  clear p1 p2 p3 p4 p5 p6
  have HT := hid hT
  clear hT
  go_enter Tryd.func6, Tryd.ntmps6
  go_wp2_with fail
  refine HK.out.mono ?_
  rintro e w1 ⟨rfl, bel⟩
  have HT1 := hid (HT.out.on bel)
  have HL1 := hid bel
  clear bel
  go_wp2_with fail
  refine (HW.out _).mono ?_
  rintro e w2 ⟨rfl, rfl⟩
  go_wp2
  obtain ⟨W, hW⟩ : ∃ W, W = (w1.alloc (.cells #[.int .i64 65, .int .i64 192, .int .i64 216, .int .i64 222, .int .i64 913, .int .i64 937, .int .i64 1040, .int .i64 1071, .int .i64 1024, .int .i64 1039, .int .i64 65313, .int .i64 65338, .int .i64 65297, .int .i64 1636, .int .i64 1780, .int .i64 2410] 3)).alloc (.cells #[.int .i64 97, .int .i64 224, .int .i64 248, .int .i64 254, .int .i64 945, .int .i64 969, .int .i64 1072, .int .i64 1103, .int .i64 1104, .int .i64 1119, .int .i64 97, .int .i64 122, .int .i64 49, .int .i64 52, .int .i64 52, .int .i64 52] 3) := ⟨_, rfl⟩
  rw [← hW]
  have b1 : Below w1.heap.size w1 W := by rw [hW]; exact up_trans (up_alloc _ _) (up_alloc _ _)
  have c1 : W.cell? ⟨w1.heap.size, k, none⟩ = some (.int .i64 (capL.getD k 0)) := by
    have := row_holds' capL rfl (show W.heap[w1.heap.size]? = some _ by rw [hW]; exact row_old (row_new _ _)) k hk16
    rwa [Nat.zero_add] at this
  have c2 : W.cell? ⟨w1.heap.size + 1, k, none⟩ = some (.int .i64 (lowL.getD k 0)) := by
    have := row_holds' lowL rfl (show W.heap[w1.heap.size + 1]? = some _ by rw [hW]; exact row_new2 _ _ _) k hk16
    rwa [Nat.zero_add] at this
  have HT2 := hid (HT1.out.on b1)
  have HL2 := hid (up_trans HL1.out b1)
  have s1 : w1.heap.size < W.heap.size := lt_of_cell c1
  have s2 : w1.heap.size + 1 < W.heap.size := lt_of_cell c2
  clear b1 hW HT1 HL1
  generalize capL.getD k 0 = x at *
  generalize lowL.getD k 0 = y at *
  have HR : Hid (∀ v, v = x ∨ v = y → ∀ W, Tab W → Calls Tryd.prog 15 #[.int .i64 v] W fun e w' => e = .returned (.int .i64 y) ∧ Below W.heap.size W w') := by
    intro v hv W hW
    rcases hv with rfl | rfl
    · exact HA.out W hW
    · exact HB.out W hW
  clear HA HB
  have hk : (k : Int) < 16 := by omega
  refine wp_region_ext2 (by kernel_rfl) (by kernel_rfl) (fun hne hcell => ?_)
  have d1 : ∀ s : Ext W, s.out.cell? ⟨w1.heap.size, k, none⟩ = some (.int .i64 x) := fun s => (hcell s _ _ s1).trans c1
  have d2 : ∀ s : Ext W, s.out.cell? ⟨w1.heap.size + 1, k, none⟩ = some (.int .i64 y) := fun s => (hcell s _ _ s2).trans c2
  clear hcell c1 c2 s1 s2
  repeat (go_big_quiet_step ((go_at_call 15; exact (HR.out _ (by first | exact Or.inl rfl | exact Or.inr rfl) _ (HT2.out.ext _)).mono (fun e w' h => ⟨h.1, Ext.to _ h.2⟩))))
  refine wpQuiet_nil ?_
  rintro _ ⟨z, rfl⟩
  go_wp2
  go_ret
  exact ⟨rfl, up_trans HL2.out z.below⟩

theorem own : ownKnob Tryd.prog.godebug = none := by kernel_rfl

theorem table {W : World} (h : laidMetH Tryd.prog Rows.foldCasesRow.laid W) : Tab W := by
  rw [MakeChecks.laidMetH_plain _ _ _ (by kernel_rfl)] at h
  have hn : Tryd.prog.globalNamed "interlocutor/fold.noughts" = some 0 := by kernel_rfl
  have hT := Lib.tabIs_of_head (k := .i64) (zs := [48, 1632, 1776, 2406]) hn (show (Tryd.prog.globals[0]?).map (·.type) = some 46 by kernel_rfl) Tryd.underlying46 Tryd.underlying42 (by kernel_rfl) (by kernel_rfl) h
  exact ⟨hT.cell hn 0 (by decide), hT.cell hn 1 (by decide), hT.cell hn 2 (by decide), hT.cell hn 3 (by decide)⟩

set_option maxRecDepth 100000 in
theorem lifted (os : Os) (started : os.Started) (H : Type) (enc : TypeId × Value → H) :
    ReturnsInHanded {} Tryd.checked os 6 .any (fun w args => (Rows.foldCasesSpec.pre enc Tryd.prog Tryd.f6 Rows.foldCasesRow.domain false w args ∧ laidMetH Tryd.prog Rows.foldCasesRow.laid w) ∧ sizedMet enc Tryd.prog Tryd.f6 (OpenSpec.ofChange Rows.foldCasesSpec) false w args)
      (Rows.foldCasesSpec.post enc Tryd.prog Tryd.f6 false true false false) := by
  refine returnsInHanded_of_change_and (C := Tryd.checked) (X := fun w _ => laidMetH Tryd.prog Rows.foldCasesRow.laid w) (fun _ _ _ hh h => h.of_heap hh) own started (by kernel_rfl) Tryd.func6
    (ChangeSpec.witness_shaped (enc := enc) (C := Tryd.checked) (os := os) (X := fun w _ => laidMetH Tryd.prog Rows.foldCasesRow.laid w) false (World.laidAll Tryd.prog os Rows.foldCasesRow.laid) #[.int .i64 0] 8 (World.laidAll_os _ _ _)
      (World.shaped_of_ZipB (by kernel_rfl) (by kernel_rfl)) (by kernel_rfl) (by kernel_rfl) (by kernel_rfl)
      (by rw [MakeChecks.laidMetH_plain _ _ _ (by kernel_rfl)]; exact laidMet_laidAll _ (by kernel_rfl) (by kernel_rfl))) ?_
  intro W base args ds gs before hval0 hW _ _ hL _
  have hval : ∀ (j : Nat) t v, Tryd.f6.params[j]? = some t → args[j]? = some v → Value.okWide Tryd.prog W .any base t v := hval0
  have hW' := hW
  obtain ⟨p, q, hA0, hV, rfl, hfz, hnd⟩ := hW
  have hA : DataW.TrodAll enc Tryd.prog W 0 (fun _ => true) true Tryd.f6.params.toList args.toList ds p := hA0
  rw [Tryd.params6] at hA hval
  obtain ⟨v0, vs0, d0, ds0, p0, q0, hargs, rfl, rfl, h0, r0⟩ := trodAll_cons hA
  obtain ⟨rfl, rfl, rfl⟩ := trodAll_nil r0
  obtain rfl : args = #[v0] := by cases args; simp_all
  obtain ⟨rfl, rfl⟩ := trodVars_none hV
  obtain ⟨a0, rfl, rfl, rfl, w0⟩ := open_int Tryd.underlying3 (hval 0 3 v0 rfl rfl) h0
  clear hA0 hval0
  refine (walk a0 W w0 (table hL)).mono fun e W' ⟨he, bel⟩ => ?_
  subst he
  exact ⟨_, rfl, _, _, _, [], _, [], hW', trodAll_mk1 (shut_bool Tryd.underlying4 _), (trodAll_cons_mk (shut_int Tryd.underlying3 w0) trodAll_mk0), rfl, bel.frame _, fun h => by cases h⟩

theorem row_holds : Rows.FoldCasesSaid :=
  OpenClaim.holds_of_wide 6 Tryd.f6 rfl rfl rfl rfl rfl rfl rfl ⟨rfl, rfl, rfl, rfl, rfl⟩ rfl rfl rfl rfl rfl (by kernel_rfl) Tryd.func6 (by kernel_rfl)
    (of_decide_eq_true (by kernel_rfl)) (by unfold Func.isWrapper; first | (rw [if_pos (by decide +kernel)]; kernel_rfl) | (rw [if_neg (by decide +kernel)]; exact ⟨rfl, rfl⟩))
    (fun os started H enc _ => lifted os started H enc)

theorem foldCases_holds : Rows.FoldCasesCardSaid :=
  Claim7.holds_tied_plain_at .later [] _ _ _ _ row_holds (fun _ h => by cases h) (by kernel_rfl) (fun _ h => by cases h) foldCases_row_tie rfl ⟨rfl, rfl⟩ (by kernel_rfl) rfl
    (fun f fn hf hfn => by
      obtain rfl : f = 6 := Option.some.inj ((show Tryd.prog.funcNamed "interlocutor/interlocutorlaw3.FoldCases" = some 6 by kernel_rfl).symm.trans hf) |>.symm
      obtain rfl : fn = Tryd.f6 := (Option.some.inj (Tryd.func6.symm.trans hfn)).symm
      exact ⟨by kernel_rfl, fun j t ht => by
        rw [Tryd.params6] at ht
        have hm : t ∈ [3] := by
          have := Array.mem_of_getElem? ht
          simp at this ⊢
          omega
        have hall : ([3].all fun u => !Tryd.prog.wantsStandIn u) = true := by kernel_rfl
        exact (show Tryd.prog.wantsStandIn t = false by simpa using List.all_eq_true.1 hall t hm)⟩)
    (by kernel_rfl)

end Go.Proofs.YtigolkgojckciabDoor
