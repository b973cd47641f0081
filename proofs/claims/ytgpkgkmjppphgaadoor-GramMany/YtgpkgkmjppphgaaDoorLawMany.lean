/- GramMany answers true of every int: sixty rules may be, one more may not. The table of places reads as the program's text lays it. -/
import Derived.Test.YtgpkgkmjppphgaaDoorCards
import Derived.Test.YtgpkgkmjppphgaaDoorTie
import Derived.Test.YtgpkgkmjppphgaaDoorTable
import Derived.Test.YtgpkgkmjppphgaaDoorGrow
import Derived.ProofKit
import Derived.OpenShut
import Derived.Lay
import Derived.SevenTiedAt
import Derived.Stop.Joined
import Derived.Lib.LaidTab
namespace Go.Proofs.YtgpkgkmjppphgaaDoor
open Go.ChangeShapes Go.WideShapes Go.ChangeAt Go.RowKit

def manyR (i : Nat) : Rule := ⟨(i : Int) % 20, [-1], 8, [0], 0⟩
def manyL (k : Nat) : List Rule := (List.range k).map manyR
theorem manyL_succ (k : Nat) : manyL (k + 1) = manyL k ++ [manyR k] := by simp [manyL, List.range_succ]
theorem manyL_length (k : Nat) : (manyL k).length = k := by simp [manyL]
theorem many_right (i : Nat) : right (manyR i) = true := by
  have h : ∀ m : Fin 20, right ⟨(m.1 : Int), [-1], 8, [0], 0⟩ = true := by decide
  have := h ⟨i % 20, Nat.mod_lt _ (by decide)⟩
  simpa [manyR] using this
theorem many_check (k : Nat) : check (manyL k) = decide (k ≤ 60) := by
  have h1 : (manyL k).all right = true := by
    rw [List.all_eq_true]
    intro r hr
    obtain ⟨i, _, rfl⟩ := List.mem_map.1 hr
    exact many_right i
  have h2 : noRound (manyL k) := fun i h => by
    obtain ⟨y, hy⟩ := h.first
    simp only [edge, List.any_eq_true, Bool.and_eq_true, List.contains_iff_mem] at hy
    obtain ⟨r, hr, _, h3⟩ := hy
    obtain ⟨i, _, rfl⟩ := List.mem_map.1 hr
    simp [manyR] at h3
  simp [check_eq, h1, h2, manyL_length]

theorem walk (a0 : Int) (W : World) (_ : (Lit.int .i64 a0).wf = true) (hT : Tab W) : Calls Tryd.prog 6 #[.int .i64 a0] W fun e W' => e = .returned (.bool true) ∧ Below W.heap.size W W' := by
  have HK := hid (known_any W hT)
  have HT := hid hT
  have HW := hid (fun w => lwithin_any a0 10 w (by decide) (by decide))
  obtain ⟨m, hm⟩ : ∃ m : Nat, a0 % 10 = (m : Int) := ⟨(a0 % 10).toNat, by omega⟩
  have hm10 : m < 10 := by omega
  rw [hm] at HW
  clear hm hT
  go_enter Tryd.func6, Tryd.ntmps6
  go_wp2_with fail
  refine HK.out.mono ?_
  rintro e w1 ⟨rfl, bel⟩
  have HL1 := hid bel
  clear bel HK
  go_wp2_with fail
  refine (HW.out w1).mono ?_
  rintro e w2 ⟨rfl, rfl⟩
  go_wp2
  go_loopw [4, 5] (fun v4 v5 wr => ∃ j : Nat, j ≤ 55 + m ∧ v5 = .int .i64 j ∧ RulesNew wr W.heap.size v4 (manyL j) ∧ Below W.heap.size W wr) (fun _ v5 _ => 55 + m - (intOf v5).toNat)
  case atStart => exact ⟨0, by omega, rfl, RulesNew.nil _ _, HL1.out⟩
  case round =>
    obtain ⟨j, hj, rfl, hR, hb⟩ := hrel
    by_cases hlt : j < 55 + m
    · have HR := hid hR
      have HB := hid hb
      have hlt2 : (j : Int) < 55 + (m : Int) := by omega
      have hsz := hb.size
      clear hR hb
      have hgi : W.heap.size ≤ (((wr.alloc (.cells #[.int .i64 (-1)] 3)).alloc (.cells #[.int .i64 0] 3)).alloc (.cells #[.int .i64 ((j : Int) % 20), .slice (some ⟨wr.heap.size, 0, none⟩) 1 1, .int .i64 8, .slice (some ⟨wr.heap.size + 1, 0, none⟩) 1 1, .int .i64 0] 26)).heap.size := by simp; omega
      have hl : (manyL j).length ≤ 1000000 := by rw [manyL_length]; omega
      have r1 := ((row_one wr (-1) _ rfl).on (up_alloc (wr.alloc (.cells #[.int .i64 (-1)] 3)) (.cells #[.int .i64 0] 3))).on (up_alloc _ (.cells #[.int .i64 ((j : Int) % 20), .slice (some ⟨wr.heap.size, 0, none⟩) 1 1, .int .i64 8, .slice (some ⟨wr.heap.size + 1, 0, none⟩) 1 1, .int .i64 0] 26))
      have r2 := (row_one (wr.alloc (.cells #[.int .i64 (-1)] 3)) 0 (wr.heap.size + 1) (by simp)).on (up_alloc _ (.cells #[.int .i64 ((j : Int) % 20), .slice (some ⟨wr.heap.size, 0, none⟩) 1 1, .int .i64 8, .slice (some ⟨wr.heap.size + 1, 0, none⟩) 1 1, .int .i64 0] 26))
      have r3 := box_new ((wr.alloc (.cells #[.int .i64 (-1)] 3)).alloc (.cells #[.int .i64 0] 3)) (.int .i64 ((j : Int) % 20)) (.slice (some ⟨wr.heap.size, 0, none⟩) 1 1) (.int .i64 8) (.slice (some ⟨wr.heap.size + 1, 0, none⟩) 1 1) (.int .i64 0) 26 (wr.heap.size + 1 + 1) (by simp)
      have r4 := (((HR.out.on (up_alloc wr (.cells #[.int .i64 (-1)] 3))).on (up_alloc _ (.cells #[.int .i64 0] 3))).on (up_alloc _ (.cells #[.int .i64 ((j : Int) % 20), .slice (some ⟨wr.heap.size, 0, none⟩) 1 1, .int .i64 8, .slice (some ⟨wr.heap.size + 1, 0, none⟩) 1 1, .int .i64 0] 26)))
      have o1 := off_new HR.out (g := wr.heap.size) (Nat.le_refl _) 0 1 1 (manyR j).rhs
      have o2 := off_new HR.out (g := wr.heap.size + 1) (by omega) 0 1 1 (manyR j).p
      have HA := hid (And.intro r1 (And.intro r2 (And.intro r3 (And.intro r4 (And.intro o1 o2)))))
      clear r1 r2 r3 r4 o1 o2
      go_wp2_with (at_builtin; refine wpList_append_rule _ rfl (.tmp 16) (.tmp 23) rfl W.heap.size _ (manyL j) rfl HA.out.2.2.2.1 (manyR j) _ _ HA.out.1 HA.out.2.1 HA.out.2.2.2.2.1 HA.out.2.2.2.2.2 (wr.heap.size + 1 + 1) rfl HA.out.2.2.1 hl hgi ?_; intro g cap w3 hR hg hloc; have HR3 := hid hR; have HB3 := hid ((((HB.out.alloc HB.out.size _).alloc (by simp; omega) _).alloc (by simp; omega) _).grown hg hgi (fun k e => (HR.out.own k e).1)); clear hR hg hloc)
      go_roundw
      case rel => exact ⟨j + 1, by omega, by simp, by rw [manyL_succ]; simpa [manyL_length] using HR3.out, HB3.out⟩
      case measure => simp [intOf]; omega
    · obtain rfl : j = 55 + m := by omega
      have HR := hid (hR.rules (by rw [manyL_length]; omega))
      have HB := hid hb
      obtain ⟨ad, cap, hv, _, _⟩ := HR.out
      clear hR hb
      rw [manyL_length] at hv
      subst hv
      by_cases h60 : 55 + m ≤ 60
      · have h61 : 55 + (m : Int) ≤ 60 := by omega
        go_wp2_with fail
        refine (check_any (manyL (55 + m)) _ wr HR.out (HT.out.on HB.out)).mono ?_
        rintro e w3 ⟨rfl, bel⟩
        rw [many_check, decide_eq_true h60]
        have HL := hid (up_trans HB.out bel)
        clear bel
        go_wp2
        go_ret
        exact ⟨rfl, HL.out⟩
      · have h61 : ¬ (55 + (m : Int) ≤ 60) := by omega
        go_wp2_with fail
        refine (check_any (manyL (55 + m)) _ wr HR.out (HT.out.on HB.out)).mono ?_
        rintro e w3 ⟨rfl, bel⟩
        rw [many_check, decide_eq_false h60]
        have HL := hid (up_trans HB.out bel)
        clear bel
        go_wp2
        go_ret
        exact ⟨ret_bool (by simp; omega), HL.out⟩

theorem own : ownKnob Tryd.prog.godebug = none := by kernel_rfl

theorem table {W : World} (h : laidMetH Tryd.prog Rows.gramManyRow.laid W) : Tab W := by
  rw [MakeChecks.laidMetH_plain _ _ _ (by kernel_rfl)] at h
  exact tab_of_laid h

set_option maxRecDepth 100000 in
theorem lifted (os : Os) (started : os.Started) (H : Type) (enc : TypeId × Value → H) :
    ReturnsInHanded {} Tryd.checked os 6 .any (fun w args => (Rows.gramManySpec.pre enc Tryd.prog Tryd.f6 Rows.gramManyRow.domain false w args ∧ laidMetH Tryd.prog Rows.gramManyRow.laid w) ∧ sizedMet enc Tryd.prog Tryd.f6 (OpenSpec.ofChange Rows.gramManySpec) false w args)
      (Rows.gramManySpec.post enc Tryd.prog Tryd.f6 false true false false) := by
  refine returnsInHanded_of_change_and (C := Tryd.checked) (X := fun w _ => laidMetH Tryd.prog Rows.gramManyRow.laid w) (fun _ _ _ hh h => h.of_heap hh) own started (by kernel_rfl) Tryd.func6
    (ChangeSpec.witness_shaped (enc := enc) (C := Tryd.checked) (os := os) (X := fun w _ => laidMetH Tryd.prog Rows.gramManyRow.laid w) false (World.laidAll Tryd.prog os Rows.gramManyRow.laid) #[.int .i64 0] 8 (World.laidAll_os _ _ _)
      (World.shaped_of_ZipB (by kernel_rfl) (by kernel_rfl)) (by kernel_rfl) (by kernel_rfl) (by kernel_rfl)
      (by rw [MakeChecks.laidMetH_plain _ _ _ (by kernel_rfl)]; exact laidMet_laidAll _ (by kernel_rfl) (by kernel_rfl))) ?_
  intro W base args ds gs before hval0 hW _ _ hL _
  have hval : ∀ (j : Nat) t v, Tryd.f6.params[j]? = some t → args[j]? = some v → Value.okWide Tryd.prog W .any base t v := hval0
  have hW' := hW
  obtain ⟨p, q, hA0, hV, rfl, hfz, hnd⟩ := hW
  have hA : DataW.TrodAll enc Tryd.prog W 0 (fun _ => true) true Tryd.f6.params.toList args.toList ds p := hA0
  rw [Tryd.params6] at hA hval
  obtain ⟨v0, vs0, d0, ds0, p0, q0, hargs, rfl, rfl, h0, r0⟩ := trodAll_cons hA
  obtain ⟨rfl, rfl, rfl⟩ := trodAll_nil r0
  obtain rfl : args = #[v0] := by cases args; simp_all
  obtain ⟨rfl, rfl⟩ := trodVars_none hV
  obtain ⟨a0, rfl, rfl, rfl, w0⟩ := open_int Tryd.underlying3 (hval 0 3 v0 rfl rfl) h0
  clear hA0 hval0
  refine (walk a0 W w0 (table hL)).mono fun e W' ⟨he, bel⟩ => ?_
  subst he
  exact ⟨_, rfl, _, _, _, [], _, [], hW', trodAll_mk1 (shut_bool Tryd.underlying4 _), (trodAll_cons_mk (shut_int Tryd.underlying3 w0) trodAll_mk0), rfl, bel.frame _, fun h => by cases h⟩

theorem row_holds : Rows.GramManySaid :=
  OpenClaim.holds_of_wide 6 Tryd.f6 rfl rfl rfl rfl rfl rfl rfl ⟨rfl, rfl, rfl, rfl, rfl⟩ rfl rfl rfl rfl rfl (by kernel_rfl) Tryd.func6 (by kernel_rfl)
    (of_decide_eq_true (by kernel_rfl)) (by unfold Func.isWrapper; first | (rw [if_pos (by decide +kernel)]; kernel_rfl) | (rw [if_neg (by decide +kernel)]; exact ⟨rfl, rfl⟩))
    (fun os started H enc _ => lifted os started H enc)

theorem gramMany_holds : Rows.GramManyCardSaid :=
  Claim7.holds_tied_plain_at .later [] _ _ _ _ row_holds (fun _ h => by cases h) (by kernel_rfl) (fun _ h => by cases h) gramMany_row_tie rfl ⟨rfl, rfl⟩ (by kernel_rfl) rfl
    (fun f fn hf hfn => by
      obtain rfl : f = 6 := Option.some.inj ((show Tryd.prog.funcNamed "interlocutor/interlocutorlaw4.GramMany" = some 6 by kernel_rfl).symm.trans hf) |>.symm
      obtain rfl : fn = Tryd.f6 := (Option.some.inj (Tryd.func6.symm.trans hfn)).symm
      exact ⟨by kernel_rfl, fun j t ht => by
        rw [Tryd.params6] at ht
        have hm : t ∈ [3] := by simpa using Array.mem_of_getElem? ht
        have hall : ([3].all fun u => !Tryd.prog.wantsStandIn u) = true := by kernel_rfl
        exact (show Tryd.prog.wantsStandIn t = false by simpa using List.all_eq_true.1 hall t hm)⟩)
    (by kernel_rfl)

end Go.Proofs.YtgpkgkmjppphgaaDoor
