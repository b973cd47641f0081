/- FoldAll answers true of any numbers, any bytes, any string: signs made alike, where they begin, what is written of them are the document's. The table of noughts reads as the program's text lays it. -/
import Derived.Test.YtigolkgojckciaaDoorCards
import Derived.Test.YtigolkgojckciaaDoorTie
import Derived.Test.YtigolkgojckciaaDoorSigns
import Derived.Test.YtigolkgojckciaaDoorRefText
import Derived.Deep.RegionHeld
import Derived.ProofKit
import Derived.OpenShut
import Derived.Lay
import Derived.SevenTiedAt
import Derived.Stop.Joined
import Derived.Lib.LaidTab
import Derived.Carry
namespace Go.Proofs.YtigolkgojckciaaDoor
open Go.ChangeShapes Go.WideShapes Go.ChangeAt Go.RowKit

theorem conv_arg {W : World} {v : Value} {raw : List Int} (h : Arg W .u8 v raw) :
    (convert 23 9 v).run Tryd.prog W = .ok (.string ⟨(raw.map fun z => z.toNat.toUInt8).toArray⟩) W := by
  obtain ⟨ad, cap, rfl, _, _, hn, hc, hw⟩ := h
  cases ad with
  | none =>
    obtain ⟨rfl, rfl⟩ := hn rfl
    kernel_rfl
  | some a =>
    have := conv_take a cap raw raw.length W (Nat.le_refl _) (fun j hj => hc a rfl j hj) hw
    rw [List.take_length] at this
    exact this

theorem str_row {w : World} {g : Nat} {t : TypeId} {fr : Nat × Nat} (s0 s1 s2 : ByteArray) (hg : w.heap[g]? = some (.cells #[.string s0, .string s1, .string s2] t fr)) (j : Nat) (hj : j < 3) : w.cell? ⟨g, j, none⟩ = some (.string ([s0, s1, s2].getD j ⟨#[]⟩)) := by
  rw [cell_of_row w g _ _ t fr hg]
  rcases (show j = 0 ∨ j = 1 ∨ j = 2 by omega) with rfl | rfl | rfl <;> rfl

set_option maxHeartbeats 1000000 in
theorem walk (v0 : Value) (ns : List Int) (v1 : Value) (raw : List Int) (other : ByteArray) (w : World) (h0 : Arg w .i64 v0 ns) (h1 : Arg w .u8 v1 raw) (hm : other.size ≤ maxLen) (hT : Tab w) :
    Calls Tryd.prog 3 #[v0, v1, .string other] w fun e w' => e = .returned (.bool true) ∧ Below w.heap.size w w' := by
  have HK := hid (known_any w hT)
  have HS := hid (fun (W : World) (hb : Below w.heap.size w W) (hr : raw.length ≤ 60) => signs_any v0 v1 ns raw W (h0.on hb) (h1.on hb) hr)
  have HV := hid (fun (W : World) (hb : Below w.heap.size w W) => conv_arg (h1.on hb))
  obtain ⟨ad0, cap0, rfl, _, _, _, _, _⟩ := h0
  obtain ⟨ad1, cap1, rfl, hl1, hm1, _, _, _⟩ := h1
  unfold maxLen at hm1 hm
  have HT := hid hT
  clear hT
  by_cases hr : raw.length ≤ 60
  · by_cases ho : other.size ≤ 200
    · have hRs : (⟨(raw.map fun z => z.toNat.toUInt8).toArray⟩ : ByteArray).size ≤ 60 := by simpa [ByteArray.size] using hr
      generalize (⟨(raw.map fun z => z.toNat.toUInt8).toArray⟩ : ByteArray) = R at *
      have hd1 : decide ((60 : Int) < (raw.length : Int)) = false := by simp; omega
      go_enter Tryd.func3, Tryd.ntmps3
      go_wp2_with fail
      refine HK.out.mono ?_
      rintro e w1 ⟨rfl, bel⟩
      have y0 : Hid (Below w.heap.size w w1.drew) := hid bel.drew
      clear bel
      have hcv : ∀ W : World, Hid (Below w.heap.size w W) → (convert 23 9 (.slice ad1 raw.length cap1)).run Tryd.prog W = .ok (.string R) W := fun W h => HV.out W h.out
      go_wp2_with fail
      go_region_held (fun w' => Hid (Below w.heap.size w w')) (first | assumption | exact hid (up_trans (Hid.out (by assumption)) (by assumption)) | exact hid (up_trans (Hid.out (by assumption)) (up_alloc _ _))) (first | (go_at_call 10; refine (HS.out _ (Hid.out (by assumption)) hr).mono ?_; rintro e w5 ⟨s, rfl, hs, b5⟩))
      have HL5 : Hid (Below w.heap.size w (w5.alloc (.cells #[.string s, .string R, .string other] 9))) := by assumption
      obtain ⟨W, hW⟩ : ∃ W, W = w5.alloc (.cells #[.string s, .string R, .string other] 9) := ⟨_, rfl⟩
      have hG : W.heap[w5.heap.size]? = some (.cells #[.string s, .string R, .string other] 9 (0, 0)) := by rw [hW]; exact row_new _ _
      rw [← hW] at HL5 ⊢
      have HG := hid hG
      have HT5 := hid (HT.out.on HL5.out)
      have hsz : ∀ j, ([s, R, other].getD j ⟨#[]⟩).size ≤ 2560 := by
        intro j
        match j with
        | 0 => exact hs
        | 1 => simp; omega
        | 2 => simp; omega
        | j + 3 => simp [ByteArray.size]
      have HZ := hid hsz
      clear hW hG hsz hcv b5
      go_wp2
      go_loopw [8] (fun v wr => ∃ j : Nat, j ≤ 3 ∧ v = .int .i64 j ∧ Below W.heap.size W wr) (fun v _ => 3 - (intOf v).toNat)
      case atStart => exact ⟨0, by omega, rfl, Below.refl _ _⟩
      case round =>
        obtain ⟨j, hj, rfl, hb⟩ := hrel
        by_cases hlt : j < 3
        · have cx : wr.cell? ⟨w5.heap.size, j, none⟩ = some (.string ([s, R, other].getD j ⟨#[]⟩)) := by
            exact str_row s R other (iter_on HG.out hb) j hlt
          have hx := HZ.out j
          generalize [s, R, other].getD j ⟨#[]⟩ = x at *
          have HT6 := hid (HT5.out.on hb)
          have HB := hid hb
          clear hb
          have hxl : x.data.toList.length = x.size := (Lib.size_eq x).symm
          have hl1 := runesOf_length x.data.toList
          have hl2 := placesOf_length x.data.toList
          have HF := hid (fun w h => fold_walk x w (by omega) h)
          have HR := hid (fun w => rfold_walk x w (by omega))
          have HI := hid (fun v1 v2 w h1 h2 => ints_any v1 v2 (runesOf x.data.toList) w (by omega) h1 h2)
          have HJ := hid (fun v1 v2 w h1 h2 => ints_any v1 v2 (placesOf x.data.toList) w (by omega) h1 h2)
          have HX := hid (fun w h => text_walk x w (by omega) h)
          have HY := hid (fun w => rtext_walk x w (by omega))
          have HPL := hid hl2
          clear hl1 hl2 hxl
          generalize textOf x.data.toList = T at *
          generalize runesOf x.data.toList = rs at *
          generalize placesOf x.data.toList = ps at *
          have hj3 : (j : Int) < 3 := by omega
          go_wp2_with fail
          refine (HF.out _ HT6.out).mono ?_
          rintro e u1 ⟨g1, g2, c1, c2, rfl, k1, k2, H1, H2, b1, b2, bel⟩
          have cy : u1.cell? ⟨w5.heap.size, j, none⟩ = some (.string x) := (bel.cell (lt_of_cell cx)).trans cx
          have HT7 := hid (HT6.out.on bel)
          have HB1 := hid (up_trans HB.out bel)
          have HR1 : Hid (RowAt u1 (.slice (some ⟨g1, 0, none⟩) rs.length c1) rs) := hid (.inr ⟨g1, 0, c1, rfl, H1⟩)
          have HP1 : Hid (RowAt u1 (.slice (some ⟨g2, 0, none⟩) (rs.length + 1) c2) ps) := hid (.inr ⟨g2, 0, c2, by rw [HPL.out], H2⟩)
          clear bel cx HT6 HB H1 H2 b1 b2
          go_wp2_with fail
          refine (HR.out _).mono ?_
          rintro e u2 ⟨v4, v5, rfl, R4, R5, bel⟩
          have cz : u2.cell? ⟨w5.heap.size, j, none⟩ = some (.string x) := (bel.cell (lt_of_cell cy)).trans cy
          have hzl : w5.heap.size < u2.heap.size := lt_of_cell cz
          have HT8 := hid (HT7.out.on bel)
          have HB2 := hid (up_trans HB1.out bel)
          have HR2 := hid (HR1.out.on bel)
          have HP2 := hid (HP1.out.on bel)
          have HII : Hid (∀ a1 a2, ((a1 = .slice (some ⟨g1, 0, none⟩) rs.length c1 ∧ a2 = v4) ∨ (a1 = .slice (some ⟨g2, 0, none⟩) (rs.length + 1) c2 ∧ a2 = v5)) → ∀ q : Ext u2, Calls Tryd.prog 13 #[a1, a2] q.out fun e w' => e = .returned (.bool true) ∧ Below q.out.heap.size q.out w') := by
            intro a1 a2 ha q
            rcases ha with ⟨rfl, rfl⟩ | ⟨rfl, rfl⟩
            · exact HI.out _ _ _ (HR2.out.on q.below) (R4.on q.below)
            · exact HJ.out _ _ _ (HP2.out.on q.below) (R5.on q.below)
          clear bel cy HT7 HB1 HR1 HP1 HR2 HP2 R4 R5 HI HJ
          go_wp2_with fail
          refine wp_region_ext2 (by kernel_rfl) (by kernel_rfl) (fun hne hcell => ?_)
          have d1 : ∀ q : Ext u2, q.out.cell? ⟨w5.heap.size, j, none⟩ = some (.string x) := fun q => (hcell q _ _ hzl).trans cz
          clear hcell cz hzl
          repeat (go_big_quiet_step (first | (go_at_call 13; exact (HII.out _ _ (by first | exact Or.inl ⟨rfl, rfl⟩ | exact Or.inr ⟨rfl, rfl⟩) _).mono (fun e w' h => ⟨h.1, Ext.to _ h.2⟩)) | (go_at_call 14; exact (HX.out _ (HT8.out.ext _)).mono (fun e w' h => ⟨h.1, Ext.to _ h.2⟩)) | (go_at_call 15; exact (HY.out _).mono (fun e w' h => ⟨h.1, Ext.to _ h.2⟩))))
          refine wpQuiet_nil ?_
          rintro _ ⟨z, rfl⟩
          go_wp2
          go_roundw
          case rel => exact ⟨j + 1, by omega, by simp, up_trans HB2.out z.below⟩
          case measure => simp [intOf]; omega
        · obtain rfl : j = 3 := by omega
          have HB := hid hb
          clear hb
          go_wp2
          go_ret
          exact ⟨rfl, up_trans HL5.out HB.out⟩
    · have hr2 : 200 < other.size := by omega
      have hd1 : decide ((60 : Int) < (raw.length : Int)) = false := by simp; omega
      have hd2 : decide ((200 : Int) < (other.size : Int)) = true := by simp; omega
      go_enter Tryd.func3, Tryd.ntmps3
      go_wp2_with fail
      refine HK.out.mono ?_
      rintro e w1 ⟨rfl, bel⟩
      have HL1 := hid bel
      clear bel
      go_wp2
      go_ret
      exact ⟨rfl, HL1.out⟩
  · have hd1 : decide ((60 : Int) < (raw.length : Int)) = true := by simp; omega
    go_enter Tryd.func3, Tryd.ntmps3
    go_wp2_with fail
    refine HK.out.mono ?_
    rintro e w1 ⟨rfl, bel⟩
    have HL1 := hid bel
    clear bel
    go_wp2
    go_ret
    exact ⟨rfl, HL1.out⟩

theorem own : ownKnob Tryd.prog.godebug = none := by kernel_rfl

theorem table {W : World} (h : laidMetH Tryd.prog Rows.foldAllRow.laid W) : Tab W := by
  rw [MakeChecks.laidMetH_plain _ _ _ (by kernel_rfl)] at h
  have hn : Tryd.prog.globalNamed "interlocutor/fold.noughts" = some 0 := by kernel_rfl
  have hT := Lib.tabIs_of_head (k := .i64) (zs := [48, 1632, 1776, 2406]) hn (show (Tryd.prog.globals[0]?).map (·.type) = some 55 by kernel_rfl) Tryd.underlying55 Tryd.underlying49 (by kernel_rfl) (by kernel_rfl) h
  exact ⟨hT.cell hn 0 (by decide), hT.cell hn 1 (by decide), hT.cell hn 2 (by decide), hT.cell hn 3 (by decide)⟩

set_option maxRecDepth 100000 in
theorem lifted (os : Os) (started : os.Started) (H : Type) (enc : TypeId × Value → H) :
    ReturnsInHanded {} Tryd.checked os 3 .any (fun w args => (Rows.foldAllSpec.pre enc Tryd.prog Tryd.f3 Rows.foldAllRow.domain false w args ∧ laidMetH Tryd.prog Rows.foldAllRow.laid w) ∧ sizedMet enc Tryd.prog Tryd.f3 (OpenSpec.ofChange Rows.foldAllSpec) false w args)
      (Rows.foldAllSpec.post enc Tryd.prog Tryd.f3 false true false false) := by
  refine returnsInHanded_of_change_and (C := Tryd.checked) (X := fun w _ => laidMetH Tryd.prog Rows.foldAllRow.laid w) (fun _ _ _ hh h => h.of_heap hh) own started (by kernel_rfl) Tryd.func3
    (ChangeSpec.witness_shaped (enc := enc) (C := Tryd.checked) (os := os) (X := fun w _ => laidMetH Tryd.prog Rows.foldAllRow.laid w) false (World.laidAll Tryd.prog os Rows.foldAllRow.laid) #[.slice none 0 0, .slice none 0 0, .string ⟨#[]⟩] 8 (World.laidAll_os _ _ _)
      (World.shaped_of_ZipB (by kernel_rfl) (by kernel_rfl)) (by kernel_rfl) (by kernel_rfl) (by kernel_rfl)
      (by rw [MakeChecks.laidMetH_plain _ _ _ (by kernel_rfl)]; exact laidMet_laidAll _ (by kernel_rfl) (by kernel_rfl))) ?_
  intro W base args ds gs before hval0 hW _ _ hL _
  have hval : ∀ (j : Nat) t v, Tryd.f3.params[j]? = some t → args[j]? = some v → Value.okWide Tryd.prog W .any base t v := hval0
  have hW' := hW
  obtain ⟨p, q, hA0, hV, rfl, hfz, hnd⟩ := hW
  have hA : DataW.TrodAll enc Tryd.prog W 0 (fun _ => true) true Tryd.f3.params.toList args.toList ds p := hA0
  rw [Tryd.params3] at hA hval
  obtain ⟨v0, vs0, d0, ds0, p0, q0, hargs, rfl, rfl, h0, r0⟩ := trodAll_cons hA
  obtain ⟨v1, vs1, d1, ds1, p1, q1, rfl, rfl, rfl, h1, r1⟩ := trodAll_cons r0
  obtain ⟨v2, vs2, d2, ds2, p2, q2, rfl, rfl, rfl, h2, r2⟩ := trodAll_cons r1
  obtain ⟨rfl, rfl, rfl⟩ := trodAll_nil r2
  obtain rfl : args = #[v0, v1, v2] := by cases args; simp_all
  obtain ⟨rfl, rfl⟩ := trodVars_none hV
  obtain ⟨x0, w0⟩ := arg_of Tryd.underlying22 Tryd.underlying3 (by kernel_rfl) (hval 0 22 v0 rfl rfl) h0
  have l0 : ∀ x ∈ p0, x.block < W.heap.size := fun x hx => hW'.lt x (by simp [hx])
  obtain ⟨x1, w1⟩ := arg_of Tryd.underlying23 Tryd.underlying5 (by kernel_rfl) (hval 1 23 v1 rfl rfl) h1
  have l1 : ∀ x ∈ p1, x.block < W.heap.size := fun x hx => hW'.lt x (by simp [hx])
  obtain ⟨a2, rfl, rfl, rfl, w2⟩ := ChangeMaps.open_string Tryd.underlying9 (hval 2 9 v2 rfl rfl) h2
  clear hA0 hval0
  refine (walk v0 x0 v1 x1 a2 W w0 w1 w2 (table hL)).mono fun e W' ⟨he, bel⟩ => ?_
  subst he
  exact ⟨_, rfl, _, _, _, _, _, [], hW', trodAll_mk1 (shut_bool Tryd.underlying4 _), (trodAll_cons_mk (Below.trod (by kernel_rfl) (by kernel_rfl) (of_decide_eq_true (by kernel_rfl)) h0 bel l0) (trodAll_cons_mk (Below.trod (by kernel_rfl) (by kernel_rfl) (of_decide_eq_true (by kernel_rfl)) h1 bel l1) (trodAll_cons_mk (ChangeMaps.shut_string Tryd.underlying9 w2) trodAll_mk0))), rfl, bel.frame _, fun h => by cases h⟩

theorem row_holds : Rows.FoldAllSaid :=
  OpenClaim.holds_of_wide 3 Tryd.f3 rfl rfl rfl rfl rfl rfl rfl ⟨rfl, rfl, rfl, rfl, rfl⟩ rfl rfl rfl rfl rfl (by kernel_rfl) Tryd.func3 (by kernel_rfl)
    (of_decide_eq_true (by kernel_rfl)) (by unfold Func.isWrapper; first | (rw [if_pos (by decide +kernel)]; kernel_rfl) | (rw [if_neg (by decide +kernel)]; exact ⟨rfl, rfl⟩))
    (fun os started H enc _ => lifted os started H enc)

theorem foldAll_holds : Rows.FoldAllCardSaid :=
  Claim7.holds_tied_plain_at .later [] _ _ _ _ row_holds (fun _ h => by cases h) (by kernel_rfl) (fun _ h => by cases h) foldAll_row_tie rfl ⟨rfl, rfl⟩ (by kernel_rfl) rfl
    (fun f fn hf hfn => by
      obtain rfl : f = 3 := Option.some.inj ((show Tryd.prog.funcNamed "interlocutor/interlocutorlaw3.FoldAll" = some 3 by kernel_rfl).symm.trans hf) |>.symm
      obtain rfl : fn = Tryd.f3 := (Option.some.inj (Tryd.func3.symm.trans hfn)).symm
      exact ⟨by kernel_rfl, fun j t ht => by
        rw [Tryd.params3] at ht
        have hm : t ∈ [22, 23, 9] := by simpa using Array.mem_of_getElem? ht
        have hall : ([22, 23, 9].all fun u => !Tryd.prog.wantsStandIn u) = true := by kernel_rfl
        exact (show Tryd.prog.wantsStandIn t = false by simpa using List.all_eq_true.1 hall t hm)⟩)
    (by kernel_rfl)

end Go.Proofs.YtigolkgojckciaaDoor
