/- RankKinds answers true of any two kinds, any two rows of numbers: kinds come first, then how many fields, then the fields from the first on. The tables of the library are as listed. -/
import Derived.Test.YtjocpbcmehicmaaDoorCards
import Derived.Test.YtjocpbcmehicmaaDoorTie
import Derived.Test.YtjocpbcmehicmaaDoorArgs2
import Derived.ProofKit
import Derived.OpenShut
import Derived.Lay
import Derived.SevenTiedAt
import Derived.Stop.Joined
import Derived.Lib.LaidTab
import Derived.Deep.Cut
import Derived.Deep.CutBlock
namespace Go.Proofs.YtjocpbcmehicmaaDoor
open Go.ChangeShapes Go.WideShapes Go.ChangeAt Go.RowKit


theorem cmpV_k1 {a b : Int} (f g : List Int) (h : a < b) : cmpV ⟨a, f⟩ ⟨b, g⟩ = -1 := by
  unfold cmpV
  rw [if_neg (by dsimp only; rw [ord_lt h]; decide)]
  exact ord_lt h
theorem cmpV_k2 {a b : Int} (f g : List Int) (h : b < a) : cmpV ⟨a, f⟩ ⟨b, g⟩ = 1 := by
  unfold cmpV
  rw [if_neg (by dsimp only; rw [ord_gt h]; decide)]
  exact ord_gt h
theorem cmpV_l1 (a : Int) (f g : List Int) (h : f.length < g.length) : cmpV ⟨a, f⟩ ⟨a, g⟩ = -1 := by
  have h' : (f.length : Int) < (g.length : Int) := by omega
  unfold cmpV
  rw [if_pos (ord_self _), if_neg (by dsimp only; rw [ord_lt h']; decide)]
  exact ord_lt h'
theorem cmpV_l2 (a : Int) (f g : List Int) (h : g.length < f.length) : cmpV ⟨a, f⟩ ⟨a, g⟩ = 1 := by
  have h' : (g.length : Int) < (f.length : Int) := by omega
  unfold cmpV
  rw [if_pos (ord_self _), if_neg (by dsimp only; rw [ord_gt h']; decide)]
  exact ord_gt h'
theorem cmpV_l0 (a : Int) (f g : List Int) (h : g.length = f.length) : cmpV ⟨a, f⟩ ⟨a, g⟩ = cmpL f g := by
  unfold cmpV
  rw [if_pos (ord_self _), if_pos (by dsimp only; rw [h]; exact ord_self _)]
theorem three {x : Int} (h : x ≠ 0) (h1 : x = -1 ∨ x = 0 ∨ x = 1) : x = -1 ∨ x = 1 := by omega

set_option maxRecDepth 8000 in
set_option maxHeartbeats 8000000 in
theorem walk (a b : Int) (v2 : Value) (xs : List Int) (v3 : Value) (ys : List Int) (W : World) (w0 : (Lit.int .i64 a).wf = true) (w1 : (Lit.int .i64 b).wf = true) (w2 : IX W v2 xs) (w3 : IX W v3 ys) (hT : Tab W) :
    Calls Tryd.prog 10 #[.int .i64 a, .int .i64 b, v2, v3] W fun e W' => e = .returned (.bool true) ∧ Below W.heap.size W W' := by
  obtain ⟨ba, ba'⟩ := wf_bd w0
  obtain ⟨bb, bb'⟩ := wf_bd w1
  obtain ⟨ad, cx, rfl, l1, m1, IX1, _⟩ := ix_ib w2
  obtain ⟨ad2, cy, rfl, l2, m2, IX2, _⟩ := ix_ib w3
  have HK := hid (known_any W hT)
  have H1 := hid fun w => within_any a 12 w (by decide) (by decide) ba ba'
  have H2 := hid fun w => within_any b 12 w (by decide) (by decide) bb bb'
  have hka : 0 ≤ a % 12 ∧ a % 12 < 12 := by omega
  have hkb : 0 ≤ b % 12 ∧ b % 12 < 12 := by omega
  generalize hkx : a % 12 = kx at *
  generalize hky : b % 12 = ky at *
  have HI1 := hid IX1
  have HI2 := hid IX2
  obtain ⟨n, hn⟩ : ∃ n, n = xs.length := ⟨_, rfl⟩
  obtain ⟨m, hm⟩ : ∃ m, m = ys.length := ⟨_, rfl⟩
  have HN := hid hn
  have HM := hid hm
  have n63 : n ≤ 9223372036854775807 := by unfold maxLen at m1; omega
  have m63 : m ≤ 9223372036854775807 := by unfold maxLen at m2; omega
  rw [← hn] at l1 HI1 ⊢
  rw [← hm] at l2 HI2 ⊢
  clear w0 w1 w2 w3 hT hn hm IX1 IX2 ba ba' bb bb' hkx hky m1 m2
  go_enter Tryd.func10, Tryd.ntmps10
  go_wp2_with fail
  refine HK.out.mono ?_
  rintro e wb ⟨rfl, hb⟩
  have HB := hid hb
  clear hb
  by_cases g0 : (10 : Int) < (n : Int)
  · go_wp2
    go_ret
    exact ⟨rfl, HB.out⟩
  by_cases g1 : (10 : Int) < (m : Int)
  · go_wp2
    go_ret
    exact ⟨rfl, HB.out⟩
  have HA1 := hid ((HI1.out (by omega)).on HB.out)
  have HA2 := hid ((HI2.out (by omega)).on HB.out)
  go_wp2_with fail
  refine (H1.out _).mono ?_
  rintro e wc ⟨rfl, hw⟩
  obtain rfl := hw.symm
  clear hw
  go_wp2_with fail
  refine (H2.out _).mono ?_
  rintro e wd ⟨rfl, hw⟩
  obtain rfl := hw.symm
  clear hw
  go_wp2_with fail
  obtain ⟨w4, hw4⟩ : ∃ w4, w4 = (wb.alloc (.cells #[.int .i64 kx, .slice ad n cx] 24)).alloc (.cells #[.int .i64 ky, .slice ad2 m cy] 24) := ⟨_, rfl⟩
  have HB4 := hid (show Below wb.heap.size wb w4 by rw [hw4]; exact up_trans (up_alloc _ _) (up_alloc _ _))
  have X0 := hid (show w4.heap[wb.heap.size]? = some (.cells #[.int .i64 kx, .slice ad n cx] 24 (0, 0)) by rw [hw4, Below.heap_alloc _ _ _ (by simp)]; exact new_row _ _)
  have X1 := hid (show w4.heap[wb.heap.size + 1]? = some (.cells #[.int .i64 ky, .slice ad2 m cy] 24 (0, 0)) by rw [hw4]; exact heap_alloc2_new _ _ _)
  rw [← hw4]
  clear hw4
  have hvx : VA w4 (.agg #[.int .i64 kx, .slice ad n cx]) ⟨kx, xs⟩ := ⟨_, rfl, HA1.out.on HB4.out⟩
  have hvy : VA w4 (.agg #[.int .i64 ky, .slice ad2 m cy]) ⟨ky, ys⟩ := ⟨_, rfl, HA2.out.on HB4.out⟩
  refine (cmp_any ⟨kx, xs⟩ ⟨ky, ys⟩ _ _ w4 hvx hvy).mono ?_
  rintro e w5 ⟨rfl, hg5⟩
  obtain ⟨p0, p1⟩ := box2 X0.out hg5.below
  obtain ⟨q0, q1⟩ := box2 X1.out hg5.below
  have HB5 := hid (HB4.out.trans (hg5.below.mono HB4.out.size))
  clear hvx hvy hg5 X0 X1
  by_cases k1 : kx < ky
  · rw [cmpV_k1 xs ys k1]
    have kn : (kx != ky) = true := by simp; omega
    go_wp2
    go_ret
    exact ⟨rfl, HB.out.trans (HB5.out.mono HB.out.size)⟩
  by_cases k2 : ky < kx
  · rw [cmpV_k2 xs ys k2]
    have kn : (kx != ky) = true := by simp; omega
    have k3 : ¬ kx < ky := by omega
    go_wp2
    go_ret
    exact ⟨ret_bool (by simp; omega), HB.out.trans (HB5.out.mono HB.out.size)⟩
  obtain rfl : kx = ky := by omega
  clear k1 k2
  by_cases k1 : n < m
  · rw [cmpV_l1 kx xs ys (by rw [← HN.out, ← HM.out]; exact k1)]
    have kn : ((n : Int) != (m : Int)) = true := by simp; omega
    have k3 : (n : Int) < (m : Int) := by omega
    go_wp2
    go_ret
    exact ⟨rfl, HB.out.trans (HB5.out.mono HB.out.size)⟩
  by_cases k2 : m < n
  · rw [cmpV_l2 kx xs ys (by rw [← HN.out, ← HM.out]; exact k2)]
    have kn : ((n : Int) != (m : Int)) = true := by simp; omega
    have k3 : ¬ (n : Int) < (m : Int) := by omega
    go_wp2
    go_ret
    exact ⟨rfl, HB.out.trans (HB5.out.mono HB.out.size)⟩
  obtain rfl : n = m := by omega
  clear k1 k2
  rw [cmpV_l0 kx xs ys (by rw [← HN.out, ← HM.out])]
  obtain ⟨r, hr⟩ : ∃ r, r = cmpL xs ys := ⟨_, rfl⟩
  have HRR := hid hr
  rw [← hr]
  clear hr
  go_wp2
  go_loopw [12] (fun v wr => ∃ j : Nat, j ≤ n ∧ v = .int .i64 j ∧ Hid (cmpL (xs.drop j) (ys.drop j) = r) ∧ Hid (Below wb.heap.size wb wr)) (fun v _ => n - (intOf v).toNat)
  case atStart => exact ⟨0, by omega, rfl, hid (by simpa using HRR.out.symm), HB5⟩
  case round =>
    obtain ⟨j, hj, rfl, he, HBr⟩ := hrel
    by_cases hlt : j < n
    case neg =>
      obtain rfl : j = n := by omega
      have hr0 : r = 0 := by rw [← he.out, List.drop_eq_nil_of_le (by have := HN.out; omega), List.drop_eq_nil_of_le (by have := HM.out; omega)]; rfl
      subst hr0
      go_wp2
      go_ret
      exact ⟨rfl, HB.out.trans (HBr.out.mono HB.out.size)⟩
    case pos =>
      have hlt4 : (j : Int) < (n : Int) := by omega
      obtain ⟨b1, o1, d1, e1, _, _, _, hcs⟩ := HA1.out.has (by rw [← HN.out]; omega)
      obtain ⟨b2, o2, d2, e2, _, _, _, hcs2⟩ := HA2.out.has (by rw [← HM.out]; omega)
      injection e1 with e1a _ e1c
      injection e2 with e2a _ e2c
      subst e1a e1c e2a e2c
      have c0 := (HBr.out.cell ‹b1 < wb.heap.size›).trans (hcs j (by rw [← HN.out]; exact hlt))
      have c1 := (HBr.out.cell ‹b2 < wb.heap.size›).trans (hcs2 j (by rw [← HM.out]; exact hlt))
      clear hcs hcs2
      have HS : Hid (r = if ord (xs.getD j 0) (ys.getD j 0) = 0 then cmpL (xs.drop (j + 1)) (ys.drop (j + 1)) else ord (xs.getD j 0) (ys.getD j 0)) := hid (by rw [← he.out, getD_drop xs j (by rw [← HN.out]; exact hlt), getD_drop ys j (by rw [← HM.out]; exact hlt)]; rfl)
      generalize xs.getD j 0 = x at *
      generalize ys.getD j 0 = y at *
      by_cases hxy : x = y
      case pos =>
        subst hxy
        have HZ := hid (HS.out.trans (if_pos (ord_self x)))
        clear HS
        go_wp2_with fail
        go_quiet (fail)
        go_wp2
        go_round
        case rel => exact ⟨j + 1, by omega, by simp, hid HZ.out.symm, hid (below_drewN HBr.out _)⟩
        case measure => simp [intOf]; omega
      case neg =>
        have hne : (x != y) = true := by simpa using hxy
        by_cases hl : x < y
        · have hr1 : r = -1 := by rw [HS.out, ord_lt hl, if_neg (by decide)]
          subst hr1
          clear HS
          go_wp2_with fail
          go_quiet (fail)
          go_wp2_with fail
          go_quiet (fail)
          go_wp2
          go_ret
          exact ⟨rfl, HB.out.trans ((below_drewN (below_drewN HBr.out _) _).mono HB.out.size)⟩
        · have hr1 : r = 1 := by rw [HS.out, ord_gt (show y < x by omega), if_neg (by decide)]
          subst hr1
          clear HS
          go_wp2_with fail
          go_quiet (fail)
          go_wp2_with fail
          go_quiet (fail)
          go_wp2
          go_ret
          exact ⟨ret_bool (by simp; omega), HB.out.trans ((below_drewN (below_drewN HBr.out _) _).mono HB.out.size)⟩

theorem own : ownKnob Tryd.prog.godebug = none := by kernel_rfl

theorem table {W : World} (h : laidMetH Tryd.prog Rows.rankKindsRow.laid W) : Tab W := by
  rw [MakeChecks.laidMetH_plain _ _ _ (by kernel_rfl)] at h
  exact tab_of_laid h

set_option maxRecDepth 100000 in
theorem lifted (os : Os) (started : os.Started) (H : Type) (enc : TypeId × Value → H) :
    ReturnsInHanded {} Tryd.checked os 10 .any (fun w args => (Rows.rankKindsSpec.pre enc Tryd.prog Tryd.f10 Rows.rankKindsRow.domain false w args ∧ laidMetH Tryd.prog Rows.rankKindsRow.laid w) ∧ sizedMet enc Tryd.prog Tryd.f10 (OpenSpec.ofChange Rows.rankKindsSpec) false w args)
      (Rows.rankKindsSpec.post enc Tryd.prog Tryd.f10 false true false false) := by
  refine returnsInHanded_of_change_and (C := Tryd.checked) (X := fun w _ => laidMetH Tryd.prog Rows.rankKindsRow.laid w) (fun _ _ _ hh h => h.of_heap hh) own started (by kernel_rfl) Tryd.func10
    (ChangeSpec.witness_shaped (enc := enc) (C := Tryd.checked) (os := os) (X := fun w _ => laidMetH Tryd.prog Rows.rankKindsRow.laid w) false (World.laidAll Tryd.prog os Rows.rankKindsRow.laid) #[.int .i64 0, .int .i64 0, .slice none 0 0, .slice none 0 0] 8 (World.laidAll_os _ _ _)
      (World.shaped_of_ZipB (by kernel_rfl) (by kernel_rfl)) (by kernel_rfl) (by kernel_rfl) (by kernel_rfl)
      (by rw [MakeChecks.laidMetH_plain _ _ _ (by kernel_rfl)]; exact laidMet_laidAll _ (by kernel_rfl) (by kernel_rfl))) ?_
  intro W base args ds gs before hval0 hW _ _ hL _
  have hval : ∀ (j : Nat) t v, Tryd.f10.params[j]? = some t → args[j]? = some v → Value.okWide Tryd.prog W .any base t v := hval0
  have hW' := hW
  obtain ⟨p, q, hA0, hV, rfl, hfz, hnd⟩ := hW
  have hA : DataW.TrodAll enc Tryd.prog W 0 (fun _ => true) true Tryd.f10.params.toList args.toList ds p := hA0
  rw [Tryd.params10] at hA hval
  obtain ⟨v0, vs0, d0, ds0, p0, q0, hargs, rfl, rfl, h0, r0⟩ := trodAll_cons hA
  obtain ⟨v1, vs1, d1, ds1, p1, q1, rfl, rfl, rfl, h1, r1⟩ := trodAll_cons r0
  obtain ⟨v2, vs2, d2, ds2, p2, q2, rfl, rfl, rfl, h2, r2⟩ := trodAll_cons r1
  obtain ⟨v3, vs3, d3, ds3, p3, q3, rfl, rfl, rfl, h3, r3⟩ := trodAll_cons r2
  obtain ⟨rfl, rfl, rfl⟩ := trodAll_nil r3
  obtain rfl : args = #[v0, v1, v2, v3] := by cases args; simp_all
  obtain ⟨rfl, rfl⟩ := trodVars_none hV
  obtain ⟨a0, rfl, rfl, rfl, w0⟩ := open_int Tryd.underlying3 (hval 0 3 v0 rfl rfl) h0
  obtain ⟨a1, rfl, rfl, rfl, w1⟩ := open_int Tryd.underlying3 (hval 1 3 v1 rfl rfl) h1
  obtain ⟨x2, w2⟩ := ints_at (hval 2 22 v2 rfl rfl) h2
  have l2 : ∀ x ∈ p2, x.block < W.heap.size := fun x hx => hW'.lt x (by simp [hx])
  obtain ⟨x3, w3⟩ := ints_at (hval 3 22 v3 rfl rfl) h3
  have l3 : ∀ x ∈ p3, x.block < W.heap.size := fun x hx => hW'.lt x (by simp [hx])
  clear hA0 hval0
  refine (walk a0 a1 v2 x2 v3 x3 W w0 w1 w2 w3 (table hL)).mono fun e W' ⟨he, bel⟩ => ?_
  subst he
  exact ⟨_, rfl, _, _, _, _, _, [], hW', trodAll_mk1 (shut_bool Tryd.underlying4 _), (trodAll_cons_mk (shut_int Tryd.underlying3 w0) (trodAll_cons_mk (shut_int Tryd.underlying3 w1) (trodAll_cons_mk (Below.trod (by kernel_rfl) (by kernel_rfl) (of_decide_eq_true (by kernel_rfl)) h2 bel l2) (trodAll_cons_mk (Below.trod (by kernel_rfl) (by kernel_rfl) (of_decide_eq_true (by kernel_rfl)) h3 bel l3) trodAll_mk0)))), rfl, bel.frame _, fun h => by cases h⟩

theorem row_holds : Rows.RankKindsSaid :=
  OpenClaim.holds_of_wide 10 Tryd.f10 rfl rfl rfl rfl rfl rfl rfl ⟨rfl, rfl, rfl, rfl, rfl⟩ rfl rfl rfl rfl rfl (by kernel_rfl) Tryd.func10 (by kernel_rfl)
    (of_decide_eq_true (by kernel_rfl)) (by unfold Func.isWrapper; first | (rw [if_pos (by decide +kernel)]; kernel_rfl) | (rw [if_neg (by decide +kernel)]; exact ⟨rfl, rfl⟩))
    (fun os started H enc _ => lifted os started H enc)

theorem rankKinds_holds : Rows.RankKindsCardSaid :=
  Claim7.holds_tied_plain_at .later [] _ _ _ _ row_holds (fun _ h => by cases h) (by kernel_rfl) (fun _ h => by cases h) rankKinds_row_tie rfl ⟨rfl, rfl⟩ (by kernel_rfl) rfl
    (fun f fn hf hfn => by
      obtain rfl : f = 10 := Option.some.inj ((show Tryd.prog.funcNamed "interlocutor/interlocutorlaw10.RankKinds" = some 10 by kernel_rfl).symm.trans hf) |>.symm
      obtain rfl : fn = Tryd.f10 := (Option.some.inj (Tryd.func10.symm.trans hfn)).symm
      exact ⟨by kernel_rfl, fun j t ht => by
        rw [Tryd.params10] at ht
        have hm : t ∈ [3, 3, 22, 22] := by simpa using Array.mem_of_getElem? ht
        have hall : ([3, 3, 22, 22].all fun u => !Tryd.prog.wantsStandIn u) = true := by kernel_rfl
        exact (show Tryd.prog.wantsStandIn t = false by simpa using List.all_eq_true.1 hall t hm)⟩)
    (by kernel_rfl)

end Go.Proofs.YtjocpbcmehicmaaDoor
