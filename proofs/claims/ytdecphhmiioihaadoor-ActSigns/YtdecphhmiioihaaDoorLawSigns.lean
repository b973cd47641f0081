/- ActSigns answers true of any three arguments: each sign has the value that the document says. The table of how many numbers a kind has, and what an action stops with, are as listed. -/
import Derived.Test.YtdecphhmiioihaaDoorCards
import Derived.Test.YtdecphhmiioihaaDoorTie
import Derived.Test.YtdecphhmiioihaaDoorTab
import Derived.ProofKit
import Derived.OpenShut
import Derived.Lay
import Derived.SevenTiedAt
import Derived.Stop.Joined
import Derived.Lib.LaidTab
namespace Go.Proofs.YtdecphhmiioihaaDoor
open Go.ChangeShapes Go.WideShapes Go.ChangeAt Go.RowKit

theorem NA.at {B : Nat} {w : World} {g : Nat} {t : TypeId} (xs : List Int) (h : w.heap[g]? = some (.cells (xs.map (fun x => Value.int .i64 x)).toArray t (0, 0))) (hB : B ≤ g) (hm : xs.length ≤ 1000) : NA B w (.slice (some ⟨g, 0, none⟩) xs.length xs.length) xs :=
  .inr ⟨g, xs.length, _, t, rfl, ⟨by omega, Nat.le_refl _, by unfold maxLen; omega⟩, hB, h, fun j hj => by simp [List.getElem?_eq_getElem hj]⟩

set_option maxRecDepth 8000 in
set_option maxHeartbeats 2000000 in
theorem rsign_any (fr to c v l : Int) (w : World) (_h0 : 0 ≤ c) (_h1 : c ≤ 60) :
    Calls Tryd.prog 26 #[.agg #[.int .i64 fr, .int .i64 to, .int .i64 c, .int .i64 v, .int .i64 l]] w fun e w' => ∃ u, e = .returned u ∧ NV w.heap.size w' u (signL c v l) ∧ Below w.heap.size w w' := by
  by_cases hc : c = 0
  case pos =>
    rw [show signL c v l = ⟨1, [v, l]⟩ from if_pos hc]
    subst hc
    obtain ⟨w2, hw2⟩ : ∃ w2, w2 = ((w.alloc (.cells #[.int .i64 fr, .int .i64 to, .int .i64 0, .int .i64 v, .int .i64 l] 44)).alloc (.cells #[.int .i64 1, .slice (some ⟨w.heap.size + 1 + 1, 0, none⟩) 2 2] 24)).alloc (.cells #[.int .i64 (v), .int .i64 (l)] 3) := ⟨_, rfl⟩
    obtain ⟨hc, hb, hsw2⟩ := chain_heap w [.cells #[.int .i64 fr, .int .i64 to, .int .i64 0, .int .i64 v, .int .i64 l] 44, .cells #[.int .i64 1, .slice (some ⟨w.heap.size + 1 + 1, 0, none⟩) 2 2] 24, .cells #[.int .i64 (v), .int .i64 (l)] 3]
    simp only [List.foldl_cons, List.foldl_nil] at hc hb hsw2
    rw [← hw2] at hc hb hsw2
    have hw2_0 := hid (show w2.heap[w.heap.size]? = some _ from hc 0 _ rfl)
    have hw2_1 := hid (hc 1 _ rfl)
    have hw2_2 := hid (hc 2 _ rfl)
    have HBw2 := hid hb
    have Hsw2 := hid (show w2.heap.size = w.heap.size + 3 from hsw2)
    clear hc hb hsw2
    have HN : Hid (NV w.heap.size w2 (.agg #[.int .i64 1, .slice (some ⟨w.heap.size + 1 + 1, 0, none⟩) 2 2]) ⟨1, [v, l]⟩) := hid ⟨_, rfl, NA.at [v, l] hw2_2.out (by omega) (by simp)⟩
    go_enter Tryd.func26, Tryd.ntmps26
    go_wp2
    rw [← hw2]
    exact bodyPost_ret (v := .agg #[.int .i64 1, .slice (some ⟨w.heap.size + 1 + 1, 0, none⟩) 2 2]) (results_cell_row rfl _ _ (w.heap.size + 1) 24 _ (0, 0) _ rfl hw2_1.out Tryd.underlying24 rfl (by kernel_rfl)) rfl ⟨_, rfl, HN.out, HBw2.out⟩
  case neg =>
    have hc2 : (c == 0) = false := by simpa using hc
    by_cases h49 : c ≤ 49
    case pos =>
      rw [show signL c v l = ⟨2, [v]⟩ from (if_neg hc).trans (if_pos h49)]
      have h50 : c < 50 := by omega
      obtain ⟨w2, hw2⟩ : ∃ w2, w2 = ((w.alloc (.cells #[.int .i64 fr, .int .i64 to, .int .i64 c, .int .i64 v, .int .i64 l] 44)).alloc (.cells #[.int .i64 2, .slice (some ⟨w.heap.size + 1 + 1, 0, none⟩) 1 1] 24)).alloc (.cells #[.int .i64 (v)] 3) := ⟨_, rfl⟩
      obtain ⟨hc, hb, hsw2⟩ := chain_heap w [.cells #[.int .i64 fr, .int .i64 to, .int .i64 c, .int .i64 v, .int .i64 l] 44, .cells #[.int .i64 2, .slice (some ⟨w.heap.size + 1 + 1, 0, none⟩) 1 1] 24, .cells #[.int .i64 (v)] 3]
      simp only [List.foldl_cons, List.foldl_nil] at hc hb hsw2
      rw [← hw2] at hc hb hsw2
      have hw2_0 := hid (show w2.heap[w.heap.size]? = some _ from hc 0 _ rfl)
      have hw2_1 := hid (hc 1 _ rfl)
      have hw2_2 := hid (hc 2 _ rfl)
      have HBw2 := hid hb
      have Hsw2 := hid (show w2.heap.size = w.heap.size + 3 from hsw2)
      clear hc hb hsw2
      have HN : Hid (NV w.heap.size w2 (.agg #[.int .i64 2, .slice (some ⟨w.heap.size + 1 + 1, 0, none⟩) 1 1]) ⟨2, [v]⟩) := hid ⟨_, rfl, NA.at [v] hw2_2.out (by omega) (by simp)⟩
      clear hc
      go_enter Tryd.func26, Tryd.ntmps26
      go_wp2
      rw [← hw2]
      exact bodyPost_ret (v := .agg #[.int .i64 2, .slice (some ⟨w.heap.size + 1 + 1, 0, none⟩) 1 1]) (results_cell_row rfl _ _ (w.heap.size + 1) 24 _ (0, 0) _ rfl hw2_1.out Tryd.underlying24 rfl (by kernel_rfl)) rfl ⟨_, rfl, HN.out, HBw2.out⟩
    case neg =>
      rw [show signL c v l = ⟨3, []⟩ from (if_neg hc).trans (if_neg h49)]
      have h50 : ¬ c < 50 := by omega
      obtain ⟨w2, hw2⟩ : ∃ w2, w2 = (w.alloc (.cells #[.int .i64 fr, .int .i64 to, .int .i64 c, .int .i64 v, .int .i64 l] 44)).alloc (.cells #[.int .i64 3, .slice none 0 0] 24) := ⟨_, rfl⟩
      obtain ⟨hc, hb, hsw2⟩ := chain_heap w [.cells #[.int .i64 fr, .int .i64 to, .int .i64 c, .int .i64 v, .int .i64 l] 44, .cells #[.int .i64 3, .slice none 0 0] 24]
      simp only [List.foldl_cons, List.foldl_nil] at hc hb hsw2
      rw [← hw2] at hc hb hsw2
      have hw2_0 := hid (show w2.heap[w.heap.size]? = some _ from hc 0 _ rfl)
      have hw2_1 := hid (hc 1 _ rfl)
      have HBw2 := hid hb
      have Hsw2 := hid (show w2.heap.size = w.heap.size + 2 from hsw2)
      clear hc hb hsw2
      have HN : Hid (NV w.heap.size w2 (.agg #[.int .i64 3, .slice none 0 0]) ⟨3, []⟩) := hid ⟨_, rfl, .inl ⟨rfl, rfl⟩⟩
      clear hc
      go_enter Tryd.func26, Tryd.ntmps26
      go_wp2
      rw [← hw2]
      exact bodyPost_ret (v := .agg #[.int .i64 3, .slice none 0 0]) (results_cell_row rfl _ _ (w.heap.size + 1) 24 _ (0, 0) _ rfl hw2_1.out Tryd.underlying24 rfl (by kernel_rfl)) rfl ⟨_, rfl, HN.out, HBw2.out⟩

set_option maxRecDepth 8000 in
set_option maxHeartbeats 4000000 in
theorem walk (class' value digits : Int) (W : World) (w0 : (Lit.int .i64 class').wf = true) (_w1 : (Lit.int .i64 value).wf = true) (w2 : (Lit.int .i64 digits).wf = true) (hX : TabsE W) : Calls Tryd.prog 6 #[.int .i64 class', .int .i64 value, .int .i64 digits] W fun e W' => e = .returned (.bool true) ∧ Below W.heap.size W W' := by
  obtain ⟨p, hT⟩ := hX
  obtain ⟨ba, ba'⟩ := wf_bd w0
  obtain ⟨bc, bc'⟩ := wf_bd w2
  have HK := hid (known_any p W hT)
  have H1 := hid fun w => lwithin_any class' 61 w (by decide) (by decide) ba ba'
  have H3 := hid fun w => lwithin_any digits 18 w (by decide) (by decide) bc bc'
  have hc : 0 ≤ class' % 61 ∧ class' % 61 ≤ 60 := by omega
  have hd : 0 ≤ digits % 18 ∧ digits % 18 ≤ 17 := by omega
  generalize class' % 61 = c at *
  generalize digits % 18 = d at *
  clear hT w0 _w1 w2 ba ba' bc bc'
  obtain ⟨hc0, hc1⟩ := hc
  obtain ⟨hd0, hd1⟩ := hd
  have HS := hid fun w => sign_any 0 1 c value (d + 1) w hc0 hc1
  have HQ := hid fun w => rsign_any 0 1 c value (d + 1) w hc0 hc1
  go_enter Tryd.func6, Tryd.ntmps6
  go_wp2_with fail
  refine HK.out.mono ?_
  rintro e w1 ⟨rfl, hb1⟩
  have HB1 := hid hb1
  clear hb1 HK
  go_wp2_with fail
  refine (H1.out _).mono ?_
  rintro e wn ⟨rfl, hw⟩
  obtain rfl := hw.symm
  clear hw
  go_wp2_with fail
  refine (H3.out _).mono ?_
  rintro e wn ⟨rfl, hw⟩
  obtain rfl := hw.symm
  clear hw
  obtain ⟨w2, hw2⟩ : ∃ w2, w2 = w1.alloc (.cells #[.int .i64 0, .int .i64 1, .int .i64 c, .int .i64 value, .int .i64 (d + 1)] 44) := ⟨_, rfl⟩
  obtain ⟨hc, hb, hsw2⟩ := chain_heap w1 [.cells #[.int .i64 0, .int .i64 1, .int .i64 c, .int .i64 value, .int .i64 (d + 1)] 44]
  simp only [List.foldl_cons, List.foldl_nil] at hc hb hsw2
  rw [← hw2] at hc hb hsw2
  have hw2_0 := hid (show w2.heap[w1.heap.size]? = some _ from hc 0 _ rfl)
  have HBw2 := hid hb
  have Hsw2 := hid (show w2.heap.size = w1.heap.size + 1 from hsw2)
  clear hc hb hsw2
  have HB2 := hid (up_trans HB1.out HBw2.out)
  clear H1 H3
  have t0 : w2.cell? ⟨w1.heap.size, 0, none⟩ = some (.int .i64 0) := by rw [cell_of_row hw2_0.out]; rfl
  have t1 : w2.cell? ⟨w1.heap.size, 1, none⟩ = some (.int .i64 1) := by rw [cell_of_row hw2_0.out]; rfl
  have t2 : w2.cell? ⟨w1.heap.size, 2, none⟩ = some (.int .i64 c) := by rw [cell_of_row hw2_0.out]; rfl
  have t3 : w2.cell? ⟨w1.heap.size, 3, none⟩ = some (.int .i64 value) := by rw [cell_of_row hw2_0.out]; rfl
  have t4 : w2.cell? ⟨w1.heap.size, 4, none⟩ = some (.int .i64 (d + 1)) := by rw [cell_of_row hw2_0.out]; rfl
  go_wp2
  rw [← hw2]
  clear hw2
  go_region_with (first
    | (go_at_call 25; refine (HS.out _).mono ?_; rintro e w3 ⟨u, rfl, hu, hb3⟩; have HB3 := hid (up_trans (Below.refl w2.heap.size w2).drew hb3); have HU := hid hu.va; have K3 := (HB3.out.block _ (Array.getElem?_eq_some_iff.1 hw2_0.out).1).trans hw2_0.out; have t0 : w3.cell? ⟨w1.heap.size, 0, none⟩ = some (.int .i64 0) := (by rw [cell_of_row K3]; rfl); have t1 : w3.cell? ⟨w1.heap.size, 1, none⟩ = some (.int .i64 1) := (by rw [cell_of_row K3]; rfl); have t2 : w3.cell? ⟨w1.heap.size, 2, none⟩ = some (.int .i64 c) := (by rw [cell_of_row K3]; rfl); have t3 : w3.cell? ⟨w1.heap.size, 3, none⟩ = some (.int .i64 value) := (by rw [cell_of_row K3]; rfl); have t4 : w3.cell? ⟨w1.heap.size, 4, none⟩ = some (.int .i64 (d + 1)) := (by rw [cell_of_row K3]; rfl); obtain ⟨fu, rfl, hfu⟩ := hu; obtain ⟨adu, capu, rfl, _⟩ := hfu.ia.shape; clear hb3 K3 hfu)
    | (go_at_call 26; refine (HQ.out _).mono ?_; rintro e w4 ⟨u2, rfl, hu2, hb4⟩; have HB4 := hid (up_trans HB3.out hb4); have HC := hid (rcmp_any (signL c value (d + 1)) (signL c value (d + 1)) _ _ w4 (HU.out.on hb4) hu2.va); obtain ⟨fu2, rfl, hfu2⟩ := hu2; obtain ⟨adu2, capu2, rfl, _⟩ := hfu2.ia.shape; clear hb4 hfu2)
    | (go_at_call 24; rw [cmpV_self] at HC; refine HC.out.mono ?_; rintro e w5 ⟨rfl, hb5⟩; have HB5 := hid (up_trans HB2.out (up_trans HB4.out hb5)); clear hb5))
  all_goals
    go_wp2
    go_ret
    exact ⟨rfl, HB5.out⟩

theorem own : ownKnob Tryd.prog.godebug = none := by kernel_rfl

theorem table {W : World} (h : laidMetH Tryd.prog Rows.actSignsRow.laid W) : TabsE W := by
  rw [MakeChecks.laidMetH_plain _ _ _ (by kernel_rfl)] at h
  exact tabs_of_laid h

set_option maxRecDepth 100000 in
theorem lifted (os : Os) (started : os.Started) (H : Type) (enc : TypeId × Value → H) :
    ReturnsInHanded {} Tryd.checked os 6 .any (fun w args => (Rows.actSignsSpec.pre enc Tryd.prog Tryd.f6 Rows.actSignsRow.domain false w args ∧ laidMetH Tryd.prog Rows.actSignsRow.laid w) ∧ sizedMet enc Tryd.prog Tryd.f6 (OpenSpec.ofChange Rows.actSignsSpec) false w args)
      (Rows.actSignsSpec.post enc Tryd.prog Tryd.f6 false true false false) := by
  refine returnsInHanded_of_change_and (C := Tryd.checked) (X := fun w _ => laidMetH Tryd.prog Rows.actSignsRow.laid w) (fun _ _ _ hh h => h.of_heap hh) own started (by kernel_rfl) Tryd.func6
    (ChangeSpec.witness_shaped (enc := enc) (C := Tryd.checked) (os := os) (X := fun w _ => laidMetH Tryd.prog Rows.actSignsRow.laid w) false (World.laidAll Tryd.prog os Rows.actSignsRow.laid) #[.int .i64 0, .int .i64 0, .int .i64 0] 8 (World.laidAll_os _ _ _)
      (World.shaped_of_ZipB (by kernel_rfl) (by kernel_rfl)) (by kernel_rfl) (by kernel_rfl) (by kernel_rfl)
      (by rw [MakeChecks.laidMetH_plain _ _ _ (by kernel_rfl)]; exact laidMet_laidAll _ (by kernel_rfl) (by kernel_rfl))) ?_
  intro W base args ds gs before hval0 hW _ _ hL _
  have hval : ∀ (j : Nat) t v, Tryd.f6.params[j]? = some t → args[j]? = some v → Value.okWide Tryd.prog W .any base t v := hval0
  have hW' := hW
  obtain ⟨p, q, hA0, hV, rfl, hfz, hnd⟩ := hW
  have hA : DataW.TrodAll enc Tryd.prog W 0 (fun _ => true) true Tryd.f6.params.toList args.toList ds p := hA0
  rw [Tryd.params6] at hA hval
  obtain ⟨v0, vs0, d0, ds0, p0, q0, hargs, rfl, rfl, h0, r0⟩ := trodAll_cons hA
  obtain ⟨v1, vs1, d1, ds1, p1, q1, rfl, rfl, rfl, h1, r1⟩ := trodAll_cons r0
  obtain ⟨v2, vs2, d2, ds2, p2, q2, rfl, rfl, rfl, h2, r2⟩ := trodAll_cons r1
  obtain ⟨rfl, rfl, rfl⟩ := trodAll_nil r2
  obtain rfl : args = #[v0, v1, v2] := by cases args; simp_all
  obtain ⟨rfl, rfl⟩ := trodVars_none hV
  obtain ⟨a0, rfl, rfl, rfl, w0⟩ := open_int Tryd.underlying3 (hval 0 3 v0 rfl rfl) h0
  obtain ⟨a1, rfl, rfl, rfl, w1⟩ := open_int Tryd.underlying3 (hval 1 3 v1 rfl rfl) h1
  obtain ⟨a2, rfl, rfl, rfl, w2⟩ := open_int Tryd.underlying3 (hval 2 3 v2 rfl rfl) h2
  clear hA0 hval0
  refine (walk a0 a1 a2 W w0 w1 w2 (table hL)).mono fun e W' ⟨he, bel⟩ => ?_
  subst he
  exact ⟨_, rfl, _, _, _, [], _, [], hW', trodAll_mk1 (shut_bool Tryd.underlying4 _), (trodAll_cons_mk (shut_int Tryd.underlying3 w0) (trodAll_cons_mk (shut_int Tryd.underlying3 w1) (trodAll_cons_mk (shut_int Tryd.underlying3 w2) trodAll_mk0))), rfl, bel.frame _, fun h => by cases h⟩

theorem row_holds : Rows.ActSignsSaid :=
  OpenClaim.holds_of_wide 6 Tryd.f6 rfl rfl rfl rfl rfl rfl rfl ⟨rfl, rfl, rfl, rfl, rfl⟩ rfl rfl rfl rfl rfl (by kernel_rfl) Tryd.func6 (by kernel_rfl)
    (of_decide_eq_true (by kernel_rfl)) (by unfold Func.isWrapper; first | (rw [if_pos (by decide +kernel)]; kernel_rfl) | (rw [if_neg (by decide +kernel)]; exact ⟨rfl, rfl⟩))
    (fun os started H enc _ => lifted os started H enc)

theorem actSigns_holds : Rows.ActSignsCardSaid :=
  Claim7.holds_tied_plain_at .later [] _ _ _ _ row_holds (fun _ h => by cases h) (by kernel_rfl) (fun _ h => by cases h) actSigns_row_tie rfl ⟨rfl, rfl⟩ (by kernel_rfl) rfl
    (fun f fn hf hfn => by
      obtain rfl : f = 6 := Option.some.inj ((show Tryd.prog.funcNamed "interlocutor/interlocutorlaw8.ActSigns" = some 6 by kernel_rfl).symm.trans hf) |>.symm
      obtain rfl : fn = Tryd.f6 := (Option.some.inj (Tryd.func6.symm.trans hfn)).symm
      exact ⟨by kernel_rfl, fun j t ht => by
        rw [Tryd.params6] at ht
        have hm : t ∈ [3, 3, 3] := by simpa using Array.mem_of_getElem? ht
        have hall : ([3, 3, 3].all fun u => !Tryd.prog.wantsStandIn u) = true := by kernel_rfl
        exact (show Tryd.prog.wantsStandIn t = false by simpa using List.all_eq_true.1 hall t hm)⟩)
    (by kernel_rfl)

end Go.Proofs.YtdecphhmiioihaaDoor
