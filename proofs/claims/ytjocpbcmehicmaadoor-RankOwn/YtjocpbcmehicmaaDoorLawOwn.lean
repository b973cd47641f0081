/- RankOwn answers true of any numbers: readings that were handed in are not changed; what was told may be. The tables of the library are as listed. -/
import Derived.Test.YtjocpbcmehicmaaDoorCards
import Derived.Test.YtjocpbcmehicmaaDoorTie
import Derived.Test.YtjocpbcmehicmaaDoorMake
import Derived.Test.YtjocpbcmehicmaaDoorSame
import Derived.Test.YtjocpbcmehicmaaDoorMath3
import Derived.ProofKit
import Derived.OpenShut
import Derived.Lay
import Derived.SevenTiedAt
import Derived.Stop.Joined
import Derived.Lib.LaidTab
import Derived.Deep.Cut
import Derived.Deep.CutBlock
namespace Go.Proofs.YtjocpbcmehicmaaDoor
open Go.ChangeShapes Go.WideShapes Go.ChangeAt Go.RowKit


/-- A row of readings that may be written over. -/
def AR (w : World) (g n : Nat) (cs : Array Value) (t : TypeId) : Prop :=
  w.heap[g]? = some (.cells cs t (0, 0)) ∧ n * 3 ≤ cs.size ∧ ∀ i, i < n → ∃ fv, cs[i * 3 + 1]? = some fv ∧ (fv = .slice none 0 0 ∨ ∃ b len cap cs' t', fv = .slice (some ⟨b, 0, none⟩) len cap ∧ g < b ∧ w.heap[b]? = some (.cells cs' t' (0, 0)) ∧ len ≤ cs'.size ∧ len ≤ 1000000)
theorem AR.of {B : Nat} {w : World} {v : Value} {xs : List Rd} (h : RO B w v xs) : ∃ g cs t cap, v = .slice (some ⟨g, 0, none⟩) xs.length cap ∧ B ≤ g ∧ xs.length ≤ cap ∧ AR w g xs.length cs t := by
  obtain ⟨g, cs, t, cap, e, ⟨_, h1, _⟩, h2, h3, h4⟩ := h
  refine ⟨g, cs, t, cap, e, h2, h1, h3, ?_, fun i hi => ?_⟩
  · by_cases hn : xs.length = 0
    · omega
    · obtain ⟨_, _, _, c2, _⟩ := h4 (xs.length - 1) (by omega)
      have := (Array.getElem?_eq_some_iff.1 c2).1
      omega
  · obtain ⟨fv, _, c1, _, hn⟩ := h4 i hi
    refine ⟨fv, c1, ?_⟩
    rcases hn with ⟨_, rfl⟩ | ⟨b, cap', cs', t', rfl, ⟨hl, _, _⟩, hb, hh, hc⟩
    · exact .inl rfl
    · refine .inr ⟨b, _, cap', cs', t', rfl, by omega, hh, ?_, hl⟩
      by_cases h0 : (xs.getD i nilRd).v.f.length = 0
      · omega
      · have := (Array.getElem?_eq_some_iff.1 (hc ((xs.getD i nilRd).v.f.length - 1) (by omega))).1
        omega
theorem AR.cost {w : World} {g n i : Nat} {cs : Array Value} {t : TypeId} (h : AR w g n cs t) (v : Value) : AR (w.setCell ⟨g, i * 3 + 2, none⟩ v) g n (cs.setIfInBounds (i * 3 + 2) v) t := by
  obtain ⟨h1, h2, h3⟩ := h
  refine ⟨heap_setCell_same _ _ _ _ _ v h1, by simpa using h2, fun k hk => ?_⟩
  obtain ⟨fv, c, hf⟩ := h3 k hk
  refine ⟨fv, by rw [Array.getElem?_setIfInBounds_ne (by omega)]; exact c, ?_⟩
  rcases hf with hf | ⟨b, len, cap, cs', t', e, hb, hh, hl⟩
  · exact .inl hf
  · exact .inr ⟨b, len, cap, cs', t', e, hb, (Below.heap_setCell _ _ _ _ (by dsimp only; omega)).trans hh, hl⟩
theorem AR.num {w : World} {g n k b' : Nat} {cs : Array Value} {t : TypeId} (h : AR w g n cs t) (hb' : g < b') (v : Value) : AR (w.setCell ⟨b', k, none⟩ v) g n cs t := by
  obtain ⟨h1, h2, h3⟩ := h
  refine ⟨(Below.heap_setCell _ _ _ _ (by dsimp only; omega)).trans h1, h2, fun i hi => ?_⟩
  obtain ⟨fv, c, hf⟩ := h3 i hi
  refine ⟨fv, c, ?_⟩
  rcases hf with hf | ⟨b, len, cap, cs', t', e, hb, hh, hl, hm⟩
  · exact .inl hf
  · by_cases hbb : b = b'
    · subst hbb
      exact .inr ⟨b, len, cap, _, t', e, hb, heap_setCell_same _ _ _ _ _ v hh, by simpa using hl, hm⟩
    · exact .inr ⟨b, len, cap, cs', t', e, hb, (Below.heap_setCell _ _ _ _ (by dsimp only; exact hbb)).trans hh, hl, hm⟩

set_option maxRecDepth 8000 in
set_option maxHeartbeats 8000000 in
theorem walk (v0 : Value) (ns : List Int) (a1 a2 : Int) (W : World) (w0 : IX W v0 ns) (w1 : (Lit.int .i64 a1).wf = true) (_w2 : (Lit.int .i64 a2).wf = true) (hT : Tab W) :
    Calls Tryd.prog 8 #[v0, .int .i64 a1, .int .i64 a2] W fun e W' => e = .returned (.bool true) ∧ Below W.heap.size W W' := by
  obtain ⟨b0, b1⟩ := wf_bd w1
  obtain ⟨F, hF⟩ := mk_ex
  have HK := hid (known_any W hT)
  have HW := hid fun w => within_any a1 50 w (by decide) (by decide) b0 b1
  have hk : 0 ≤ a1 % 50 ∧ a1 % 50 < 50 := by omega
  generalize a1 % 50 = k at *
  have HM := hid fun w (hb : Below W.heap.size W w) => make_any F hF ns v0 30 (by decide) W w w0 hb
  have hshape : ∃ ad n cap, v0 = .slice ad n cap := by obtain ⟨ad, cap, e, _⟩ := w0; exact ⟨ad, _, cap, e⟩
  obtain ⟨ad, n0, cap, rfl⟩ := hshape
  clear w0 w1 hT
  go_enter Tryd.func8, Tryd.ntmps8
  go_wp2_with fail
  refine HK.out.mono ?_
  rintro e wb ⟨rfl, hb⟩
  have HB := hid hb
  clear hb
  go_wp2_with fail
  refine (HM.out wb HB.out).mono ?_
  rintro e wc ⟨u, rfl, ps, hps, hrw, hb⟩
  have HBC := hid (HB.out.trans (hb.mono HB.out.size))
  have HP := hid hrw
  have HPS := hid hps
  clear hps hrw hb
  go_wp2_with fail
  refine (HM.out wc HBC.out).mono ?_
  rintro e wd ⟨u2, rfl, qs, hqs, hrw, hb⟩
  have HBD := hid (HBC.out.trans (hb.mono HBC.out.size))
  have hl : ps.length ≤ 30 := by have := congrArg List.length HPS.out; rw [List.length_map, List.length_take] at this; omega
  have hl2 : qs.length ≤ 30 := by have := congrArg List.length hqs; rw [List.length_map, List.length_take] at this; omega
  have HR1 := hid ((HP.out.on hb).ra (by omega))
  have HR2 := hid (hrw.ra (by omega))
  rw [HPS.out] at HR1
  rw [hqs] at HR2
  generalize (ns.map F).take 30 = l at *
  clear hqs hrw hb HP HPS
  go_wp2_with fail
  refine (HW.out _).mono ?_
  rintro e we ⟨rfl, hw⟩
  obtain rfl := hw.symm
  clear hw
  have HBE := hid (best_any l u k wd HR1.out hk.1)
  go_wp2_with fail
  refine HBE.out.mono ?_
  rintro e w5 ⟨out, va, _, rfl, hro, hb⟩
  obtain ⟨g, cs, t, capa, rfl, hg, hcap, har⟩ := AR.of hro
  have HB5 := hid hb
  have HAR := hid har
  have h6 : (out.take k.toNat).length ≤ 1000000 := by obtain ⟨_, _, _, _, _, h⟩ := hro.ra.shape; exact h
  have HG := hid hg
  generalize decide (k < (out.length : Int)) = cut at *
  generalize (out.take k.toNat).length = n at *
  clear hro hb har hg HBE
  go_wp2
  go_loopw [11] (fun v wr => ∃ (i : Nat) (cs : Array Value), i ≤ n ∧ v = .int .i64 i ∧ Hid (AR wr g n cs t) ∧ Hid (Below wd.heap.size wd wr)) (fun v _ => n - (intOf v).toNat)
  case atStart => exact ⟨0, cs, by omega, rfl, HAR, HB5⟩
  case round =>
    obtain ⟨i, cs, hi, rfl, HA, HBR⟩ := hrel
    by_cases hlt : i < n
    case neg =>
      obtain rfl : i = n := by omega
      have HSA := hid (same_any l u u2 wr (HR1.out.on HBR.out) (HR2.out.on HBR.out))
      go_wp2_with fail
      refine HSA.out.mono ?_
      rintro e w9 ⟨rfl, hb⟩
      have HB9 := hid (HBD.out.trans ((HBR.out.trans (hb.mono HBR.out.size)).mono HBD.out.size))
      clear hb
      go_wp2
      go_ret
      exact ⟨rfl, HB9.out⟩
    case pos =>
      have hlt2 : (i : Int) < (n : Int) := by omega
      obtain ⟨g1, g2, g3⟩ := HA.out
      have z2 : wr.cell? ⟨g, i * 3 + 2, none⟩ = some cs[i * 3 + 2]! := by
        rw [cell_of_row g1, getElem!_pos cs (i * 3 + 2) (by omega), Array.getElem?_eq_getElem (by omega)]
      have f2 : wr.frozen? ⟨g, i * 3 + 2, none⟩ = false := frozen_of_row g1
      have HA2 := hid (HA.out.cost (i := i) (.int .i64 a2))
      have HBR2 := hid (HBR.out.setCell (p := ⟨g, i * 3 + 2, none⟩) HG.out (.int .i64 a2))
      obtain ⟨fv, cfv, hfv⟩ := HA2.out.2.2 i hlt
      generalize cs[i * 3 + 2]! = zc at *
      have HCF := hid cfv
      clear g1 g2 g3 cfv
      generalize cs.setIfInBounds (i * 3 + 2) (.int .i64 a2) = cs2 at *
      obtain ⟨adf, len, capf, rfl, hlen⟩ : ∃ adf len capf, fv = .slice adf len capf ∧ len ≤ 1000000 := by
        rcases hfv with rfl | ⟨b, len, cap, _, _, rfl, _, _, _, hm⟩
        · exact ⟨none, 0, 0, rfl, by omega⟩
        · exact ⟨_, len, cap, rfl, hm⟩
      obtain ⟨w6, hw6⟩ : ∃ w6, w6 = wr.setCell ⟨g, i * 3 + 2, none⟩ (.int .i64 a2) := ⟨_, rfl⟩
      rw [← hw6] at HA2 HBR2
      clear hfv
      go_wp2
      rw [← hw6]
      clear hw6
      go_loopw [12] (fun v wr2 => ∃ (j : Nat), j ≤ len ∧ v = .int .i64 j ∧ Hid (AR wr2 g n cs2 t) ∧ Hid (Below wd.heap.size wd wr2)) (fun v _ => len - (intOf v).toNat)
      case atStart => exact ⟨0, by omega, rfl, HA2, HBR2⟩
      case round =>
        obtain ⟨j, hj, rfl, HA3, HB3⟩ := hrel
        have c1 : wr.cell? ⟨g, i * 3 + 1, none⟩ = some (.slice adf len capf) := (cell_of_row HA3.out.1).trans HCF.out
        by_cases hjl : j < len
        case neg =>
          obtain rfl : j = len := by omega
          go_wp2
          go_round
          case rel => exact ⟨i + 1, cs2, by omega, by simp, HA3, HB3⟩
          case measure => simp [intOf]; omega
        case pos =>
          have hjl2 : (j : Int) < (len : Int) := by omega
          obtain ⟨fv', e1, e2⟩ := HA3.out.2.2 i hlt
          obtain rfl : fv' = .slice adf len capf := Option.some.inj (e1.symm.trans HCF.out)
          rcases e2 with e2 | ⟨b, len', cap', cs', t', e2, hgb, hh, hl', _⟩
          · injection e2 with _ e2 _
            omega
          · injection e2 with e3 e4 e5
            subst e3 e4 e5
            have z : wr.cell? ⟨b, j, none⟩ = some cs'[j]! := by
              rw [cell_of_row hh, getElem!_pos cs' j (by omega), Array.getElem?_eq_getElem (by omega)]
            have f : wr.frozen? ⟨b, j, none⟩ = false := frozen_of_row hh
            have HA4 := hid (HA3.out.num (k := j) hgb (.int .i64 a2))
            have HB4 := hid (HB3.out.setCell (p := ⟨b, j, none⟩) (Nat.le_trans HG.out (Nat.le_of_lt hgb)) (.int .i64 a2))
            generalize cs'[j]! = zv at *
            clear e1 hh hl'
            go_wp2
            go_round
            case rel => exact ⟨j + 1, by omega, by simp, HA4, HB4⟩
            case measure => simp [intOf]; omega

theorem own : ownKnob Tryd.prog.godebug = none := by kernel_rfl

theorem table {W : World} (h : laidMetH Tryd.prog Rows.rankOwnRow.laid W) : Tab W := by
  rw [MakeChecks.laidMetH_plain _ _ _ (by kernel_rfl)] at h
  exact tab_of_laid h

set_option maxRecDepth 100000 in
theorem lifted (os : Os) (started : os.Started) (H : Type) (enc : TypeId × Value → H) :
    ReturnsInHanded {} Tryd.checked os 8 .any (fun w args => (Rows.rankOwnSpec.pre enc Tryd.prog Tryd.f8 Rows.rankOwnRow.domain false w args ∧ laidMetH Tryd.prog Rows.rankOwnRow.laid w) ∧ sizedMet enc Tryd.prog Tryd.f8 (OpenSpec.ofChange Rows.rankOwnSpec) false w args)
      (Rows.rankOwnSpec.post enc Tryd.prog Tryd.f8 false true false false) := by
  refine returnsInHanded_of_change_and (C := Tryd.checked) (X := fun w _ => laidMetH Tryd.prog Rows.rankOwnRow.laid w) (fun _ _ _ hh h => h.of_heap hh) own started (by kernel_rfl) Tryd.func8
    (ChangeSpec.witness_shaped (enc := enc) (C := Tryd.checked) (os := os) (X := fun w _ => laidMetH Tryd.prog Rows.rankOwnRow.laid w) false (World.laidAll Tryd.prog os Rows.rankOwnRow.laid) #[.slice none 0 0, .int .i64 0, .int .i64 0] 8 (World.laidAll_os _ _ _)
      (World.shaped_of_ZipB (by kernel_rfl) (by kernel_rfl)) (by kernel_rfl) (by kernel_rfl) (by kernel_rfl)
      (by rw [MakeChecks.laidMetH_plain _ _ _ (by kernel_rfl)]; exact laidMet_laidAll _ (by kernel_rfl) (by kernel_rfl))) ?_
  intro W base args ds gs before hval0 hW _ _ hL _
  have hval : ∀ (j : Nat) t v, Tryd.f8.params[j]? = some t → args[j]? = some v → Value.okWide Tryd.prog W .any base t v := hval0
  have hW' := hW
  obtain ⟨p, q, hA0, hV, rfl, hfz, hnd⟩ := hW
  have hA : DataW.TrodAll enc Tryd.prog W 0 (fun _ => true) true Tryd.f8.params.toList args.toList ds p := hA0
  rw [Tryd.params8] at hA hval
  obtain ⟨v0, vs0, d0, ds0, p0, q0, hargs, rfl, rfl, h0, r0⟩ := trodAll_cons hA
  obtain ⟨v1, vs1, d1, ds1, p1, q1, rfl, rfl, rfl, h1, r1⟩ := trodAll_cons r0
  obtain ⟨v2, vs2, d2, ds2, p2, q2, rfl, rfl, rfl, h2, r2⟩ := trodAll_cons r1
  obtain ⟨rfl, rfl, rfl⟩ := trodAll_nil r2
  obtain rfl : args = #[v0, v1, v2] := by cases args; simp_all
  obtain ⟨rfl, rfl⟩ := trodVars_none hV
  obtain ⟨x0, w0⟩ := ints_at (hval 0 22 v0 rfl rfl) h0
  have l0 : ∀ x ∈ p0, x.block < W.heap.size := fun x hx => hW'.lt x (by simp [hx])
  obtain ⟨a1, rfl, rfl, rfl, w1⟩ := open_int Tryd.underlying3 (hval 1 3 v1 rfl rfl) h1
  obtain ⟨a2, rfl, rfl, rfl, w2⟩ := open_int Tryd.underlying3 (hval 2 3 v2 rfl rfl) h2
  clear hA0 hval0
  refine (walk v0 x0 a1 a2 W w0 w1 w2 (table hL)).mono fun e W' ⟨he, bel⟩ => ?_
  subst he
  exact ⟨_, rfl, _, _, _, _, _, [], hW', trodAll_mk1 (shut_bool Tryd.underlying4 _), (trodAll_cons_mk (Below.trod (by kernel_rfl) (by kernel_rfl) (of_decide_eq_true (by kernel_rfl)) h0 bel l0) (trodAll_cons_mk (shut_int Tryd.underlying3 w1) (trodAll_cons_mk (shut_int Tryd.underlying3 w2) trodAll_mk0))), rfl, bel.frame _, fun h => by cases h⟩

theorem row_holds : Rows.RankOwnSaid :=
  OpenClaim.holds_of_wide 8 Tryd.f8 rfl rfl rfl rfl rfl rfl rfl ⟨rfl, rfl, rfl, rfl, rfl⟩ rfl rfl rfl rfl rfl (by kernel_rfl) Tryd.func8 (by kernel_rfl)
    (of_decide_eq_true (by kernel_rfl)) (by unfold Func.isWrapper; first | (rw [if_pos (by decide +kernel)]; kernel_rfl) | (rw [if_neg (by decide +kernel)]; exact ⟨rfl, rfl⟩))
    (fun os started H enc _ => lifted os started H enc)

theorem rankOwn_holds : Rows.RankOwnCardSaid :=
  Claim7.holds_tied_plain_at .later [] _ _ _ _ row_holds (fun _ h => by cases h) (by kernel_rfl) (fun _ h => by cases h) rankOwn_row_tie rfl ⟨rfl, rfl⟩ (by kernel_rfl) rfl
    (fun f fn hf hfn => by
      obtain rfl : f = 8 := Option.some.inj ((show Tryd.prog.funcNamed "interlocutor/interlocutorlaw10.RankOwn" = some 8 by kernel_rfl).symm.trans hf) |>.symm
      obtain rfl : fn = Tryd.f8 := (Option.some.inj (Tryd.func8.symm.trans hfn)).symm
      exact ⟨by kernel_rfl, fun j t ht => by
        rw [Tryd.params8] at ht
        have hm : t ∈ [22, 3, 3] := by simpa using Array.mem_of_getElem? ht
        have hall : ([22, 3, 3].all fun u => !Tryd.prog.wantsStandIn u) = true := by kernel_rfl
        exact (show Tryd.prog.wantsStandIn t = false by simpa using List.all_eq_true.1 hall t hm)⟩)
    (by kernel_rfl)

end Go.Proofs.YtjocpbcmehicmaaDoor
