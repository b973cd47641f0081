/- What each action makes, going on: the next weekday, days from the reference. -/
import Derived.Test.YtengcdodoblabaaGreatDoorWaysC
namespace Go.Proofs.YtengcdodoblabaaGreatDoor
open Go.RowKit
section
variable {p : Value} {W0 : World} {g : Nat} {op : Int} {r : Mom}

def nextO (r : Mom) (a : Val) : Option Val := (wordC a).bind fun k => if inB k 0 6 = true then onO r 0 ((k - (Ci.Civ.num r.y r.m r.d + 3) % 7 + 7 - 1) % 7 + 1) else none
def relO (r : Mom) (a b c : Val) : Option Val := (cntC a).bind fun n => (wordC b).bind fun u => (wordC c).bind fun s =>
  if inB n (-1000000) 1000000 = true then if s = -1 ∨ s = 1 then if u = 1 then onO r 0 (n * s) else if u = 2 then onO r 0 (7 * (n * s)) else if u = 3 then onO r (n * s) 0 else if u = 4 then onO r (12 * (n * s)) 0 else none else none else none

set_option maxRecDepth 8000 in
set_option maxHeartbeats 2000000 in
theorem nextw_any (a : Val) (w : World) (h : DD p W0 g op r [a] w) (hr : RR r) :
    Calls Tryz.prog 43 #[.pointer (some ⟨g, 0, none⟩)] w (Ret p W0 g op r w (NV w.heap.size) ((nextO r a).map (fun z => (z, [])))) := by
  have A0 := hid (At.start h)
  have H1 := hid (wrd_any a [] _ A0.out.dd)
  generalize hoo : (nextO r a).map (fun z => (z, ([] : List Val))) = oo
  have HE : Hid (oo = _) := hid hoo.symm
  unfold nextO at HE
  clear h hoo
  go_enter Tryz.func43, Tryz.ntmps43
  go_wp2_with fail
  refine H1.out.mono ?_
  intro e w1 hr
  cases h1 : wordC a with
  | none =>
    obtain rfl := hr.of_none (by rw [h1]; rfl)
    have A1 := hid (A0.out.no (V := NV w.heap.size) hr.grown (HE.out.trans (by rw [h1]; rfl)))
    clear hr H1 h1 HE A0
    go_wp2
    exact ⟨rfl, A1.out⟩
  | some x1 =>
    obtain ⟨v1, rfl, hv, hd⟩ := hr.of_some (by rw [h1]; rfl)
    unfold IntV at hv; subst hv
    have A1 := hid (A0.out.step hr.grown hd)
    have K1 := hid h1
    clear hr hd H1 h1 A0
    have HE := hid (HE.out.trans (by rw [K1.out]; rfl : _ = Option.map (fun z => (z, ([] : List Val))) (if inB x1 0 6 = true then onO r 0 ((x1 - (Ci.Civ.num r.y r.m r.d + 3) % 7 + 7 - 1) % 7 + 1) else none)))
    clear K1
    have HA := hid (within_any x1 0 6)
    have HR : Hid (∀ w, Calls Tryz.prog 69 #[.agg #[.int .i64 r.y, .int .i64 r.m, .int .i64 r.d, .int .i64 r.h, .int .i64 r.i, .int .i64 r.s]] w fun e w' => e = .returned (.bool true) ∧ Below w.heap.size w w') := hid fun w => by have := Ci.right_any r.y r.m r.d r.h r.i r.s w; rwa [show Ci.rtB r.y r.m r.d r.h r.i r.s = true from hr] at this
    obtain ⟨hv, y0, y1⟩ := hr.bd
    have HW := hid fun w => Ci.wday_in r.y r.m r.d w hv (by omega) (by omega)
    have hwd : 0 ≤ (Ci.Civ.num r.y r.m r.d + 3) % 7 ∧ (Ci.Civ.num r.y r.m r.d + 3) % 7 ≤ 6 := by omega
    generalize (Ci.Civ.num r.y r.m r.d + 3) % 7 = wd at *
    clear hv y0 y1
    obtain ⟨_, d3, d4, d5, d6, d7, d8⟩ := A1.out.dd.cells
    cases hi : inB x1 0 6 with
    | false =>
      rw [hi] at HA HE
      clear hi
      go_wp2_with fail
      refine (HA.out _).mono ?_
      rintro e wn ⟨rfl, hw⟩
      obtain rfl := hw.symm
      clear hw
      go_wp2_with fail
      refine (need_no' p _ A1.out.dd.tabs (by first | rfl | (simp only [decide_eq_false_iff_not]; omega))).mono ?_
      rintro e wn ⟨rfl, hw⟩
      obtain rfl := hw.symm
      go_wp2
      exact ⟨rfl, A1.out.no (World.grownBy.refl _ _) HE.out⟩
    | true =>
      rw [hi] at HA HE
      obtain ⟨q1, q2⟩ := inB_iff.1 hi
      clear hi
      go_wp2_with fail
      refine (HA.out _).mono ?_
      rintro e wn ⟨rfl, hw⟩
      obtain rfl := hw.symm
      clear hw
      go_wp2_with fail
      refine (HR.out _).mono ?_
      rintro e w2 ⟨rfl, hb⟩
      have A2 := hid (A1.out.up hb)
      obtain ⟨_, d3, d4, d5, d6, d7, d8⟩ := A2.out.dd.cells
      have hgl := A2.out.dd.lt
      clear hb
      go_wp2_with fail
      refine (need_yes' _ (by first | rfl | (simp only [decide_eq_true_eq]; omega))).mono ?_
      rintro e wn ⟨rfl, hw⟩
      obtain rfl := hw.symm
      clear hw
      have hd0 : 0 ≤ x1 - wd + 7 - 1 := by omega
      have htm : (x1 - wd + 7 - 1).tmod 7 = (x1 - wd + 7 - 1) % 7 := Int.tmod_eq_emod_of_nonneg hd0
      have hws1 : IntKind.i64.wrap (x1 - wd) = x1 - wd := by rw [IntKind.wrap_i64]; omega
      have hws2 : IntKind.i64.wrap (x1 - wd + 7) = x1 - wd + 7 := by rw [IntKind.wrap_i64]; omega
      have hws3 : IntKind.i64.wrap (x1 - wd + 7 - 1) = x1 - wd + 7 - 1 := by rw [IntKind.wrap_i64]; omega
      have hws4 : IntKind.i64.wrap ((x1 - wd + 7 - 1) % 7 + 1) = (x1 - wd + 7 - 1) % 7 + 1 := by rw [IntKind.wrap_i64]; omega
      go_wp2
      refine Ci.wp_region_ext2 (by kernel_rfl) (by kernel_rfl) (fun hne hcell => ?_)
      repeat (go_big_quiet_step ((go_at_call 83; exact (HW.out _).mono (fun e w' h => ⟨h.1, Ci.Ext.to _ h.2⟩))))
      refine wpQuiet_nil ?_
      rintro _ ⟨s, rfl⟩
      have A3 := hid (A2.out.up s.below)
      clear hne hcell
      generalize s.out = w3 at *
      have HOn := hid (on_any 0 ((x1 - wd + 7 - 1) % 7 + 1) [] w3 A3.out.dd hr)
      go_wp2_with fail
      refine HOn.out.mono ?_
      intro e wx hx
      cases ho : onO r 0 ((x1 - wd + 7 - 1) % 7 + 1) with
      | none =>
        obtain rfl := hx.of_none (by rw [ho]; rfl)
        have AX := hid (A3.out.no (V := NV w.heap.size) hx.grown (HE.out.trans (by rw [ho]; rfl)))
        clear hx HOn ho HE A3
        go_wp2
        exact ⟨rfl, AX.out⟩
      | some y =>
        obtain ⟨v, rfl, hv, hd⟩ := hx.of_some (by rw [ho]; rfl)
        have AV := hid (A3.out.step hx.grown hd)
        obtain ⟨k, f⟩ := y
        have HV := hid (hv.low A3.out.size)
        obtain ⟨fv, rfl, hf⟩ := hv
        obtain ⟨ad, cap, rfl, _⟩ := hf.ia.shape
        have Y := hid (AV.out.yes HV.out (HE.out.trans (by rw [ho]; rfl)))
        have c0 := AV.out.c0
        have c1 := AV.out.c1
        have f0 := AV.out.fz 0
        have f1 := AV.out.fz 1
        clear hx HOn ho HE hd hf HV AV A3
        dsimp only at *
        generalize f.length = nf at *
        go_wp2
        refine bodyPost_ret (v := .agg #[.int .i64 k, .slice ad nf cap]) (results_cell_row rfl _ _ w.heap.size 27 _ (0, 0) _ rfl Y.out.1 Tryz.underlying27 rfl (by kernel_rfl)) rfl Y.out.2

set_option maxRecDepth 8000 in
set_option maxHeartbeats 2000000 in
theorem rel_any (a b c : Val) (w : World) (h : DD p W0 g op r [a, b, c] w) (hr : RR r) :
    Calls Tryz.prog 42 #[.pointer (some ⟨g, 0, none⟩)] w (Ret p W0 g op r w (NV w.heap.size) ((relO r a b c).map (fun z => (z, [])))) := by
  have A0 := hid (At.start h)
  have H1 := hid (cnt_any a [b, c] _ A0.out.dd)
  generalize hoo : (relO r a b c).map (fun z => (z, ([] : List Val))) = oo
  have HE : Hid (oo = _) := hid hoo.symm
  unfold relO at HE
  clear h hoo
  go_enter Tryz.func42, Tryz.ntmps42
  go_wp2_with fail
  refine H1.out.mono ?_
  intro e w1 hr
  cases h1 : cntC a with
  | none =>
    obtain rfl := hr.of_none (by rw [h1]; rfl)
    have A1 := hid (A0.out.no (V := NV w.heap.size) hr.grown (HE.out.trans (by rw [h1]; rfl)))
    clear hr H1 h1 HE A0
    go_wp2
    exact ⟨rfl, A1.out⟩
  | some x1 =>
    obtain ⟨v1, rfl, hv, hd⟩ := hr.of_some (by rw [h1]; rfl)
    unfold IntV at hv; subst hv
    have A1 := hid (A0.out.step hr.grown hd)
    have K1 := hid h1
    clear hr hd H1 h1 A0
    have H2 := hid (wrd_any b [c] _ A1.out.dd)
    go_wp2_with fail
    refine H2.out.mono ?_
    intro e w2 hr
    cases h2 : wordC b with
    | none =>
      obtain rfl := hr.of_none (by rw [h2]; rfl)
      have A2 := hid (A1.out.no (V := NV w.heap.size) hr.grown (HE.out.trans (by rw [K1.out, h2]; rfl)))
      clear hr H2 h2 HE A1
      go_wp2
      exact ⟨rfl, A2.out⟩
    | some x2 =>
      obtain ⟨v2, rfl, hv, hd⟩ := hr.of_some (by rw [h2]; rfl)
      unfold IntV at hv; subst hv
      have A2 := hid (A1.out.step hr.grown hd)
      have K2 := hid h2
      clear hr hd H2 h2 A1
      have H3 := hid (wrd_any c [] _ A2.out.dd)
      go_wp2_with fail
      refine H3.out.mono ?_
      intro e w3 hr
      cases h3 : wordC c with
      | none =>
        obtain rfl := hr.of_none (by rw [h3]; rfl)
        have A3 := hid (A2.out.no (V := NV w.heap.size) hr.grown (HE.out.trans (by rw [K1.out, K2.out, h3]; rfl)))
        clear hr H3 h3 HE A2
        go_wp2
        exact ⟨rfl, A3.out⟩
      | some x3 =>
        obtain ⟨v3, rfl, hv, hd⟩ := hr.of_some (by rw [h3]; rfl)
        unfold IntV at hv; subst hv
        have A3 := hid (A2.out.step hr.grown hd)
        have K3 := hid h3
        clear hr hd H3 h3 A2
        have HE := hid (HE.out.trans (by rw [K1.out, K2.out, K3.out]; rfl : _ = Option.map (fun z => (z, ([] : List Val))) (if inB x1 (-1000000) 1000000 = true then if x3 = -1 ∨ x3 = 1 then if x2 = 1 then onO r 0 (x1 * x3) else if x2 = 2 then onO r 0 (7 * (x1 * x3)) else if x2 = 3 then onO r (x1 * x3) 0 else if x2 = 4 then onO r (12 * (x1 * x3)) 0 else none else none else none)))
        clear K1 K2 K3
        have HA := hid (within_any x1 (-1000000) 1000000)
        cases hi : inB x1 (-1000000) 1000000 with
        | false =>
          rw [hi] at HA HE
          clear hi
          go_wp2_with fail
          refine (HA.out _).mono ?_
          rintro e wn ⟨rfl, hw⟩
          obtain rfl := hw.symm
          clear hw
          go_wp2_with fail
          refine (need_no' p _ A3.out.dd.tabs (by first | rfl | (simp only [decide_eq_false_iff_not]; omega))).mono ?_
          rintro e wn ⟨rfl, hw⟩
          obtain rfl := hw.symm
          go_wp2
          exact ⟨rfl, A3.out.no (World.grownBy.refl _ _) HE.out⟩
        | true =>
          rw [hi] at HA HE
          rw [if_pos rfl] at HE
          obtain ⟨q1, q2⟩ := inB_iff.1 hi
          clear hi
          by_cases hs : x3 = -1 ∨ x3 = 1
          case neg =>
            rw [if_neg hs] at HE
            have hs1 : x3 ≠ -1 := fun h => hs (.inl h)
            have hs2 : x3 ≠ 1 := fun h => hs (.inr h)
            have hs3 : (x3 == -1) = false := by simpa using hs1
            have hs4 : (x3 == 1) = false := by simpa using hs2
            clear hs
            go_wp2_with fail
            refine (HA.out _).mono ?_
            rintro e wn ⟨rfl, hw⟩
            obtain rfl := hw.symm
            clear hw
            go_wp2_with fail
            refine (need_no' p _ A3.out.dd.tabs (by first | rfl | (simp only [decide_eq_false_iff_not]; omega))).mono ?_
            rintro e wn ⟨rfl, hw⟩
            obtain rfl := hw.symm
            go_wp2
            exact ⟨rfl, A3.out.no (World.grownBy.refl _ _) HE.out⟩
          case pos =>
            rw [if_pos hs] at HE
            have hz : -1000000 ≤ x1 * x3 ∧ x1 * x3 ≤ 1000000 := by rcases hs with rfl | rfl <;> omega
            have hg3 : ((x3 == -1) = true ∧ ∃ y : Unit, True) ∨ ((x3 == -1) = false ∧ (x3 == 1) = true) := by rcases hs with rfl | rfl <;> simp
            generalize hzz : x1 * x3 = z at *
            have hws : wrap64 (x1 * x3) = z := by rw [hzz]; exact IntWalk.wrap64_in _ (by omega)
            have hws' : IntKind.i64.wrap (x1 * x3) = z := by rw [IntKind.wrap_i64, hzz]; omega
            clear hzz hs
            obtain ⟨_, hstop⟩ := A3.out.dd.tabs
            rcases hg3 with ⟨hg3, _⟩ | ⟨hg3, hg4⟩
            all_goals
              go_wp2_with fail
              refine (HA.out _).mono ?_
              rintro e wn ⟨rfl, hw⟩
              obtain rfl := hw.symm
              clear hw
              go_wp2_with fail
              refine (need_yes' _ (by first | rfl | (simp only [decide_eq_true_eq]; omega))).mono ?_
              rintro e wn ⟨rfl, hw⟩
              obtain rfl := hw.symm
              clear hw
              by_cases u1 : x2 = 1
              case pos =>
                rw [if_pos u1] at HE
                subst u1
                have HOn := hid (on_any 0 z [] w3 A3.out.dd hr)
                go_wp2_with fail
                refine HOn.out.mono ?_
                intro e wx hx
                cases ho : onO r 0 z with
                | none =>
                  obtain rfl := hx.of_none (by rw [ho]; rfl)
                  have AX := hid (A3.out.no (V := NV w.heap.size) hx.grown (HE.out.trans (by rw [ho]; rfl)))
                  clear hx HOn ho HE A3
                  go_wp2
                  exact ⟨rfl, AX.out⟩
                | some y =>
                  obtain ⟨v, rfl, hv, hd⟩ := hx.of_some (by rw [ho]; rfl)
                  have AV := hid (A3.out.step hx.grown hd)
                  obtain ⟨k, f⟩ := y
                  have HV := hid (hv.low A3.out.size)
                  obtain ⟨fv, rfl, hf⟩ := hv
                  obtain ⟨ad, cap, rfl, _⟩ := hf.ia.shape
                  have Y := hid (AV.out.yes HV.out (HE.out.trans (by rw [ho]; rfl)))
                  have c0 := AV.out.c0
                  have c1 := AV.out.c1
                  have f0 := AV.out.fz 0
                  have f1 := AV.out.fz 1
                  clear hx HOn ho HE hd hf HV AV A3
                  dsimp only at *
                  generalize f.length = nf at *
                  go_wp2
                  refine bodyPost_ret (v := .agg #[.int .i64 k, .slice ad nf cap]) (results_cell_row rfl _ _ w.heap.size 27 _ (0, 0) _ rfl Y.out.1 Tryz.underlying27 rfl (by kernel_rfl)) rfl Y.out.2
              case neg =>
                rw [if_neg u1] at HE
                have v1 : (x2 == 1) = false := by simpa using u1
                clear u1
                by_cases u2 : x2 = 2
                case pos =>
                  rw [if_pos u2] at HE
                  subst u2
                  have HOn := hid (on_any 0 (7 * z) [] w3 A3.out.dd hr)
                  go_wp2_with fail
                  refine HOn.out.mono ?_
                  intro e wx hx
                  cases ho : onO r 0 (7 * z) with
                  | none =>
                    obtain rfl := hx.of_none (by rw [ho]; rfl)
                    have AX := hid (A3.out.no (V := NV w.heap.size) hx.grown (HE.out.trans (by rw [ho]; rfl)))
                    clear hx HOn ho HE A3
                    go_wp2
                    exact ⟨rfl, AX.out⟩
                  | some y =>
                    obtain ⟨v, rfl, hv, hd⟩ := hx.of_some (by rw [ho]; rfl)
                    have AV := hid (A3.out.step hx.grown hd)
                    obtain ⟨k, f⟩ := y
                    have HV := hid (hv.low A3.out.size)
                    obtain ⟨fv, rfl, hf⟩ := hv
                    obtain ⟨ad, cap, rfl, _⟩ := hf.ia.shape
                    have Y := hid (AV.out.yes HV.out (HE.out.trans (by rw [ho]; rfl)))
                    have c0 := AV.out.c0
                    have c1 := AV.out.c1
                    have f0 := AV.out.fz 0
                    have f1 := AV.out.fz 1
                    clear hx HOn ho HE hd hf HV AV A3
                    dsimp only at *
                    generalize f.length = nf at *
                    go_wp2
                    refine bodyPost_ret (v := .agg #[.int .i64 k, .slice ad nf cap]) (results_cell_row rfl _ _ w.heap.size 27 _ (0, 0) _ rfl Y.out.1 Tryz.underlying27 rfl (by kernel_rfl)) rfl Y.out.2
                case neg =>
                  rw [if_neg u2] at HE
                  have v2 : (x2 == 2) = false := by simpa using u2
                  clear u2
                  by_cases u3 : x2 = 3
                  case pos =>
                    rw [if_pos u3] at HE
                    subst u3
                    have HOn := hid (on_any z 0 [] w3 A3.out.dd hr)
                    go_wp2_with fail
                    refine HOn.out.mono ?_
                    intro e wx hx
                    cases ho : onO r z 0 with
                    | none =>
                      obtain rfl := hx.of_none (by rw [ho]; rfl)
                      have AX := hid (A3.out.no (V := NV w.heap.size) hx.grown (HE.out.trans (by rw [ho]; rfl)))
                      clear hx HOn ho HE A3
                      go_wp2
                      exact ⟨rfl, AX.out⟩
                    | some y =>
                      obtain ⟨v, rfl, hv, hd⟩ := hx.of_some (by rw [ho]; rfl)
                      have AV := hid (A3.out.step hx.grown hd)
                      obtain ⟨k, f⟩ := y
                      have HV := hid (hv.low A3.out.size)
                      obtain ⟨fv, rfl, hf⟩ := hv
                      obtain ⟨ad, cap, rfl, _⟩ := hf.ia.shape
                      have Y := hid (AV.out.yes HV.out (HE.out.trans (by rw [ho]; rfl)))
                      have c0 := AV.out.c0
                      have c1 := AV.out.c1
                      have f0 := AV.out.fz 0
                      have f1 := AV.out.fz 1
                      clear hx HOn ho HE hd hf HV AV A3
                      dsimp only at *
                      generalize f.length = nf at *
                      go_wp2
                      refine bodyPost_ret (v := .agg #[.int .i64 k, .slice ad nf cap]) (results_cell_row rfl _ _ w.heap.size 27 _ (0, 0) _ rfl Y.out.1 Tryz.underlying27 rfl (by kernel_rfl)) rfl Y.out.2
                  case neg =>
                    rw [if_neg u3] at HE
                    have v3 : (x2 == 3) = false := by simpa using u3
                    clear u3
                    by_cases u4 : x2 = 4
                    case pos =>
                      rw [if_pos u4] at HE
                      subst u4
                      have HOn := hid (on_any (12 * z) 0 [] w3 A3.out.dd hr)
                      go_wp2_with fail
                      refine HOn.out.mono ?_
                      intro e wx hx
                      cases ho : onO r (12 * z) 0 with
                      | none =>
                        obtain rfl := hx.of_none (by rw [ho]; rfl)
                        have AX := hid (A3.out.no (V := NV w.heap.size) hx.grown (HE.out.trans (by rw [ho]; rfl)))
                        clear hx HOn ho HE A3
                        go_wp2
                        exact ⟨rfl, AX.out⟩
                      | some y =>
                        obtain ⟨v, rfl, hv, hd⟩ := hx.of_some (by rw [ho]; rfl)
                        have AV := hid (A3.out.step hx.grown hd)
                        obtain ⟨k, f⟩ := y
                        have HV := hid (hv.low A3.out.size)
                        obtain ⟨fv, rfl, hf⟩ := hv
                        obtain ⟨ad, cap, rfl, _⟩ := hf.ia.shape
                        have Y := hid (AV.out.yes HV.out (HE.out.trans (by rw [ho]; rfl)))
                        have c0 := AV.out.c0
                        have c1 := AV.out.c1
                        have f0 := AV.out.fz 0
                        have f1 := AV.out.fz 1
                        clear hx HOn ho HE hd hf HV AV A3
                        dsimp only at *
                        generalize f.length = nf at *
                        go_wp2
                        refine bodyPost_ret (v := .agg #[.int .i64 k, .slice ad nf cap]) (results_cell_row rfl _ _ w.heap.size 27 _ (0, 0) _ rfl Y.out.1 Tryz.underlying27 rfl (by kernel_rfl)) rfl Y.out.2
                    case neg =>
                      rw [if_neg u4] at HE
                      have v4 : (x2 == 4) = false := by simpa using u4
                      clear u4
                      go_wp2
                      exact ⟨rfl, A3.out.no (World.grownBy.refl _ _) HE.out⟩

end
end Go.Proofs.YtengcdodoblabaaGreatDoor
