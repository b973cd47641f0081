/- RankOnce answers true of any number, any costs: a value that is there many times is there once, with its least cost. The tables of the library are as listed. -/
import Derived.Test.YtjocpbcmehicmaaDoorCards
import Derived.Test.YtjocpbcmehicmaaDoorTie
import Derived.Test.YtjocpbcmehicmaaDoorMake
import Derived.Test.YtjocpbcmehicmaaDoorSame
import Derived.Test.YtjocpbcmehicmaaDoorMath3
import Derived.ProofKit
import Derived.OpenShut
import Derived.Lay
import Derived.SevenTiedAt
import Derived.Stop.Joined
import Derived.Lib.LaidTab
import Derived.Deep.Cut
import Derived.Deep.CutBlock
namespace Go.Proofs.YtjocpbcmehicmaaDoor
open Go.ChangeShapes Go.WideShapes Go.ChangeAt Go.RowKit


/-- The row under work. -/
structure ST (x : Val) (least : Int) (j : Nat) (ps : List (Value × Rd)) : Prop where
  len : ps.length = j
  same : ∀ r ∈ ps.map Prod.snd, r.v = x
  there : 0 < j → (⟨x, least⟩ : Rd) ∈ ps.map Prod.snd
  least : ∀ r ∈ ps.map Prod.snd, least ≤ r.cost
theorem ST.start (x : Val) : ST x 0 0 [] := ⟨rfl, fun r h => by simp at h, fun h => by omega, fun r h => by simp at h⟩
theorem ST.less {x : Val} {l c : Int} {j : Nat} {ps : List (Value × Rd)} (h : ST x l j ps) (fv : Value) (hc : j = 0 ∨ c < l) : ST x c (j + 1) (ps ++ [(fv, ⟨x, c⟩)]) := by
  refine ⟨by simp [h.len], fun r hr => ?_, fun _ => by simp, fun r hr => ?_⟩
  · rw [List.map_append] at hr
    rcases List.mem_append.1 hr with hr | hr
    · exact h.same r hr
    · have : r = ⟨x, c⟩ := by simpa using hr
      rw [this]
  · rw [List.map_append] at hr
    rcases List.mem_append.1 hr with hr | hr
    · rcases hc with hc | hc
      · have := h.len
        rw [hc] at this
        rw [List.length_eq_zero_iff.1 this] at hr
        simp at hr
      · have := h.least r hr; omega
    · have : r = ⟨x, c⟩ := by simpa using hr
      rw [this]; exact Int.le_refl _
theorem ST.more {x : Val} {l c : Int} {j : Nat} {ps : List (Value × Rd)} (h : ST x l j ps) (fv : Value) (h0 : 0 < j) (hc : l ≤ c) : ST x l (j + 1) (ps ++ [(fv, ⟨x, c⟩)]) := by
  refine ⟨by simp [h.len], fun r hr => ?_, fun _ => ?_, fun r hr => ?_⟩
  · rw [List.map_append] at hr
    rcases List.mem_append.1 hr with hr | hr
    · exact h.same r hr
    · have : r = ⟨x, c⟩ := by simpa using hr
      rw [this]
  · rw [List.map_append]; exact List.mem_append.2 (.inl (h.there h0))
  · rw [List.map_append] at hr
    rcases List.mem_append.1 hr with hr | hr
    · exact h.least r hr
    · have : r = ⟨x, c⟩ := by simpa using hr
      rw [this]; exact hc

set_option maxRecDepth 8000 in
set_option maxHeartbeats 8000000 in
theorem walk (a0 : Int) (v1 : Value) (ns : List Int) (W : World) (w0 : (Lit.int .i64 a0).wf = true) (w1 : IX W v1 ns) (hT : Tab W) :
    Calls Tryd.prog 9 #[.int .i64 a0, v1] W fun e W' => e = .returned (.bool true) ∧ Below W.heap.size W W' := by
  obtain ⟨b0, b1⟩ := wf_bd w0
  have HK := hid (known_any W hT)
  obtain ⟨x, hkx, ⟨_, _⟩, hval⟩ := lvalue_any a0 a0 a0 ⟨b0, b1⟩ ⟨b0, b1⟩ ⟨b0, b1⟩
  clear hkx
  have HV := hid hval
  obtain ⟨ad, cap, rfl, h1, h2, hcell, hrange⟩ := w1
  have HC := hid hcell
  have HRG := hid hrange
  obtain ⟨n, hn⟩ : ∃ n, n = ns.length := ⟨_, rfl⟩
  have HN := hid hn
  have n63 : n ≤ 9223372036854775807 := by unfold maxLen at h2; omega
  rw [← hn] at h1 ⊢
  clear w0 hval hcell hrange hn hT h2
  go_enter Tryd.func9, Tryd.ntmps9
  go_wp2_with fail
  refine HK.out.mono ?_
  rintro e wa ⟨rfl, hb⟩
  have HB := hid hb
  clear hb
  go_wp2_with fail
  refine (HV.out _).mono ?_
  rintro e wc ⟨u, rfl, ⟨fv, rfl, hna⟩, hb⟩
  obtain ⟨ad2, cap2, rfl, _, _, _⟩ := hna.ia.shape
  have HBC := hid (HB.out.trans (hb.mono HB.out.size))
  obtain ⟨wb, hwb⟩ : ∃ wb, wb = wc.alloc (.cells #[.int .i64 x.kind, .slice ad2 x.f.length cap2] 24) := ⟨_, rfl⟩
  have hcb : Below wc.heap.size wc wb := by rw [hwb]; exact up_alloc _ _
  have HNA := hid ((hna.low HB.out.size).on hcb)
  have HX := hid (show wb.heap[wc.heap.size]? = some (.cells #[.int .i64 x.kind, .slice ad2 x.f.length cap2] 24 (0, 0)) by rw [hwb]; exact new_row _ _)
  have HBB := hid (HBC.out.trans (hcb.mono HBC.out.size))
  have HSZ := hid (show wb.heap.size = wc.heap.size + 1 by rw [hwb]; simp)
  clear hna hb hcb
  generalize hvf : x.f.length = vl at *
  generalize hvk : x.kind = vk at *
  have HVK := hid hvk
  have HVF := hid hvf
  clear hvk hvf
  go_wp2
  rw [← hwb]
  clear hwb
  go_loopw [6, 7, 8] (fun v6 v7 v8 wr => ∃ (j : Nat) (least : Int) (ps : List (Value × Rd)), j ≤ n ∧ j ≤ 30 ∧ v8 = .int .i64 j ∧ v7 = .int .i64 least ∧ (0 ≤ least ∧ least < 1000) ∧ Hid (ST x least j ps) ∧ Hid (RW W.heap.size wr v6 ps) ∧ Hid (∀ g, v6.ownBlock = some g → wb.heap.size ≤ g) ∧ Hid (Below wb.heap.size wb wr)) (fun _ _ v8 _ => n - (intOf v8).toNat)
  case atStart => exact ⟨0, 0, [], by omega, by omega, rfl, rfl, by omega, hid (ST.start x), hid (RW.nil _ _), hid (fun g h => by cases h), hid (Below.refl _ _)⟩
  case round =>
    obtain ⟨j, least, ps, hj, hjK, rfl, rfl, ⟨l0, l1⟩, HS, HR, HG, HBR⟩ := hrel
    have HBE : Hid (j ≤ 1000 → Calls Tryd.prog 18 #[u6, .int .i64 9] wr fun e w' => ∃ out u, IsBest (ps.map Prod.snd) out ∧ e = .returned (.tuple #[u, .bool (decide ((9 : Int) < (out.length : Int)))]) ∧ RO wr.heap.size w' u (out.take (9 : Int).toNat) ∧ Below wr.heap.size wr w') := hid (fun h => best_any _ u6 9 wr (HR.out.ra (by rw [HS.out.len]; omega)) (by decide))
    have HSH : Hid (∃ ad cap, u6 = .slice ad j cap) := hid (by
      obtain ⟨_, ⟨e, h0⟩ | ⟨g, cap, cur, e, _⟩⟩ := HR.out.row
      · exact ⟨none, 0, by rw [e, ← HS.out.len, h0]⟩
      · exact ⟨_, cap, by rw [e, HS.out.len]⟩)
    by_cases hgo : j < n ∧ j < 30
    case pos =>
      clear HBE
      obtain ⟨hlt, hlt30⟩ := hgo
      have hlt2 : (j : Int) < (n : Int) := by omega
      have hlt3 : (j : Int) < 30 := by omega
      obtain ⟨b, o, e1, hbl, hcs⟩ := HC.out (by rw [← HN.out]; omega)
      subst e1
      have c0 := ((HBB.out.trans (HBR.out.mono HBB.out.size)).cell hbl).trans (hcs j (by rw [← HN.out]; exact hlt))
      clear hcs
      have hx := HRG.out _ (getD_mem 0 ns j (by rw [← HN.out]; exact hlt))
      generalize ns.getD j 0 = y at *
      have H1 := hid fun w => within_any y 1000 w (by decide) (by decide) hx.1 hx.2
      have hcb : 0 ≤ y % 1000 ∧ y % 1000 < 1000 := by omega
      generalize y % 1000 = c at *
      obtain ⟨c1, c2⟩ := hcb
      obtain ⟨q0, q1⟩ := box2 HX.out HBR.out
      clear hx
      go_wp2_with fail
      refine (H1.out _).mono ?_
      rintro e w1 ⟨rfl, hw⟩
      obtain rfl := hw.symm
      clear hw
      obtain ⟨i0, hi, hz0, hz1, hz2⟩ := info_parts info_ar
      have hps : ps.length = j := HS.out.len
      have hsz2 := HBR.out.size
      have hszW : W.heap.size ≤ wr.heap.size := Nat.le_trans HBB.out.size hsz2
      go_wp2_with (at_builtin; refine Hid.out ?_)
      refine hid ?_
      refine wpList_append_lies _ rfl _ _ 28 rfl W.heap.size 36 i0 (.agg #[.int .i64 0, .slice none 0 0, .int .i64 0]) 3 40 Tryd.underlying28 hi hz0 hz1 hz2 rfl (by decide) _ _ _ rfl (HR.out.row.alloc _) ⟨wr.heap.size, 0, none⟩ 1 1 [Value.int .i64 vk, Value.slice ad2 vl cap2, Value.int .i64 c] rfl rfl (by intro j u' hj; match j, hj with | 0, hj => (simp at hj; subst hj; simp [Addr.add]) | 1, hj => (simp at hj; subst hj; simp [Addr.add]) | 2, hj => (simp at hj; subst hj; simp [Addr.add])) (by intro u' hu'; simp at hu'; rcases hu' with rfl | rfl | rfl <;> rfl) (by decide) (by unfold maxLen; omega) (by omega) (by simp; omega) _ rfl ?_
      intro g cap3 w4 hown hgr hg hlt4
      have HST := hid (RW.step (r := ⟨x, c⟩) (fv := .slice ad2 vl cap2) (HR.out.on (up_alloc wr (.cells #[.int .i64 vk, .slice ad2 vl cap2, .int .i64 c] 36))) ((HNA.out.on HBR.out).on (up_alloc _ _)) (fun b hb he => by
        have a1 := (HNA.out.lt hb).2
        have a2 := HG.out b he
        omega) (by rw [show (⟨x, c⟩ : Rd).v.kind = vk from HVK.out]; exact hown) hgr (hg.imp id (fun h => by simpa using h)))
      have HB4 := hid (show Below wb.heap.size wb w4 from (HBR.out.alloc hsz2 _).grown hgr (by simp; omega) (fun k hk => HG.out k hk))
      have HG4 : Hid (∀ b, (Value.slice (some ⟨g, 0, none⟩) (ps.length + 1) cap3).ownBlock = some b → wb.heap.size ≤ b) := hid (fun b e => by
        injection e with e
        dsimp only at e
        subst e
        rcases hg with h | h
        · exact HG.out _ h
        · have : g = wr.heap.size + 1 := by simpa using h
          omega)
      clear hown hgr hg hlt4
      rw [hps] at HST HG4
      rw [hps]
      clear hps
      by_cases hj0 : j = 0
      · have hz : ((j : Int) == 0) = true := by simp; omega
        have HJ0 := hid hj0
        clear hj0
        go_wp2
        go_round
        case rel => exact ⟨j + 1, c, ps ++ [(_, ⟨x, c⟩)], by omega, by omega, by simp, rfl, by omega, hid (HS.out.less _ (.inl HJ0.out)), HST, HG4, HB4⟩
        case measure => simp [intOf]; omega
      · have hz : ((j : Int) == 0) = false := by simp; omega
        by_cases hcl : c < least
        · skip
          go_wp2
          go_round
          case rel => exact ⟨j + 1, c, ps ++ [(_, ⟨x, c⟩)], by omega, by omega, by simp, rfl, by omega, hid (HS.out.less _ (.inr hcl)), HST, HG4, HB4⟩
          case measure => simp [intOf]; omega
        · skip
          go_wp2
          go_round
          case rel => exact ⟨j + 1, least, ps ++ [(_, ⟨x, c⟩)], by omega, by omega, by simp, rfl, by omega, hid (HS.out.more _ (by omega) (by omega)), HST, HG4, HB4⟩
          case measure => simp [intOf]; omega
    case neg =>
      have HBE := hid (HBE.out (by omega))
      obtain ⟨ad6, cap6, rfl⟩ := HSH.out
      by_cases hlt : j < n
      case pos =>
        have hlt2 : (j : Int) < (n : Int) := by omega
        have hlt3 : ¬ (j : Int) < 30 := by omega
        go_wp2_with fail
        refine HBE.out.mono ?_
        rintro e w5 ⟨out, va, hb, rfl, hro, hb5⟩
        have HB5 := hid (HBR.out.trans (hb5.mono HBR.out.size))
        by_cases h0 : j = 0
        · subst h0
          obtain rfl : ps = [] := List.length_eq_zero_iff.1 HS.out.len
          obtain rfl : out = [] := hb.unique ⟨by simp [Rising], fun r => by simp⟩
          obtain ⟨g, cs, t, cap4, rfl, _⟩ := hro
          skip
          clear hb hb5 HBE
          rw [show decide ((9 : Int) < (([] : List Rd).length : Int)) = false from rfl]
          go_wp2
          go_ret
          exact ⟨rfl, HBB.out.trans (HB5.out.mono HBB.out.size)⟩
        · have hone := hb.once HS.out.same (HS.out.there (by omega)) HS.out.least
          subst hone
          rw [show List.take (9 : Int).toNat [(⟨x, least⟩ : Rd)] = [⟨x, least⟩] from rfl] at hro
          rw [show decide ((9 : Int) < ([(⟨x, least⟩ : Rd)].length : Int)) = false from rfl]
          obtain ⟨g, cs, t, cap4, rfl, _, _, hg, hcs⟩ := hro
          obtain ⟨fv, k0, k1, k2, hnf⟩ := hcs 0 (by simp)
          have hs : ∀ s : Ci.Ext w5, RowKit.Below wb.heap.size wb s.out := fun s => HB5.out.trans (s.below.mono HB5.out.size)
          have hgr := fun s : Ci.Ext w5 => (s.below.block g (Array.getElem?_eq_some_iff.1 hg).1).trans hg
          have P0 : ∀ s : Ci.Ext w5, s.out.cell? ⟨g, 0, none⟩ = some (.int .i64 vk) := fun s => (cell_of_row (hgr s)).trans (k0.trans (by rw [← HVK.out]; rfl))
          have P1 : ∀ s : Ci.Ext w5, s.out.cell? ⟨g, 1, none⟩ = some fv := fun s => (cell_of_row (hgr s)).trans k1
          have P2 : ∀ s : Ci.Ext w5, s.out.cell? ⟨g, 2, none⟩ = some (.int .i64 least) := fun s => (cell_of_row (hgr s)).trans k2
          have Q0 : ∀ s : Ci.Ext w5, s.out.cell? ⟨wc.heap.size, 0, none⟩ = some (.int .i64 vk) := fun s => (box2 HX.out (hs s)).1
          have Q1 : ∀ s : Ci.Ext w5, s.out.cell? ⟨wc.heap.size, 1, none⟩ = some (.slice ad2 vl cap2) := fun s => (box2 HX.out (hs s)).2
          have KC := hid fun s : Ci.Ext w5 => (cmp_any x x (.agg #[.int .i64 vk, fv]) (.agg #[.int .i64 vk, .slice ad2 vl cap2]) s.out ⟨fv, by rw [HVK.out], (hnf.ia.on s.below).ib⟩ ⟨.slice ad2 vl cap2, by rw [HVK.out], (HNA.out.on (hs s)).ia.ib⟩).mono (fun e w' h => (⟨by rw [h.1, cmpV_self], Ci.Ext.to s h.2.below⟩ : e = .returned (.int .i64 0) ∧ ∃ s' : Ci.Ext w5, w' = s'.out))
          have hz2 : ((j : Int) == 0) = false := by simp; omega
          have HSX := hid hs
          clear hb hb5 HBE hg hcs k0 k1 k2 hnf hs hgr
          go_wp2_with fail
          refine Ci.wp_region_ext2 (by kernel_rfl) (by kernel_rfl) (fun hne hcell => ?_)
          clear hcell
          repeat (go_big_quiet_step ((go_at_call 14; with_reducible exact KC.out _)))
          refine wpQuiet_nil ?_
          intro w7 hw7
          obtain ⟨s, rfl⟩ := hw7
          have HF := hid (HSX.out s)
          clear P0 P1 P2 Q0 Q1
          go_wp2
          go_ret
          exact ⟨rfl, HBB.out.trans (HF.out.mono HBB.out.size)⟩
      case neg =>
        have hlt2 : ¬ (j : Int) < (n : Int) := by omega
        go_wp2_with fail
        refine HBE.out.mono ?_
        rintro e w5 ⟨out, va, hb, rfl, hro, hb5⟩
        have HB5 := hid (HBR.out.trans (hb5.mono HBR.out.size))
        by_cases h0 : j = 0
        · subst h0
          obtain rfl : ps = [] := List.length_eq_zero_iff.1 HS.out.len
          obtain rfl : out = [] := hb.unique ⟨by simp [Rising], fun r => by simp⟩
          obtain ⟨g, cs, t, cap4, rfl, _⟩ := hro
          skip
          clear hb hb5 HBE
          rw [show decide ((9 : Int) < (([] : List Rd).length : Int)) = false from rfl]
          go_wp2
          go_ret
          exact ⟨rfl, HBB.out.trans (HB5.out.mono HBB.out.size)⟩
        · have hone := hb.once HS.out.same (HS.out.there (by omega)) HS.out.least
          subst hone
          rw [show List.take (9 : Int).toNat [(⟨x, least⟩ : Rd)] = [⟨x, least⟩] from rfl] at hro
          rw [show decide ((9 : Int) < ([(⟨x, least⟩ : Rd)].length : Int)) = false from rfl]
          obtain ⟨g, cs, t, cap4, rfl, _, _, hg, hcs⟩ := hro
          obtain ⟨fv, k0, k1, k2, hnf⟩ := hcs 0 (by simp)
          have hs : ∀ s : Ci.Ext w5, RowKit.Below wb.heap.size wb s.out := fun s => HB5.out.trans (s.below.mono HB5.out.size)
          have hgr := fun s : Ci.Ext w5 => (s.below.block g (Array.getElem?_eq_some_iff.1 hg).1).trans hg
          have P0 : ∀ s : Ci.Ext w5, s.out.cell? ⟨g, 0, none⟩ = some (.int .i64 vk) := fun s => (cell_of_row (hgr s)).trans (k0.trans (by rw [← HVK.out]; rfl))
          have P1 : ∀ s : Ci.Ext w5, s.out.cell? ⟨g, 1, none⟩ = some fv := fun s => (cell_of_row (hgr s)).trans k1
          have P2 : ∀ s : Ci.Ext w5, s.out.cell? ⟨g, 2, none⟩ = some (.int .i64 least) := fun s => (cell_of_row (hgr s)).trans k2
          have Q0 : ∀ s : Ci.Ext w5, s.out.cell? ⟨wc.heap.size, 0, none⟩ = some (.int .i64 vk) := fun s => (box2 HX.out (hs s)).1
          have Q1 : ∀ s : Ci.Ext w5, s.out.cell? ⟨wc.heap.size, 1, none⟩ = some (.slice ad2 vl cap2) := fun s => (box2 HX.out (hs s)).2
          have KC := hid fun s : Ci.Ext w5 => (cmp_any x x (.agg #[.int .i64 vk, fv]) (.agg #[.int .i64 vk, .slice ad2 vl cap2]) s.out ⟨fv, by rw [HVK.out], (hnf.ia.on s.below).ib⟩ ⟨.slice ad2 vl cap2, by rw [HVK.out], (HNA.out.on (hs s)).ia.ib⟩).mono (fun e w' h => (⟨by rw [h.1, cmpV_self], Ci.Ext.to s h.2.below⟩ : e = .returned (.int .i64 0) ∧ ∃ s' : Ci.Ext w5, w' = s'.out))
          have hz2 : ((j : Int) == 0) = false := by simp; omega
          have HSX := hid hs
          clear hb hb5 HBE hg hcs k0 k1 k2 hnf hs hgr
          go_wp2_with fail
          refine Ci.wp_region_ext2 (by kernel_rfl) (by kernel_rfl) (fun hne hcell => ?_)
          clear hcell
          repeat (go_big_quiet_step ((go_at_call 14; with_reducible exact KC.out _)))
          refine wpQuiet_nil ?_
          intro w7 hw7
          obtain ⟨s, rfl⟩ := hw7
          have HF := hid (HSX.out s)
          clear P0 P1 P2 Q0 Q1
          go_wp2
          go_ret
          exact ⟨rfl, HBB.out.trans (HF.out.mono HBB.out.size)⟩

theorem own : ownKnob Tryd.prog.godebug = none := by kernel_rfl

theorem table {W : World} (h : laidMetH Tryd.prog Rows.rankOnceRow.laid W) : Tab W := by
  rw [MakeChecks.laidMetH_plain _ _ _ (by kernel_rfl)] at h
  exact tab_of_laid h

set_option maxRecDepth 100000 in
theorem lifted (os : Os) (started : os.Started) (H : Type) (enc : TypeId × Value → H) :
    ReturnsInHanded {} Tryd.checked os 9 .any (fun w args => (Rows.rankOnceSpec.pre enc Tryd.prog Tryd.f9 Rows.rankOnceRow.domain false w args ∧ laidMetH Tryd.prog Rows.rankOnceRow.laid w) ∧ sizedMet enc Tryd.prog Tryd.f9 (OpenSpec.ofChange Rows.rankOnceSpec) false w args)
      (Rows.rankOnceSpec.post enc Tryd.prog Tryd.f9 false true false false) := by
  refine returnsInHanded_of_change_and (C := Tryd.checked) (X := fun w _ => laidMetH Tryd.prog Rows.rankOnceRow.laid w) (fun _ _ _ hh h => h.of_heap hh) own started (by kernel_rfl) Tryd.func9
    (ChangeSpec.witness_shaped (enc := enc) (C := Tryd.checked) (os := os) (X := fun w _ => laidMetH Tryd.prog Rows.rankOnceRow.laid w) false (World.laidAll Tryd.prog os Rows.rankOnceRow.laid) #[.int .i64 0, .slice none 0 0] 8 (World.laidAll_os _ _ _)
      (World.shaped_of_ZipB (by kernel_rfl) (by kernel_rfl)) (by kernel_rfl) (by kernel_rfl) (by kernel_rfl)
      (by rw [MakeChecks.laidMetH_plain _ _ _ (by kernel_rfl)]; exact laidMet_laidAll _ (by kernel_rfl) (by kernel_rfl))) ?_
  intro W base args ds gs before hval0 hW _ _ hL _
  have hval : ∀ (j : Nat) t v, Tryd.f9.params[j]? = some t → args[j]? = some v → Value.okWide Tryd.prog W .any base t v := hval0
  have hW' := hW
  obtain ⟨p, q, hA0, hV, rfl, hfz, hnd⟩ := hW
  have hA : DataW.TrodAll enc Tryd.prog W 0 (fun _ => true) true Tryd.f9.params.toList args.toList ds p := hA0
  rw [Tryd.params9] at hA hval
  obtain ⟨v0, vs0, d0, ds0, p0, q0, hargs, rfl, rfl, h0, r0⟩ := trodAll_cons hA
  obtain ⟨v1, vs1, d1, ds1, p1, q1, rfl, rfl, rfl, h1, r1⟩ := trodAll_cons r0
  obtain ⟨rfl, rfl, rfl⟩ := trodAll_nil r1
  obtain rfl : args = #[v0, v1] := by cases args; simp_all
  obtain ⟨rfl, rfl⟩ := trodVars_none hV
  obtain ⟨a0, rfl, rfl, rfl, w0⟩ := open_int Tryd.underlying3 (hval 0 3 v0 rfl rfl) h0
  obtain ⟨x1, w1⟩ := ints_at (hval 1 22 v1 rfl rfl) h1
  have l1 : ∀ x ∈ p1, x.block < W.heap.size := fun x hx => hW'.lt x (by simp [hx])
  clear hA0 hval0
  refine (walk a0 v1 x1 W w0 w1 (table hL)).mono fun e W' ⟨he, bel⟩ => ?_
  subst he
  exact ⟨_, rfl, _, _, _, _, _, [], hW', trodAll_mk1 (shut_bool Tryd.underlying4 _), (trodAll_cons_mk (shut_int Tryd.underlying3 w0) (trodAll_cons_mk (Below.trod (by kernel_rfl) (by kernel_rfl) (of_decide_eq_true (by kernel_rfl)) h1 bel l1) trodAll_mk0)), rfl, bel.frame _, fun h => by cases h⟩

theorem row_holds : Rows.RankOnceSaid :=
  OpenClaim.holds_of_wide 9 Tryd.f9 rfl rfl rfl rfl rfl rfl rfl ⟨rfl, rfl, rfl, rfl, rfl⟩ rfl rfl rfl rfl rfl (by kernel_rfl) Tryd.func9 (by kernel_rfl)
    (of_decide_eq_true (by kernel_rfl)) (by unfold Func.isWrapper; first | (rw [if_pos (by decide +kernel)]; kernel_rfl) | (rw [if_neg (by decide +kernel)]; exact ⟨rfl, rfl⟩))
    (fun os started H enc _ => lifted os started H enc)

theorem rankOnce_holds : Rows.RankOnceCardSaid :=
  Claim7.holds_tied_plain_at .later [] _ _ _ _ row_holds (fun _ h => by cases h) (by kernel_rfl) (fun _ h => by cases h) rankOnce_row_tie rfl ⟨rfl, rfl⟩ (by kernel_rfl) rfl
    (fun f fn hf hfn => by
      obtain rfl : f = 9 := Option.some.inj ((show Tryd.prog.funcNamed "interlocutor/interlocutorlaw10.RankOnce" = some 9 by kernel_rfl).symm.trans hf) |>.symm
      obtain rfl : fn = Tryd.f9 := (Option.some.inj (Tryd.func9.symm.trans hfn)).symm
      exact ⟨by kernel_rfl, fun j t ht => by
        rw [Tryd.params9] at ht
        have hm : t ∈ [3, 22] := by simpa using Array.mem_of_getElem? ht
        have hall : ([3, 22].all fun u => !Tryd.prog.wantsStandIn u) = true := by kernel_rfl
        exact (show Tryd.prog.wantsStandIn t = false by simpa using List.all_eq_true.1 hall t hm)⟩)
    (by kernel_rfl)

end Go.Proofs.YtjocpbcmehicmaaDoor
