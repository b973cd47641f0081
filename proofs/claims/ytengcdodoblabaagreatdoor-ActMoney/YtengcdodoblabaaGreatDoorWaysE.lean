/- What each action makes, going on: moments, spans, what is picked, groups. -/
import Derived.Test.YtengcdodoblabaaGreatDoorRow
import Derived.Deep.RegionLaw
namespace Go.Proofs.YtengcdodoblabaaGreatDoor
open Go.RowKit
theorem step_append_ia (w : World) {ops : Array Oper} {o : Oper} {a : Act} {K : Act → World → Prop} {Q : Exit → Act → World → Prop} {E : Prop} (hgd : o.guard = none) (s x : Operand)
    (ho : o.op = .call { callee := .builtin .append, args := #[s, x], argTypes := #[22, 22] })
    (B : Nat) (v : Value) (xs : List Int) (hs : a.eval s = v) (h : RN w B v xs) (xv : Value) (ys : List Int) (hx : a.eval x = xv) (hq : IA w xv ys)
    (hl : xs.length + ys.length ≤ 1000000) (hB : B ≤ w.heap.size)
    (hK : ∀ v' w', RN w' B v' (xs ++ ys) → Below B w w' → K (a.put o.dst v') w') :
    if Region.wanted o (yielded ops a.tmps) = true then Oper.wp Tryz.prog o a w K Q else E := by
  have hw : Region.wanted o (yielded ops a.tmps) = true := by simp [Region.wanted, hgd]
  rw [if_pos hw]
  obtain ⟨v', w', hr, h2, h3⟩ := run_append_ia w o.type B v xs h xv ys hq hl hB
  unfold Oper.wp execOp
  simp only [ho, resolve, invoke, builtin, Sem.run_bind, Sem.run_pure, Result.andThen_ok, List.map_toArray, List.map_cons, List.map_nil, hs, hx, hr]
  exact hK v' w' h2 h3

section
variable {p : Value} {W0 : World} {g : Nat} {op : Int} {r : Mom}
def momentO (a b : Val) : Option Val := (takC 4 a).bind fun f => (takC 5 b).bind fun h => some ⟨6, f ++ h⟩
def spanO (a b : Val) : Option Val := (takC 4 a).bind fun f => (takC 4 b).bind fun h => some ⟨10, f ++ h⟩
def pickO (a : Val) : Option Val := some a

set_option maxRecDepth 8000 in
set_option maxHeartbeats 2000000 in
theorem moment_any (a b : Val) (w : World) (h : DD p W0 g op r [a, b] w) :
    Calls Tryz.prog 41 #[.pointer (some ⟨g, 0, none⟩)] w (Ret p W0 g op r w (NV w.heap.size) ((momentO a b).map (fun z => (z, [])))) := by
  have A0 := hid (At.start h)
  have H1 := hid (tak_any 4 a [b] _ A0.out.dd)
  generalize hoo : (momentO a b).map (fun z => (z, ([] : List Val))) = oo
  have HE : Hid (oo = _) := hid hoo.symm
  unfold momentO at HE
  clear h hoo
  go_enter Tryz.func41, Tryz.ntmps41
  go_wp2_with fail
  refine H1.out.mono ?_
  intro e w1 hr
  cases h1 : takC 4 a with
  | none =>
    obtain rfl := hr.of_none (by rw [h1]; rfl)
    have A1 := hid (A0.out.no (V := NV w.heap.size) hr.grown (HE.out.trans (by rw [h1]; rfl)))
    clear hr H1 h1 HE A0
    go_wp2
    exact ⟨rfl, A1.out⟩
  | some x1 =>
    obtain ⟨v1, rfl, hv, hd⟩ := hr.of_some (by rw [h1]; rfl)
    have hl1 := takC_len h1
    rw [show fieldsL.getD (Int.toNat 4) 0 = 3 by decide] at hl1
    obtain ⟨m1, s1, z1, rfl⟩ := len3 (f := x1) (by omega)
    clear hl1
    have V1 := hid hv
    obtain ⟨b1, o1, cap1, rfl, hcl1, hcm1, hbl1⟩ := hv.has3
    have A1 := hid (A0.out.step hr.grown hd)
    have K1 := hid h1
    clear hr hd H1 h1 A0 hv
    have H2 := hid (tak_any 5 b [] _ A1.out.dd)
    go_wp2_with fail
    refine H2.out.mono ?_
    intro e w2 hr
    cases h2 : takC 5 b with
    | none =>
      obtain rfl := hr.of_none (by rw [h2]; rfl)
      have A2 := hid (A1.out.no (V := NV w.heap.size) hr.grown (HE.out.trans (by rw [K1.out, h2]; rfl)))
      clear hr H2 h2 HE A1
      go_wp2
      exact ⟨rfl, A2.out⟩
    | some x2 =>
      obtain ⟨v2, rfl, hv, hd⟩ := hr.of_some (by rw [h2]; rfl)
      have hl2 := takC_len h2
      rw [show fieldsL.getD (Int.toNat 5) 0 = 3 by decide] at hl2
      obtain ⟨m2, s2, z2, rfl⟩ := len3 (f := x2) (by omega)
      clear hl2
      have V2 := hid hv
      obtain ⟨b2, o2, cap2, rfl, hcl2, hcm2, hbl2⟩ := hv.has3
      have A2 := hid (A1.out.step hr.grown hd)
      have K2 := hid h2
      clear hr hd H2 h2 A1 hv
      have HO : Hid (oo = some (⟨6, [m1, s1, z1, m2, s2, z2]⟩, [])) := hid (HE.out.trans (by rw [K1.out, K2.out]; rfl))
      have AL := hid (A2.out.up (up_alloc _ (.cells #[.slice (some ⟨b1, o1, none⟩) 3 cap1, .slice (some ⟨b2, o2, none⟩) 3 cap2] 22)))
      have HC := hid (concat_any m1 s1 z1 m2 s2 z2 _ _ w2.heap.size (w2.alloc (.cells #[.slice (some ⟨b1, o1, none⟩) 3 cap1, .slice (some ⟨b2, o2, none⟩) 3 cap2] 22)) ((V1.out.on A2.out.dd.base).on (up_alloc _ _)) ((V2.out.on A2.out.dd.base).on (up_alloc _ _)) (by simp) (by rw [cell_of_row (new_row _ _)]; rfl) (by rw [cell_of_row (new_row _ _)]; rfl))
      have hs := AL.out.size
      clear HE K1 K2 V1 V2
      go_wp2_with fail
      refine HC.out.mono ?_
      rintro e w3 ⟨v, rfl, hr, hu⟩
      have A3 := hid (AL.out.up hu)
      have HN := hid ((hr.na (by simp)).low (show w.heap.size + 1 ≤ _ from hs))
      obtain ⟨ad3, cap3, rfl, _⟩ := (hr.na (by simp)).ia.shape
      clear hr hu HC AL A2 hs
      rw [show [m1, s1, z1, m2, s2, z2].length = 6 from rfl] at *
      go_wp2_with fail
      refine (value_any _ _ _ _ _).mono ?_
      rintro e wv ⟨rfl, hb⟩
      have AV := hid (A3.out.up hb)
      have Y := hid (AV.out.yes (x := ⟨6, [m1, s1, z1, m2, s2, z2]⟩) ⟨_, rfl, HN.out.on hb⟩ HO.out)
      have c0 := AV.out.c0
      have c1 := AV.out.c1
      have f0 := AV.out.fz 0
      have f1 := AV.out.fz 1
      clear hb HN AV A3
      go_wp2
      refine bodyPost_ret (v := .agg #[.int .i64 6, .slice ad3 6 cap3]) (results_cell_row rfl _ _ w.heap.size 27 _ (0, 0) _ rfl Y.out.1 Tryz.underlying27 rfl (by kernel_rfl)) rfl Y.out.2

set_option maxRecDepth 8000 in
set_option maxHeartbeats 2000000 in
theorem span_any (a b : Val) (w : World) (h : DD p W0 g op r [a, b] w) :
    Calls Tryz.prog 51 #[.pointer (some ⟨g, 0, none⟩)] w (Ret p W0 g op r w (NV w.heap.size) ((spanO a b).map (fun z => (z, [])))) := by
  have A0 := hid (At.start h)
  have H1 := hid (tak_any 4 a [b] _ A0.out.dd)
  generalize hoo : (spanO a b).map (fun z => (z, ([] : List Val))) = oo
  have HE : Hid (oo = _) := hid hoo.symm
  unfold spanO at HE
  clear h hoo
  go_enter Tryz.func51, Tryz.ntmps51
  go_wp2_with fail
  refine H1.out.mono ?_
  intro e w1 hr
  cases h1 : takC 4 a with
  | none =>
    obtain rfl := hr.of_none (by rw [h1]; rfl)
    have A1 := hid (A0.out.no (V := NV w.heap.size) hr.grown (HE.out.trans (by rw [h1]; rfl)))
    clear hr H1 h1 HE A0
    go_wp2
    exact ⟨rfl, A1.out⟩
  | some x1 =>
    obtain ⟨v1, rfl, hv, hd⟩ := hr.of_some (by rw [h1]; rfl)
    have hl1 := takC_len h1
    rw [show fieldsL.getD (Int.toNat 4) 0 = 3 by decide] at hl1
    obtain ⟨m1, s1, z1, rfl⟩ := len3 (f := x1) (by omega)
    clear hl1
    have V1 := hid hv
    obtain ⟨b1, o1, cap1, rfl, hcl1, hcm1, hbl1⟩ := hv.has3
    have A1 := hid (A0.out.step hr.grown hd)
    have K1 := hid h1
    clear hr hd H1 h1 A0 hv
    have H2 := hid (tak_any 4 b [] _ A1.out.dd)
    go_wp2_with fail
    refine H2.out.mono ?_
    intro e w2 hr
    cases h2 : takC 4 b with
    | none =>
      obtain rfl := hr.of_none (by rw [h2]; rfl)
      have A2 := hid (A1.out.no (V := NV w.heap.size) hr.grown (HE.out.trans (by rw [K1.out, h2]; rfl)))
      clear hr H2 h2 HE A1
      go_wp2
      exact ⟨rfl, A2.out⟩
    | some x2 =>
      obtain ⟨v2, rfl, hv, hd⟩ := hr.of_some (by rw [h2]; rfl)
      have hl2 := takC_len h2
      rw [show fieldsL.getD (Int.toNat 4) 0 = 3 by decide] at hl2
      obtain ⟨m2, s2, z2, rfl⟩ := len3 (f := x2) (by omega)
      clear hl2
      have V2 := hid hv
      obtain ⟨b2, o2, cap2, rfl, hcl2, hcm2, hbl2⟩ := hv.has3
      have A2 := hid (A1.out.step hr.grown hd)
      have K2 := hid h2
      clear hr hd H2 h2 A1 hv
      have HO : Hid (oo = some (⟨10, [m1, s1, z1, m2, s2, z2]⟩, [])) := hid (HE.out.trans (by rw [K1.out, K2.out]; rfl))
      have AL := hid (A2.out.up (up_alloc _ (.cells #[.slice (some ⟨b1, o1, none⟩) 3 cap1, .slice (some ⟨b2, o2, none⟩) 3 cap2] 22)))
      have HC := hid (concat_any m1 s1 z1 m2 s2 z2 _ _ w2.heap.size (w2.alloc (.cells #[.slice (some ⟨b1, o1, none⟩) 3 cap1, .slice (some ⟨b2, o2, none⟩) 3 cap2] 22)) ((V1.out.on A2.out.dd.base).on (up_alloc _ _)) ((V2.out.on A2.out.dd.base).on (up_alloc _ _)) (by simp) (by rw [cell_of_row (new_row _ _)]; rfl) (by rw [cell_of_row (new_row _ _)]; rfl))
      have hs := AL.out.size
      clear HE K1 K2 V1 V2
      go_wp2_with fail
      refine HC.out.mono ?_
      rintro e w3 ⟨v, rfl, hr, hu⟩
      have A3 := hid (AL.out.up hu)
      have HN := hid ((hr.na (by simp)).low (show w.heap.size + 1 ≤ _ from hs))
      obtain ⟨ad3, cap3, rfl, _⟩ := (hr.na (by simp)).ia.shape
      clear hr hu HC AL A2 hs
      rw [show [m1, s1, z1, m2, s2, z2].length = 6 from rfl] at *
      go_wp2_with fail
      refine (value_any _ _ _ _ _).mono ?_
      rintro e wv ⟨rfl, hb⟩
      have AV := hid (A3.out.up hb)
      have Y := hid (AV.out.yes (x := ⟨10, [m1, s1, z1, m2, s2, z2]⟩) ⟨_, rfl, HN.out.on hb⟩ HO.out)
      have c0 := AV.out.c0
      have c1 := AV.out.c1
      have f0 := AV.out.fz 0
      have f1 := AV.out.fz 1
      clear hb HN AV A3
      go_wp2
      refine bodyPost_ret (v := .agg #[.int .i64 10, .slice ad3 6 cap3]) (results_cell_row rfl _ _ w.heap.size 27 _ (0, 0) _ rfl Y.out.1 Tryz.underlying27 rfl (by kernel_rfl)) rfl Y.out.2

set_option maxRecDepth 8000 in
set_option maxHeartbeats 2000000 in
theorem pick_any (a : Val) (w : World) (h : DD p W0 g op r [a] w) :
    Calls Tryz.prog 36 #[.pointer (some ⟨g, 0, none⟩)] w (Ret p W0 g op r w (NV w.heap.size) ((pickO a).map (fun z => (z, [])))) := by
  have A0 := hid (At.start h)
  have H1 := hid (next_any a [] _ A0.out.dd)
  have HO : Hid ((pickO a).map (fun z => (z, ([] : List Val))) = some (a, [])) := hid rfl
  generalize (pickO a).map (fun z => (z, ([] : List Val))) = oo at *
  clear h
  go_enter Tryz.func36, Tryz.ntmps36
  go_wp2_with fail
  refine H1.out.mono ?_
  intro e w1 hr
  obtain ⟨v1, rfl, hv, hd⟩ := hr.of_some rfl
  have A1 := hid (A0.out.step hr.grown hd)
  have hs1 := A1.out.size
  obtain ⟨k, f⟩ := a
  obtain ⟨fv, rfl, hf⟩ := hv
  have HF := hid (hf.on hd.base)
  obtain ⟨ad, cap, rfl, hc1, hc2, hc3⟩ := hf.shape
  have A2 := hid (A1.out.up (up_alloc _ (.cells #[.int .i64 k, .slice ad f.length cap] 27)))
  have HF2 := hid (HF.out.on (up_alloc w1 (.cells #[.int .i64 k, .slice ad f.length cap] 27)))
  have X2 := hid (new_row w1 (.cells #[.int .i64 k, .slice ad f.length cap] 27))
  have HL := hid hc3
  dsimp only at *
  clear hr hd H1 A0 hf HF A1 hc3
  generalize hn : f.length = n at *
  have HLN := hid hn
  clear hn
  obtain ⟨w2, hw2⟩ : ∃ w2, w2 = w1.alloc (.cells #[.int .i64 k, .slice ad n cap] 27) := ⟨_, rfl⟩
  have hs2 : w2.heap.size = w1.heap.size + 1 := by rw [hw2]; simp
  rw [← hw2] at A2 HF2 X2
  go_wp2_with fail
  rw [← hw2]
  have hb2 := hid hw2
  clear hw2 hb2
  have e0 : w2.cell? ⟨w1.heap.size, 0, none⟩ = some (.int .i64 k) := by rw [cell_of_row X2.out]; rfl
  have e1 : w2.cell? ⟨w1.heap.size, 1, none⟩ = some (.slice ad n cap) := by rw [cell_of_row X2.out]; rfl
  have E0 := hid e0
  go_region_law (first
    | (refine step_append_ia _ rfl (.const (.slice none 0 0)) (.tmp 9) rfl w2.heap.size (.slice none 0 0) [] (by simp [Act.eval]) (RN.nil _ _) (.slice ad n cap) f (by simp [Act.eval]) (HF2.out.on (Below.refl _ _).drew) (by have h1 := HL.out; have h2 := HLN.out; simp; omega) (by simp) ?_
       intro v3 w3 hr3 hu3
       rw [List.nil_append] at hr3
       have HR3 := hid hr3
       have A3 := hid ((A2.out.up (Below.refl _ _).drew).up hu3)
       have e0 : w3.cell? ⟨w1.heap.size, 0, none⟩ = some (.int .i64 k) := (hu3.cell (p := ⟨w1.heap.size, 0, none⟩) (by simp [hs2])).trans E0.out
       obtain ⟨ad3, cap3, rfl, _⟩ := (hr3.na (by have h1 := HL.out; have h2 := HLN.out; simp; omega)).ia.shape
       clear hr3 hu3)
    | (go_simp
       go_at_call 32
       refine (value_any _ _ _ _ _).mono ?_
       rintro e wv ⟨rfl, hb⟩
       have AV := hid (A3.out.up hb)
       have Y := hid (AV.out.yes (x := ⟨k, f⟩) ⟨_, rfl, ((HR3.out.na (by have h1 := HL.out; have h2 := HLN.out; simp; omega)).low (show w.heap.size + 1 ≤ w2.heap.size by omega)).on hb⟩ HO.out)
       have c0 := AV.out.c0
       have c1 := AV.out.c1
       have f0 := AV.out.fz 0
       have f1 := AV.out.fz 1
       clear hb))
  all_goals
    go_wp2
    refine bodyPost_ret (v := .agg #[.int .i64 k, .slice ad3 f.length cap3]) (results_cell_row rfl _ _ w.heap.size 27 _ (0, 0) _ rfl Y.out.1 Tryz.underlying27 rfl (by kernel_rfl)) rfl Y.out.2
end
end Go.Proofs.YtengcdodoblabaaGreatDoor
