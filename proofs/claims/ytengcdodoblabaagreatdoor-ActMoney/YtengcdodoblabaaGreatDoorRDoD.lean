/- The reference's Do, of whatever it makes. -/
import Derived.Test.YtengcdodoblabaaGreatDoorRDoA
import Derived.Test.YtengcdodoblabaaGreatDoorMade
import Derived.Test.YtengcdodoblabaaGreatDoorRefR2
import Derived.Deep.AppendLies
import Derived.Laws.OwnMore
namespace Go.Proofs.YtengcdodoblabaaGreatDoor
open Go.RowKit

theorem rowC_append : ∀ (l : List (Int × Value)) (x : Int × Value), rowC (l ++ [x]) = rowC l ++ [.int .i64 x.1, x.2]
  | [], _ => rfl
  | y :: l, x => by show Value.int .i64 y.1 :: y.2 :: rowC (l ++ [x]) = _; rw [rowC_append l x]; rfl
theorem own_ge {w : World} {B n s : Nat} {e : TypeId} {v : Value} {xs : List Value} (h : w.ownsRow B e s v n xs) : ∀ g, v.ownBlock = some g → B ≤ g := by
  intro g hg
  obtain ⟨_, ⟨rfl, _⟩ | ⟨g', cap, cur, rfl, hB, _⟩⟩ := h
  · cases hg
  · injection hg with hg; rw [← hg]; exact hB
theorem own_up {w w' : World} {B n s : Nat} {e : TypeId} {v : Value} {xs : List Value} (h : w.ownsRow B e s v n xs) (hb : Below w.heap.size w w') : w'.ownsRow B e s v n xs := by
  refine World.ownsRow.kept (row := none) h ⟨hb.os, hb.tape, hb.output, hb.size, fun k hk _ => hb.block k hk⟩ ?_
  cases hv : v.ownBlock with
  | none => exact .inl rfl
  | some k => exact .inr (by simp)
theorem info_val : (Tryz.prog.info? 27).map (fun i => (i.zero, i.size, i.bytes)) = some (some (.agg #[.int .i64 0, .slice none 0 0]), 2, 32) := by kernel_rfl
theorem choose_row {α : Type} {P : Nat → α → Prop} : ∀ n, (∀ j, j < n → ∃ x, P j x) → ∃ l : List α, l.length = n ∧ ∀ j x, l[j]? = some x → P j x
  | 0, _ => ⟨[], rfl, fun j x h => by simp at h⟩
  | n + 1, h => by
    obtain ⟨l, hl, hp⟩ := choose_row n (fun j hj => h j (by omega))
    obtain ⟨x, hx⟩ := h n (by omega)
    refine ⟨l ++ [x], by simp [hl], fun j y hy => ?_⟩
    by_cases hj : j < l.length
    · rw [List.getElem?_append_left hj] at hy; exact hp j y hy
    · rw [List.getElem?_append_right (by omega)] at hy
      have : j - l.length = 0 := by
        by_cases h0 : j - l.length = 0
        · exact h0
        · rw [List.getElem?_eq_none (by simp; omega)] at hy; cases hy
      rw [this] at hy
      obtain rfl : x = y := by simpa using hy
      obtain rfl : j = n := by omega
      exact hx
/-- The cells of a value that lies in memory. -/
def CellOf (w : World) (x : Int × Value) (c : Val) : Prop := x.1 = c.kind ∧ IA w x.2 c.f
theorem row_la {w : World} {B n : Nat} {v : Value} {ks : List (Int × Value)} {cs : List Val} (h : w.ownsRow B 27 2 v n (rowC ks)) (hn : n = cs.length) (hl : ks.length = cs.length) (hc : ∀ j x, ks[j]? = some x → CellOf w x (cs.getD j nilVal)) (hj : cs.length ≤ 1000) : LA w v cs := by
  subst hn
  obtain ⟨_, ⟨rfl, h0⟩ | ⟨g, cap, cur, rfl, _, hg, h1, h2, h3, h4⟩⟩ := h
  · have : cs = [] := List.length_eq_zero_iff.1 h0
    subst this
    exact ⟨none, 0, rfl, ⟨by decide, by decide, by decide⟩, .inl ⟨rfl, rfl, rfl⟩⟩
  · refine ⟨some ⟨g, 0, none⟩, cap, rfl, ⟨by omega, h1, h2⟩, .inr ⟨g, 0, rfl, (Array.getElem?_eq_some_iff.1 hg).1, fun i hi => ?_⟩⟩
    obtain ⟨x, hx⟩ : ∃ x, ks[i]? = some x := ⟨_, List.getElem?_eq_getElem (by omega)⟩
    obtain ⟨e1, e2⟩ := rowC_at _ i _ hx
    obtain ⟨c1, c2⟩ := hc i x hx
    have t1 := congrArg (·[i * 2]?) h4
    have t2 := congrArg (·[i * 2 + 1]?) h4
    rw [List.getElem?_take] at t1 t2
    rw [if_pos (by omega)] at t1 t2
    refine ⟨x.2, ?_, ?_, c2⟩
    · rw [Nat.zero_add, cell_of_row hg, ← Array.getElem?_toList, t1, ← c1]; exact e1
    · rw [Nat.zero_add, cell_of_row hg, ← Array.getElem?_toList, t2]; exact e2

set_option maxRecDepth 8000 in
set_option maxHeartbeats 8000000 in
theorem rDo_any (k : Nat) (r : Mom) (l : List Val) (ps : List Int) (pv lv : Value) (o : Option Val) (w : World) (hk : k ≠ 0) (hp : IA w pv ps) (hl : LA w lv l) (hq : ∀ q ∈ ps, 0 ≤ q ∧ q < (l.length : Int)) (h0 : 0 < ps.length) (h1 : ps.length ≤ 100)
    (HM : ∀ g n cap w', LA w' (.slice (some ⟨g, 0, none⟩) n cap) (ps.map (fun q => l.getD q.toNat nilVal)) → Below w.heap.size w w' → Calls Tryz.prog 23 #[.int .i64 k, .slice (some ⟨g, 0, none⟩) n cap, momV r] w' (RetR w' o)) :
    Calls Tryz.prog 12 #[.agg #[.int .i64 k, pv], lv, momV r] w (DoneT w (doO k o)) := by
  obtain ⟨cs, hcs⟩ : ∃ cs, cs = ps.map (fun q => l.getD q.toNat nilVal) := ⟨_, rfl⟩
  rw [← hcs] at HM
  have hcl : cs.length = ps.length := by rw [hcs]; simp
  obtain ⟨gp, op, capp, rfl, p1, p2, hpg, hpc⟩ := hp.has h0
  obtain ⟨adl, capl, rfl, ⟨l1, l2, l3⟩, hl'⟩ := hl
  have hcells : ∀ j, j < ps.length → ∃ x : (Int × Value) × (Nat × Option Addr × Nat × Nat), ∃ gl ol, adl = some ⟨gl, ol, none⟩ ∧ gl < w.heap.size ∧ ps.getD j 0 = (x.2.1 : Int) ∧ x.2.1 < l.length ∧ x.1.2 = .slice x.2.2.1 x.2.2.2.1 x.2.2.2.2 ∧ w.cell? ⟨gl, ol + x.2.1 * 2, none⟩ = some (.int .i64 x.1.1) ∧ w.cell? ⟨gl, ol + x.2.1 * 2 + 1, none⟩ = some x.1.2 ∧ CellOf w x.1 (cs.getD j nilVal) := by
    intro j hj
    have hm : ps.getD j 0 ∈ ps := by rw [List.getD_eq_getElem?_getD, List.getElem?_eq_getElem hj]; exact List.getElem_mem hj
    obtain ⟨q0, q1⟩ := hq _ hm
    obtain ⟨q, hqq⟩ := Int.eq_ofNat_of_zero_le q0
    rcases hl' with ⟨_, _, e⟩ | ⟨gl, ol, e, hgl, hc⟩
    · have : (l.length : Int) = 0 := by rw [e]; rfl
      omega
    · obtain ⟨fv, c1, c2, c3⟩ := hc q (by omega)
      have hcj : cs.getD j nilVal = l.getD q nilVal := by
        rw [hcs, List.getD_eq_getElem?_getD, List.getElem?_map, List.getElem?_eq_getElem hj]
        have : ps[j] = (q : Int) := by rw [← hqq, List.getD_eq_getElem?_getD, List.getElem?_eq_getElem hj]; rfl
        show l.getD (ps[j]).toNat nilVal = _
        rw [this, Int.toNat_natCast]
      obtain ⟨ad, cap, e3, _⟩ := c3.shape
      exact ⟨(((l.getD q nilVal).kind, fv), (q, ad, (l.getD q nilVal).f.length, cap)), gl, ol, e, hgl, hqq, (show q < l.length by omega), e3, c1, c2, by rw [hcj]; exact ⟨rfl, c3⟩⟩
  obtain ⟨xs, hxl, hxs⟩ := choose_row ps.length hcells
  have HX := hid hxs
  have HPC := hid hpc
  have HCO := hid (show ∀ j x, (xs.map (·.1))[j]? = some x → CellOf w x (cs.getD j nilVal) from fun j x hx => by
    rw [List.getElem?_map] at hx
    obtain ⟨y, hy, rfl⟩ := Option.map_eq_some_iff.1 hx
    obtain ⟨gl, ol, _, _, _, _, _, _, _, hc⟩ := hxs j y hy
    exact hc)
  have HMM := hid HM
  have HDO : Hid (doO k o = o.bind fun x => if k = 0 ∨ rightB x = true then some x else none) := hid rfl
  generalize doO k o = dO at *
  have HCL := hid hcl
  generalize hnp : ps.length = np at *
  generalize hnl : l.length = nl at *
  clear hcs hl' hcells hxs hpc hq HM hcl
  unfold momV
  obtain ⟨i2, hi2, hz2, hs2, hby2⟩ := info_parts info_val
  obtain ⟨wA, hwA⟩ : ∃ wA, wA = ((w.alloc (.cells #[.int .i64 k, .slice (some ⟨gp, op, none⟩) np capp] 30)).alloc (.cells #[.int .i64 r.y, .int .i64 r.m, .int .i64 r.d, .int .i64 r.h, .int .i64 r.i, .int .i64 r.s] 32)).alloc (.cells #[.int .i64 0, .slice none 0 0] 27) := ⟨_, rfl⟩
  have hsA : wA.heap.size = w.heap.size + 3 := by rw [hwA]; simp
  have HBA := hid (show Below w.heap.size w wA by rw [hwA]; exact up_trans (up_trans (up_alloc _ _) (up_alloc _ _)) (up_alloc _ _))
  have KA := hid (show wA.heap[w.heap.size]? = some (.cells #[.int .i64 k, .slice (some ⟨gp, op, none⟩) np capp] 30 (0, 0)) by rw [hwA]; exact row_up (row_up (new_row _ _)))
  have KM := hid (show wA.heap[w.heap.size + 1]? = some (.cells #[.int .i64 r.y, .int .i64 r.m, .int .i64 r.d, .int .i64 r.h, .int .i64 r.i, .int .i64 r.s] 32 (0, 0)) by rw [hwA]; exact row_up (row_at (by simp)))
  have KZ := hid (show wA.heap[w.heap.size + 1 + 1]? = some (.cells #[.int .i64 0, .slice none 0 0] 27 (0, 0)) by rw [hwA]; exact row_at (by simp))
  have HSA := hid hsA
  clear hsA
  go_enter Tryz.func12, Tryz.ntmps12
  go_wp2
  rw [← hwA]
  clear hwA
  go_loopw [8, 9] (fun v8 v9 wr => ∃ (j : Nat) (ov : Value), j ≤ np ∧ v9 = .int .i64 j ∧ v8 = ov ∧ Hid (wr.ownsRow wA.heap.size 27 2 ov j (rowC ((xs.map (·.1)).take j))) ∧ Hid (Below wA.heap.size wA wr)) (fun _ v9 _ => np - (intOf v9).toNat)
  case atStart => exact ⟨0, _, by omega, rfl, rfl, hid (World.ownsRow_nil _ _ _ _), hid (Below.refl _ _)⟩
  case round =>
    obtain ⟨j, ov, hj, rfl, hov, HO, HB⟩ := hrel
    obtain rfl := hov.symm
    have ca := row_on HB.out KA.out
    have c1 : wr.cell? ⟨w.heap.size, 1, none⟩ = some (.slice (some ⟨gp, op, none⟩) np capp) := by rw [cell_of_row ca]; rfl
    have c0 : wr.cell? ⟨w.heap.size, 0, none⟩ = some (.int .i64 k) := by rw [cell_of_row ca]; rfl
    clear ca
    by_cases hlt : j < np
    case pos =>
      have hlt2 : (j : Int) < (np : Int) := by omega
      obtain ⟨⟨⟨kx, fx⟩, q, ad, n, cap⟩, hx⟩ : ∃ x, xs[j]? = some x := ⟨_, List.getElem?_eq_getElem (by omega)⟩
      obtain ⟨gl, ol, rfl, hgl, hqj, hql, hfx, g1, g2, _⟩ := HX.out j _ hx
      dsimp only at hqj hql hfx g1 g2
      subst hfx
      have HW := hid (up_trans HBA.out HB.out)
      have d0 : wr.cell? ⟨gp, op + j, none⟩ = some (.int .i64 (q : Int)) := by rw [← hqj]; exact (HW.out.cell (p := ⟨gp, op + j, none⟩) hpg).trans (HPC.out j hlt)
      have d1 := (HW.out.cell (p := ⟨gl, ol + q * 2, none⟩) hgl).trans g1
      have d2 := (HW.out.cell (p := ⟨gl, ol + q * 2 + 1, none⟩) hgl).trans g2
      have hql2 : (q : Int) < (nl : Int) := by omega
      have htk : (xs.map (·.1)).take (j + 1) = (xs.map (·.1)).take j ++ [(kx, Value.slice ad n cap)] := by
        rw [List.take_add_one, List.getElem?_map, hx]; rfl
      have HTK := hid htk
      have HNR := hid (new_row wr (.cells #[.int .i64 kx, .slice ad n cap] 27))
      clear g1 g2 hqj htk hx
      go_wp2_with (at_builtin; (refine wpList_append_lies _ rfl (.tmp 19) (.tmp 28) 24 rfl wA.heap.size 27 i2 _ 2 32 Tryz.underlying24 hi2 hz2 hs2 hby2 rfl (by decide) ov j (rowC ((xs.map (·.1)).take j)) (by simp [Act.eval]) (own_up HO.out (up_alloc wr (.cells #[.int .i64 kx, .slice ad n cap] 27))) ⟨wr.heap.size, 0, none⟩ 1 1 [.int .i64 kx, .slice ad n cap] (by simp [Act.eval]) rfl (World.news_of_block HNR.out) (by simp [Value.oneCell']) (by decide) (by unfold maxLen; omega) (by omega) (up_trans HB.out (up_alloc wr (.cells #[.int .i64 kx, .slice ad n cap] 27))).size _ rfl ?_; intro g3 cap3 w3 hown hgrow hat hlt3; have HO3 := hid (show w3.ownsRow wA.heap.size 27 2 (.slice (some ⟨g3, 0, none⟩) (j + 1) cap3) (j + 1) (rowC ((xs.map (·.1)).take (j + 1))) by rw [HTK.out, rowC_append]; exact hown); have HB3 := hid (show Below wA.heap.size wA w3 from ((up_trans HB.out (up_alloc wr (.cells #[.int .i64 kx, .slice ad n cap] 27)))).trans (below_grown hgrow (up_trans HB.out (up_alloc wr (.cells #[.int .i64 kx, .slice ad n cap] 27))).size (own_ge HO.out))); clear hown hgrow hat hlt3))
      go_round
      case rel => exact ⟨j + 1, _, by omega, by simp, rfl, HO3, HB3⟩
      case measure => simp [intOf]; omega
    case neg =>
      obtain rfl : j = np := by omega
      have hk' : ((k : Int) == 0) = false := by simp; omega
      have cm := row_on HB.out KM.out
      have m0 : wr.cell? ⟨w.heap.size + 1, 0, none⟩ = some (.int .i64 r.y) := by rw [cell_of_row cm]; rfl
      have m1 : wr.cell? ⟨w.heap.size + 1, 1, none⟩ = some (.int .i64 r.m) := by rw [cell_of_row cm]; rfl
      have m2 : wr.cell? ⟨w.heap.size + 1, 2, none⟩ = some (.int .i64 r.d) := by rw [cell_of_row cm]; rfl
      have m3 : wr.cell? ⟨w.heap.size + 1, 3, none⟩ = some (.int .i64 r.h) := by rw [cell_of_row cm]; rfl
      have m4 : wr.cell? ⟨w.heap.size + 1, 4, none⟩ = some (.int .i64 r.i) := by rw [cell_of_row cm]; rfl
      have m5 : wr.cell? ⟨w.heap.size + 1, 5, none⟩ = some (.int .i64 r.s) := by rw [cell_of_row cm]; rfl
      obtain ⟨gv, capv, ev, _, _⟩ := World.ownsRow.form HO.out h0
      subst ev
      have HW := hid (up_trans HBA.out HB.out)
      have HLA := hid (row_la (cs := cs) HO.out HCL.out.symm (by rw [List.length_take, List.length_map, hxl, HCL.out]; omega) (fun i x hx => by
        have hx2 : (xs.map (·.1))[i]? = some x := by
          rw [List.getElem?_take] at hx
          split at hx
          · exact hx
          · cases hx
        obtain ⟨e1, e2⟩ := HCO.out i x hx2
        exact ⟨e1, e2.on HW.out⟩) (by rw [HCL.out]; omega))
      have HMC := hid (HMM.out gv _ _ wr HLA.out HW.out)
      have KZ1 := hid (row_on HB.out KZ.out)
      clear cm HMM HLA HO HCO HX HPC KA KM KZ HBA
      go_wp2_with fail
      refine HMC.out.mono ?_
      rintro e w1 ⟨hb1, hr⟩
      have HB1 := hid (up_trans HW.out hb1)
      have KZ2 := hid (row_on hb1 KZ1.out)
      have hwr3 : w.heap.size + 3 ≤ wr.heap.size := by have := HB.out.size; have := HSA.out; omega
      cases o with
      | none =>
        obtain ⟨kz, ad, nz, cap, rfl⟩ := hr
        obtain rfl : dO = none := HDO.out
        clear hb1 HMC m0 m1 m2 m3 m4 m5 c0 c1
        obtain ⟨w2, hw2⟩ : ∃ w2, w2 = w1.alloc (.cells #[.int .i64 kz, .slice ad nz cap] 27) := ⟨_, rfl⟩
        have KZ3 := hid (show w2.heap[w.heap.size + 1 + 1]? = some (.cells #[.int .i64 0, .slice none 0 0] 27 (0, 0)) by rw [hw2]; exact row_up KZ2.out)
        have HB2 := hid (show Below w.heap.size w w2 by rw [hw2]; exact up_trans HB1.out (up_alloc _ _))
        have z0 : w2.cell? ⟨w.heap.size + 1 + 1, 0, none⟩ = some (.int .i64 0) := by rw [cell_of_row KZ3.out]; rfl
        have z1 : w2.cell? ⟨w.heap.size + 1 + 1, 1, none⟩ = some (.slice none 0 0) := by rw [cell_of_row KZ3.out]; rfl
        have z2 : ∀ o, w2.frozen? ⟨w.heap.size + 1 + 1, o, none⟩ = false := fun o => frozen_of_row KZ3.out
        rw [hw2] at z0 z1 z2
        go_wp2
        rw [← hw2]
        refine bodyPost_ret (results_cell_tmp rfl _ _ (w.heap.size + 1 + 1) _ rfl (run_loadVar_row _ _ 27 27 _ (0, 0) _ (heap_setCell_same _ _ 1 _ _ (.slice none 0 0) (heap_setCell_same _ _ 0 _ _ (.int .i64 0) KZ3.out)) Tryz.underlying27 rfl (by kernel_rfl))) rfl ?_
        exact DoneT.no rfl ((HB2.out.setCell (p := ⟨w.heap.size + 1 + 1, 0, none⟩) (by simp; omega) _).setCell (p := ⟨w.heap.size + 1 + 1, 1, none⟩) (by simp; omega) _)
      | some x =>
        obtain ⟨v, rfl, hv⟩ := hr
        obtain ⟨kx, f⟩ := x
        have HV := hid hv
        obtain ⟨fv, rfl, hf⟩ := hv
        obtain ⟨ad, cap, rfl, _⟩ := hf.ia.shape
        have HD2 := hid (show dO = if k = 0 ∨ rightB ⟨kx, f⟩ = true then some ⟨kx, f⟩ else none from HDO.out)
        dsimp only at HV hf ⊢
        have HSZ1 := hid (hwr3 : w.heap.size + 3 ≤ wr.heap.size)
        clear hf hb1 HMC m0 m1 m2 m3 m4 m5 c0 c1 HDO
        obtain ⟨w2, hw2⟩ : ∃ w2, w2 = w1.alloc (.cells #[.int .i64 kx, .slice ad f.length cap] 27) := ⟨_, rfl⟩
        have hal := up_alloc w1 (.cells #[.int .i64 kx, .slice ad f.length cap] 27)
        rw [← hw2] at hal
        have KZ3 := hid (row_on hal KZ2.out)
        have KV := hid (show w2.heap[w1.heap.size]? = some (.cells #[.int .i64 kx, .slice ad f.length cap] 27 (0, 0)) by rw [hw2]; exact new_row _ _)
        have HB2 := hid (up_trans HB1.out hal)
        have HV2 := hid (HV.out.on hal)
        have HRX := hid (rright_any ⟨kx, f⟩ _ w2 HV2.out.va)
        clear hal hwr3
        go_wp2_with fail
        rw [← hw2]
        clear hw2
        refine HRX.out.mono ?_
        rintro e w3 ⟨rfl, hb3⟩
        have KZ4 := hid (row_on hb3 KZ3.out)
        have KV4 := hid (row_on hb3 KV.out)
        have HB3 := hid (up_trans HB2.out hb3)
        have HV3 := hid (HV2.out.on hb3)
        have z0 : w3.cell? ⟨w.heap.size + 1 + 1, 0, none⟩ = some (.int .i64 0) := by rw [cell_of_row KZ4.out]; rfl
        have z1 : w3.cell? ⟨w.heap.size + 1 + 1, 1, none⟩ = some (.slice none 0 0) := by rw [cell_of_row KZ4.out]; rfl
        have z2 : ∀ o, w3.frozen? ⟨w.heap.size + 1 + 1, o, none⟩ = false := fun o => frozen_of_row KZ4.out
        have y0 : w3.cell? ⟨w1.heap.size, 0, none⟩ = some (.int .i64 kx) := by rw [cell_of_row KV4.out]; rfl
        have y1 : w3.cell? ⟨w1.heap.size, 1, none⟩ = some (.slice ad f.length cap) := by rw [cell_of_row KV4.out]; rfl
        clear hb3 HRX
        by_cases hrx : rightB ⟨kx, f⟩ = true
        case neg =>
          have hrf : rightB ⟨kx, f⟩ = false := by simpa using hrx
          obtain rfl : dO = none := by rw [HD2.out, if_neg]; rintro (h | h); exact hk h; exact hrx h
          rw [hrf]
          generalize f.length = nf at *
          go_wp2
          refine bodyPost_ret (results_cell_tmp rfl _ _ (w.heap.size + 1 + 1) _ rfl (run_loadVar_row _ _ 27 27 _ (0, 0) _ (heap_setCell_same _ _ 1 _ _ (.slice none 0 0) (heap_setCell_same _ _ 0 _ _ (.int .i64 0) KZ4.out)) Tryz.underlying27 rfl (by kernel_rfl))) rfl ?_
          exact DoneT.no rfl ((HB3.out.setCell (p := ⟨w.heap.size + 1 + 1, 0, none⟩) (by simp; omega) _).setCell (p := ⟨w.heap.size + 1 + 1, 1, none⟩) (by simp; omega) _)
        case pos =>
          obtain rfl : dO = some ⟨kx, f⟩ := by rw [HD2.out, if_pos (Or.inr hrx)]
          rw [hrx]
          go_wp2
          refine bodyPost_ret (results_cell_tmp rfl _ _ (w.heap.size + 1 + 1) _ rfl (run_loadVar_row _ _ 27 27 _ (0, 0) _ (heap_setCell_same _ _ 1 _ _ (.slice ad f.length cap) (heap_setCell_same _ _ 0 _ _ (.int .i64 kx) KZ4.out)) Tryz.underlying27 rfl (by kernel_rfl))) rfl ?_
          exact DoneT.yes rfl ((HB3.out.setCell (p := ⟨w.heap.size + 1 + 1, 0, none⟩) (by simp; omega) _).setCell (p := ⟨w.heap.size + 1 + 1, 1, none⟩) (by simp; omega) _) (((HV3.out.set (by have := HSZ1.out; omega)).set (by have := HSZ1.out; omega)).low (by have := HSZ1.out; omega))
end Go.Proofs.YtengcdodoblabaaGreatDoor
