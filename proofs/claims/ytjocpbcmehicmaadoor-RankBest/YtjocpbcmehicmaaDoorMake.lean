/- law10's Make: of any numbers readings; a row of them that the call itself made. -/
import Derived.Test.YtjocpbcmehicmaaDoorVal
import Derived.Deep.AppendLies
import Derived.Laws.OwnMore
namespace Go.Proofs.YtjocpbcmehicmaaDoor
open Go.RowKit

def rowR : List (Value × Rd) → List Value
  | [] => []
  | p :: l => .int .i64 p.2.v.kind :: p.1 :: .int .i64 p.2.cost :: rowR l
theorem rowR_app : ∀ (l : List (Value × Rd)) (p : Value × Rd), rowR (l ++ [p]) = rowR l ++ [.int .i64 p.2.v.kind, p.1, .int .i64 p.2.cost]
  | [], _ => rfl
  | q :: l, p => by show _ :: _ :: _ :: rowR (l ++ [p]) = _; rw [rowR_app l p]; rfl
theorem rowR_len : ∀ l : List (Value × Rd), (rowR l).length = l.length * 3
  | [] => rfl
  | q :: l => by show (rowR l).length + 1 + 1 + 1 = (l.length + 1) * 3; rw [rowR_len l]; omega
theorem rowR_get : ∀ (l : List (Value × Rd)) (j : Nat) (p : Value × Rd), l[j]? = some p → (rowR l)[j * 3]? = some (.int .i64 p.2.v.kind) ∧ (rowR l)[j * 3 + 1]? = some p.1 ∧ (rowR l)[j * 3 + 2]? = some (.int .i64 p.2.cost)
  | [], j, p, h => by simp at h
  | q :: l, 0, p, h => by
    obtain rfl : q = p := by simpa using h
    exact ⟨rfl, rfl, rfl⟩
  | q :: l, j + 1, p, h => by
    obtain ⟨a, b, c⟩ := rowR_get l j p (by simpa using h)
    rw [show (j + 1) * 3 = j * 3 + 3 by omega]
    exact ⟨a, b, c⟩
theorem rowR_one : ∀ l : List (Value × Rd), (∀ p ∈ l, p.1.oneCell' = true) → ∀ v ∈ rowR l, v.oneCell' = true
  | [], _, v, h => by simp [rowR] at h
  | q :: l, hl, v, h => by
    simp only [rowR, List.mem_cons] at h
    rcases h with rfl | rfl | rfl | h
    · rfl
    · exact hl q (by simp)
    · rfl
    · exact rowR_one l (fun p hp => hl p (by simp [hp])) v h
theorem NA.lt {B : Nat} {w : World} {v : Value} {xs : List Int} (h : NA B w v xs) {b : Nat} (hb : v.ownBlock = some b) : B ≤ b ∧ b < w.heap.size := by
  rcases h with ⟨_, rfl⟩ | ⟨c, cap, cs, t, rfl, _, h1, h2, _⟩
  · cases hb
  · injection hb with hb
    subst hb
    exact ⟨h1, (Array.getElem?_eq_some_iff.1 h2).1⟩
theorem NA.of_block {B : Nat} {w w' : World} {v : Value} {xs : List Int} (h : NA B w v xs) (hb : ∀ b, v.ownBlock = some b → w'.heap[b]? = w.heap[b]?) : NA B w' v xs := by
  rcases h with h | ⟨c, cap, cs, t, rfl, h0, h1, h2, h3⟩
  · exact .inl h
  · exact .inr ⟨c, cap, cs, t, rfl, h0, h1, (hb c rfl).trans h2, h3⟩

/-- A row of readings that the call itself made, its numbers elsewhere. -/
structure RW (B : Nat) (w : World) (v : Value) (ps : List (Value × Rd)) : Prop where
  row : w.ownsRow B 36 3 v ps.length (rowR ps)
  nums : ∀ p ∈ ps, NA B w p.1 p.2.v.f ∧ ∀ b, p.1.ownBlock = some b → v.ownBlock ≠ some b
theorem RW.nil (B : Nat) (w : World) : RW B w (.slice none 0 0) [] := ⟨World.ownsRow_nil _ _ _ _, fun p hp => by simp at hp⟩
theorem RW.on {B : Nat} {w w' : World} {v : Value} {ps : List (Value × Rd)} (h : RW B w v ps) (hb : Below w.heap.size w w') : RW B w' v ps := by
  refine ⟨World.ownsRow.kept (row := none) h.row ⟨hb.os, hb.tape, hb.output, hb.size, fun k hk _ => hb.block k hk⟩ ?_, fun p hp => ⟨(h.nums p hp).1.on hb, (h.nums p hp).2⟩⟩
  cases hv : v.ownBlock with
  | none => exact .inl rfl
  | some k => exact .inr (by simp)
theorem RW.ra {B : Nat} {w : World} {v : Value} {ps : List (Value × Rd)} (h : RW B w v ps) (hl : ps.length ≤ 1000000) : RA w v (ps.map Prod.snd) := by
  obtain ⟨_, ⟨rfl, h0⟩ | ⟨g, cap, cur, rfl, hB, hg, h1, h2, h3, h4⟩⟩ := h.row
  · obtain rfl : ps = [] := List.length_eq_zero_iff.1 h0
    exact ⟨none, 0, rfl, ⟨by decide, by decide, by decide⟩, .inl ⟨rfl, rfl, rfl⟩⟩
  · refine ⟨_, cap, by rw [List.length_map], by rw [List.length_map]; exact ⟨hl, h1, h2⟩, .inr ⟨g, 0, rfl, (Array.getElem?_eq_some_iff.1 hg).1, fun j hj => ?_⟩⟩
    rw [List.length_map] at hj
    have hp : ps[j]? = some ps[j] := List.getElem?_eq_getElem hj
    obtain ⟨a, b, c⟩ := rowR_get ps j _ hp
    have hc : ∀ t, t < ps.length * 3 → cur[t]? = (rowR ps)[t]? := fun t ht => by
      rw [← h4, List.getElem?_take, if_pos ht, Array.getElem?_toList]
    have e : (ps.map Prod.snd).getD j nilRd = ps[j].2 := by rw [List.getD_eq_getElem?_getD, List.getElem?_map, hp]; rfl
    rw [e, Nat.zero_add]
    refine ⟨ps[j].1, ?_, ?_, ?_, (h.nums _ (List.getElem_mem hj)).1.ia⟩
    · rw [cell_of_row hg, hc _ (by omega)]; exact a
    · rw [cell_of_row hg, hc _ (by omega)]; exact b
    · rw [cell_of_row hg, hc _ (by omega)]; exact c
theorem RW.step {B : Nat} {w w' : World} {v : Value} {ps : List (Value × Rd)} (h : RW B w v ps) {fv : Value} {r : Rd} {g cap : Nat} (hn : NA B w fv r.v.f) (hne : ∀ b, fv.ownBlock = some b → v.ownBlock ≠ some b)
    (hown : w'.ownsRow B 36 3 (.slice (some ⟨g, 0, none⟩) (ps.length + 1) cap) (ps.length + 1) (rowR ps ++ [.int .i64 r.v.kind, fv, .int .i64 r.cost])) (hgr : w.grownBy w' v.ownBlock) (hg : v.ownBlock = some g ∨ g = w.heap.size) :
    RW B w' (.slice (some ⟨g, 0, none⟩) (ps.length + 1) cap) (ps ++ [(fv, r)]) := by
  have key : ∀ {u : Value} {xs : List Int}, NA B w u xs → (∀ b, u.ownBlock = some b → v.ownBlock ≠ some b) → NA B w' u xs ∧ ∀ b, u.ownBlock = some b → (Value.slice (some ⟨g, 0, none⟩) (ps.length + 1) cap).ownBlock ≠ some b := by
    intro u xs hu hv
    refine ⟨hu.of_block fun b hb => hgr.block b (hu.lt hb).2 (fun e => hv b hb e.symm), fun b hb e => ?_⟩
    injection e with e
    rcases hg with hg | hg
    · exact hv b hb (by rw [hg, ← e])
    · have := (hu.lt hb).2
      rw [← e] at this
      exact absurd hg (Nat.ne_of_lt this)
  refine ⟨by rw [List.length_append, rowR_app]; exact hown, fun p hp => ?_⟩
  rcases List.mem_append.1 hp with hp | hp
  · exact key (h.nums p hp).1 (h.nums p hp).2
  · obtain rfl : p = (fv, r) := by simpa using hp
    exact key hn hne

/-- What is made of each number. -/
def MkOk (F : Int → Rd) : Prop := ∀ n, I64 n → (VI (F n).v ∧ (F n).v.f.length ≤ 6) ∧ (F n).cost = ((n % 1099511627776).tdiv 1400) % 9 ∧
  ∀ w, Calls Tryd.prog 21 #[.int .i64 ((n % 1099511627776) % 7), .int .i64 ((n % 1099511627776).tdiv 7 % 40), .int .i64 ((n % 1099511627776).tdiv 280 % 5)] w fun e w' => ∃ u, e = .returned u ∧ NV w.heap.size w' u (F n).v ∧ Below w.heap.size w w'
theorem tm_bd (a k : Int) (h0 : 0 ≤ a) (hk : 0 < k) : 0 ≤ a.tmod k ∧ a.tmod k < k := by
  rw [Int.tmod_eq_emod_of_nonneg h0]
  exact ⟨Int.emod_nonneg _ (by omega), Int.emod_lt_of_pos _ hk⟩
theorem td_bd (a k : Int) (h0 : 0 ≤ a) (hk : 0 < k) : 0 ≤ a.tdiv k ∧ a.tdiv k ≤ a := by
  rw [Int.tdiv_eq_ediv_of_nonneg h0]
  exact ⟨Int.ediv_nonneg h0 (by omega), Int.ediv_le_self _ h0⟩
theorem mk_ex : ∃ F : Int → Rd, MkOk F := by
  have key : ∀ n : Int, ∃ r : Rd, I64 n → (VI r.v ∧ r.v.f.length ≤ 6) ∧ r.cost = ((n % 1099511627776).tdiv 1400) % 9 ∧
      ∀ w, Calls Tryd.prog 21 #[.int .i64 ((n % 1099511627776) % 7), .int .i64 ((n % 1099511627776).tdiv 7 % 40), .int .i64 ((n % 1099511627776).tdiv 280 % 5)] w fun e w' => ∃ u, e = .returned u ∧ NV w.heap.size w' u r.v ∧ Below w.heap.size w w' := by
    intro n
    have hx : 0 ≤ n % 1099511627776 ∧ n % 1099511627776 < 1099511627776 := by omega
    generalize n % 1099511627776 = x at *
    obtain ⟨v, _, hv, h⟩ := lvalue_any (x % 7) (x.tdiv 7 % 40) (x.tdiv 280 % 5) (by unfold i64; omega) (by unfold i64; omega) (by unfold i64; omega)
    exact ⟨⟨v, (x.tdiv 1400) % 9⟩, fun _ => ⟨hv, rfl, h⟩⟩
  exact ⟨fun n => (key n).choose, fun n => (key n).choose_spec⟩

set_option maxRecDepth 8000 in
set_option maxHeartbeats 8000000 in
theorem make_any (F : Int → Rd) (hF : MkOk F) (ns : List Int) (v : Value) (K : Nat) (hK : K ≤ 1000) (W0 W : World) (h : IX W0 v ns) (hW : Below W0.heap.size W0 W) :
    Calls Tryd.prog 16 #[v, .int .i64 K] W fun e w' => ∃ u, e = .returned u ∧ ∃ ps : List (Value × Rd), ps.map Prod.snd = (ns.map F).take K ∧ RW W.heap.size w' u ps ∧ Below W.heap.size W w' := by
  obtain ⟨ad, cap, rfl, h1, h2, hcell, hrange⟩ := h
  have HC := hid hcell
  have HRG := hid hrange
  have HW := hid hW
  obtain ⟨n, hn⟩ : ∃ n, n = ns.length := ⟨_, rfl⟩
  have HN := hid hn
  have n63 : n ≤ 9223372036854775807 := by unfold maxLen at h2; omega
  rw [← hn] at h1 ⊢
  clear hcell hrange hW hn h2
  go_enter Tryd.func16, Tryd.ntmps16
  go_wp2
  go_loopw [5, 6] (fun v5 v6 wr => ∃ (j : Nat) (ps : List (Value × Rd)), j ≤ n ∧ j ≤ K ∧ v6 = .int .i64 j ∧ Hid (ps.map Prod.snd = (ns.take j).map F) ∧ Hid (RW W.heap.size wr v5 ps) ∧ Hid (Below W.heap.size W wr)) (fun _ v6 _ => n - (intOf v6).toNat)
  case atStart => exact ⟨0, [], by omega, by omega, rfl, hid rfl, hid (RW.nil _ _), hid (Below.refl _ _)⟩
  case round =>
    obtain ⟨j, ps, hj, hjK, rfl, HP, HR, HB⟩ := hrel
    have fin : (n ≤ j ∨ K ≤ j) → ps.map Prod.snd = (ns.map F).take K := fun h => by
      rw [HP.out, ← List.map_take]
      rcases h with h | h
      · rw [List.take_of_length_le (by rw [← HN.out]; exact h), List.take_of_length_le (by rw [← HN.out]; omega)]
      · rw [show j = K by omega]
    have HFIN := hid fin
    clear fin
    by_cases hlt : j < n
    case neg =>
      have hlt2 : ¬ (j : Int) < (n : Int) := by omega
      go_wp2
      go_ret
      exact ⟨_, rfl, ps, HFIN.out (.inl (by omega)), HR.out, HB.out⟩
    case pos =>
    have hlt2 : (j : Int) < (n : Int) := by omega
    by_cases hltK : j < K
    case neg =>
      have hltK2 : ¬ (j : Int) < (K : Int) := by omega
      go_wp2
      go_ret
      exact ⟨_, rfl, ps, HFIN.out (.inr (by omega)), HR.out, HB.out⟩
    case pos =>
    have hltK2 : (j : Int) < (K : Int) := by omega
    clear HFIN
    obtain ⟨b, o, e1, hb, hcs⟩ := HC.out (by rw [← HN.out]; omega)
    subst e1
    have c0 := ((HW.out.trans (HB.out.mono HW.out.size)).cell hb).trans (hcs j (by rw [← HN.out]; exact hlt))
    clear hcs
    have hx := HRG.out _ (getD_mem 0 ns j (by rw [← HN.out]; exact hlt))
    have HTK := hid (show ns.take (j + 1) = ns.take j ++ [ns.getD j 0] by
      rw [List.take_add_one, List.getElem?_eq_getElem (by rw [← HN.out]; exact hlt), List.getD_eq_getElem?_getD, List.getElem?_eq_getElem (by rw [← HN.out]; exact hlt)]; rfl)
    generalize ns.getD j 0 = x at *
    obtain ⟨⟨_, hf6⟩, hcost, hval⟩ := hF x hx
    have HV := hid hval
    have H1 := hid fun w => within_any x 1099511627776 w (by decide) (by decide) hx.1 hx.2
    have hy : 0 ≤ x % 1099511627776 ∧ x % 1099511627776 < 1099511627776 := by omega
    have HCO := hid hcost
    generalize x % 1099511627776 = y at *
    obtain ⟨y0, y1⟩ := hy
    obtain ⟨d0, d1⟩ := td_bd y 7 y0 (by decide)
    obtain ⟨d2, d3⟩ := td_bd y 280 y0 (by decide)
    obtain ⟨d4, d5⟩ := td_bd y 1400 y0 (by decide)
    have H2 := hid fun w => within_any (y.tdiv 1400) 9 w (by decide) (by decide) (by omega) (by omega)
    clear hval hcost hx
    go_wp2_with fail
    refine (H1.out _).mono ?_
    rintro e w1 ⟨rfl, hw⟩
    obtain rfl := hw.symm
    clear hw
    go_wp2_with fail
    refine (HV.out _).mono ?_
    rintro e w2 ⟨u, rfl, ⟨fv, rfl, hna⟩, hb2⟩
    obtain ⟨ad2, cap2, rfl, _, _, _⟩ := hna.ia.shape
    have HNA := hid hna
    have HB2 := hid (HB.out.trans (hb2.mono HB.out.size))
    have HR2 := hid (HR.out.on hb2)
    have HNE : Hid (∀ b, (Value.slice ad2 (F x).v.f.length cap2).ownBlock = some b → u5.ownBlock ≠ some b) := hid (fun b hb he => by
      have h1 := (hna.lt hb).1
      have h2 : b < wr.heap.size := (HR.out.row.lt b he).2
      omega)
    clear hna hb2
    generalize hvf : (F x).v.f.length = vl at *
    clear hvf
    go_wp2_with fail
    refine (H2.out _).mono ?_
    rintro e w3 ⟨rfl, hw⟩
    obtain rfl := hw.symm
    clear hw
    have hX := HCO.out
    rw [← hX]
    clear hX
    generalize hvk : (F x).v.kind = vk at *
    generalize hvc : (F x).cost = vc at *
    have HVK := hid hvk
    have HVC := hid hvc
    clear hvk hvc
    obtain ⟨i0, hi, hz0, hz1, hz2⟩ := info_parts info_ar
    have hps : ps.length ≤ 1000 := by
      have := congrArg List.length HP.out
      rw [List.length_map, List.length_map, List.length_take] at this
      omega
    have hsz2 := HB2.out.size
    go_wp2_with (at_builtin; refine wpList_append_lies _ rfl _ _ 28 rfl W.heap.size 36 i0 (.agg #[.int .i64 0, .slice none 0 0, .int .i64 0]) 3 40 Tryd.underlying28 hi hz0 hz1 hz2 rfl (by decide) _ _ _ rfl (HR2.out.row.alloc _) ⟨w2.heap.size, 0, none⟩ 1 1 [Value.int .i64 vk, Value.slice ad2 vl cap2, Value.int .i64 vc] rfl rfl (by intro j u' hj; match j, hj with | 0, hj => (simp at hj; subst hj; simp [Addr.add]) | 1, hj => (simp at hj; subst hj; simp [Addr.add]) | 2, hj => (simp at hj; subst hj; simp [Addr.add])) (by intro u' hu'; simp at hu'; rcases hu' with rfl | rfl | rfl <;> rfl) (by decide) (by unfold maxLen; omega) (by omega) (by simp; omega) _ rfl ?_)
    intro g cap3 w4 hown hgr hg hlt4
    have HST := hid (RW.step (r := F x) (HR2.out.on (up_alloc w2 (.cells #[.int .i64 vk, .slice ad2 vl cap2, .int .i64 vc] 36))) ((HNA.out.low HB.out.size).on (up_alloc _ _)) HNE.out (by rw [HVK.out, HVC.out]; exact hown) hgr (hg.imp id (fun h => by simpa using h)))
    have HB4 := hid ((HB2.out.alloc hsz2 _).grown hgr (by simp; omega) (fun k hk => (HR.out.row.lt k hk).1))
    clear hown hgr hg hlt4
    go_wp2
    go_round
    case rel => exact ⟨j + 1, ps ++ [(_, F x)], by omega, by omega, by simp, hid (by rw [List.map_append, HP.out, HTK.out, List.map_append]; rfl), HST, HB4⟩
    case measure => simp [intOf]; omega
end Go.Proofs.YtjocpbcmehicmaaDoor
