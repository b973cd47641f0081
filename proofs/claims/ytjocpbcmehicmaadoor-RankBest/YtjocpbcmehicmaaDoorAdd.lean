/- The reference's Add: a reading among others. -/
import Derived.Test.YtjocpbcmehicmaaDoorAddB
import Derived.Test.YtjocpbcmehicmaaDoorCiExt
import Derived.Deep.Cut
import Derived.Deep.CutBlock
namespace Go.Proofs.YtjocpbcmehicmaaDoor
open Go.RowKit

/-- What an operation of the laying together makes. -/
def P10 (B : Nat) (W0 : World) (U U1 U2 kv : Value) (qs : List (Value × Rd)) (p : Value × Rd) (m : Nat) : Nat → Value → World → Prop
  | 0, v, w => Kb W0 v w
  | 1, v, _ => v = U
  | 2, v, _ => v = kv
  | 3, v, _ => v = U1
  | 4, v, w => Kr B W0 (qs.take m) v w
  | 5, v, _ => v = .agg #[.int .i64 p.2.v.kind, p.1, .int .i64 p.2.cost]
  | 6, v, w => Ks W0 p v w
  | 7, v, w => Kr B W0 (qs.take m ++ [p]) v w
  | 8, v, _ => v = U
  | 9, v, _ => v = kv
  | 10, v, _ => v = U2
  | _, _, _ => True
theorem P10.on {B : Nat} {W0 w w' : World} {U U1 U2 kv : Value} {qs : List (Value × Rd)} {p : Value × Rd} {m : Nat} (hb : Below w.heap.size w w') : ∀ {j : Nat} {v : Value}, P10 B W0 U U1 U2 kv qs p m j v w → P10 B W0 U U1 U2 kv qs p m j v w'
  | 0, _, h => Kb.on h hb
  | 1, _, h => h
  | 2, _, h => h
  | 3, _, h => h
  | 4, _, h => Kr.on h hb
  | 5, _, h => h
  | 6, _, h => Ks.on h hb
  | 7, _, h => Kr.on h hb
  | 8, _, h => h
  | 9, _, h => h
  | 10, _, h => h
  | _ + 11, _, _ => trivial
def D10 (j : Nat) : Nat := (#[4, 3, 3, 4, 7, 6, 7, 11, 10, 10, 11] : Array Nat).getD j 99
theorem RG.put1 {B : Nat} {w : World} {g cap : Nat} {ps : List (Value × Rd)} (h : RG B w g cap ps) {a : Nat} {q : Value × Rd} (hp : ps[a]? = some q) (c : Int) :
    RB B (w.setCell ⟨g, a * 3 + 2, none⟩ (.int .i64 c)) (.slice (some ⟨g, 0, none⟩) ps.length cap) (ps.set a (q.1, ⟨q.2.v, c⟩)) := by
  obtain ⟨cur, hB, hg, h1, h2, h3, h4⟩ := h.hold
  have ha := (List.getElem?_eq_some_iff.1 hp).1
  have hX := heap_setCell_same _ _ (a * 3 + 2) _ _ (.int .i64 c) hg
  have hN : ∀ q ∈ ps, NA B (w.setCell ⟨g, a * 3 + 2, none⟩ (.int .i64 c)) q.1 q.2.v.f := fun q hq => (h.nums q hq).1.of_block fun b e => by
    have : b ≠ g := fun e2 => (h.nums q hq).2 b e (by rw [e2]; rfl)
    exact Below.heap_setCell _ _ _ _ (by dsimp only; omega)
  refine ⟨fun x hx => ?_, _, cap, by rw [List.length_set], by rw [List.length_set]; exact h1, h2, .inr ⟨g, rfl, (Array.getElem?_eq_some_iff.1 hX).1, fun t x hx => ?_⟩⟩
  · rcases List.mem_or_eq_of_mem_set hx with hx | rfl
    · exact hN x hx
    · exact hN q (List.mem_of_getElem? hp)
  · have ht : t < ps.length * 3 := by have := (List.getElem?_eq_some_iff.1 hx).1; rwa [rowR_len, List.length_set] at this
    obtain ⟨r0, r1, _⟩ := rowR_get ps a q hp
    rw [rowR_set ps a _ t ha] at hx
    have hc : cur[t]? = (rowR ps)[t]? := by rw [← h4, List.getElem?_take, if_pos ht, Array.getElem?_toList]
    rw [cell_of_row hX]
    by_cases t2 : t = a * 3 + 2
    · subst t2
      rw [if_neg (by omega), if_neg (by omega), if_pos rfl] at hx
      rw [Array.getElem?_setIfInBounds_self_of_lt (by omega)]
      exact hx
    · rw [Array.getElem?_setIfInBounds_ne (by omega), hc]
      by_cases t0 : t = a * 3
      · rw [if_pos t0] at hx; rw [t0]; rw [← hx]; exact r0
      · rw [if_neg t0] at hx
        by_cases t1 : t = a * 3 + 1
        · rw [if_pos t1] at hx; rw [t1]; rw [← hx]; exact r1
        · rw [if_neg t1, if_neg t2] at hx
          exact hx
theorem Kr.rg {B : Nat} {W0 w : World} {v : Value} {ps : List (Value × Rd)} (h : Kr B W0 ps v w) (hl : 0 < ps.length) : ∃ g cap, v = .slice (some ⟨g, 0, none⟩) ps.length cap ∧ W0.heap.size ≤ g ∧ ps.length ≤ cap ∧ RG B w g cap ps := by
  obtain ⟨_, ⟨e, h0⟩ | ⟨g, cap, cur, e, _, _, h1, _⟩⟩ := h.1.row
  · omega
  · subst e
    exact ⟨g, cap, rfl, h.2 g rfl, h1, h.1⟩
theorem rb_dropS2 {B : Nat} {w : World} {b n cap : Nat} {qs : List (Value × Rd)} (h : RB B w (.slice (some ⟨b, 0, none⟩) n cap) qs) {k : Nat} (hk : k ≤ n) : RS B w (.slice (if cap = k then some ⟨b, 0, none⟩ else some ⟨b, k * 3, none⟩) (n - k) (cap - k)) (qs.drop k) := by
  by_cases e : cap = k
  · rw [if_pos e]
    obtain ⟨h1, ad, cp, e', h2, h3, h4⟩ := h
    injection e' with e1 e2 e3
    subst e2 e3
    have hd : qs.drop k = [] := List.drop_eq_nil_of_le (by omega)
    rw [hd]
    rcases h4 with ⟨h, _⟩ | ⟨bl, e4, hlt, _⟩
    · rw [h] at e1; cases e1
    · rw [e4] at e1
      injection e1 with e1
      injection e1 with e1
      subst e1
      exact ⟨.inr ⟨b, 0, cap - k, by rw [show qs.length - k = 0 by omega]; rfl, hlt, fun t x hx => by simp [rowR] at hx⟩, fun q hq => by simp at hq⟩
  · rw [if_neg e]
    exact h.dropS hk
theorem Ks.keep {W0 w w' : World} {p : Value × Rd} {v u : Value} (h : Ks W0 p u w) (hv : Kb W0 v w) (hk : ∀ b, b < w.heap.size → v.ownBlock ≠ some b → w'.heap[b]? = w.heap[b]?) : Ks W0 p u w' := by
  obtain ⟨g, rfl, h1, h2⟩ := h
  obtain ⟨g', rfl, h1', h2'⟩ := hv
  refine ⟨g, rfl, h1, (hk g (Array.getElem?_eq_some_iff.1 h2).1 fun e => ?_).trans h2⟩
  injection e with e
  subst e
  rw [h2] at h2'
  injection h2' with h2'
  injection h2' with h2'
  have := congrArg Array.size h2'
  simp at this
theorem oper_append {o : Oper} {a : Act} {y y' : World} {K : Act → World → Prop} {Q : Exit → Act → World → Prop} {v' : Value} (s x : Operand)
    (ho : o.op = .call { callee := .builtin .append, args := #[s, x], argTypes := #[28, 28] })
    (hr : (Builtin.append_ #[28, 28] o.type #[a.eval s, a.eval x]).run Tryd.prog y = .ok v' y') (hK : K (a.put o.dst v') y') : Oper.wp Tryd.prog o a y K Q := by
  unfold Oper.wp execOp
  simp only [ho, resolve, invoke, builtin, Sem.run_bind, Sem.run_pure, Result.andThen_ok, List.map_toArray, List.map_cons, List.map_nil, hr]
  exact hK
/-- What an append onto a row just built leaves as it was. -/
theorem P10.keep4 {B : Nat} {W0 y y' : World} {U U1 U2 kv v0 : Value} {qs : List (Value × Rd)} {p : Value × Rd} {m : Nat} (W : Nat → Nat → Bool) (h70 : W 7 4 = true) (hv : Kb W0 v0 y) (hk : ∀ b, b < y.heap.size → v0.ownBlock ≠ some b → y'.heap[b]? = y.heap[b]?) :
    ∀ j u, j ≠ 4 → D10 j ≠ 4 → W j 4 = false → W 4 (D10 j) = false → P10 B W0 U U1 U2 kv qs p m j u y → P10 B W0 U U1 U2 kv qs p m j u y'
  | 0, _, _, h, _, _, _ => absurd rfl h
  | 1, _, _, _, _, _, h => h
  | 2, _, _, _, _, _, h => h
  | 3, _, _, _, _, _, h => h
  | 4, _, h, _, _, _, _ => absurd rfl h
  | 5, _, _, _, _, _, h => h
  | 6, _, _, _, _, _, h => Ks.keep h hv hk
  | 7, _, _, _, h, _, _ => by rw [h70] at h; cases h
  | 8, _, _, _, _, _, h => h
  | 9, _, _, _, _, _, h => h
  | 10, _, _, _, _, _, h => h
  | _ + 11, _, _, _, _, _, _ => trivial
theorem P10.keep7 {B : Nat} {W0 y y' : World} {U U1 U2 kv : Value} {qs : List (Value × Rd)} {p : Value × Rd} {m : Nat} (W : Nat → Nat → Bool) (h74 : W 7 4 = true) :
    ∀ j u, j ≠ 7 → D10 j ≠ 7 → W j 7 = false → W 7 (D10 j) = false → P10 B W0 U U1 U2 kv qs p m j u y → P10 B W0 U U1 U2 kv qs p m j u y'
  | 0, _, _, _, _, h, _ => by rw [show D10 0 = 4 from rfl, h74] at h; cases h
  | 1, _, _, _, _, _, h => h
  | 2, _, _, _, _, _, h => h
  | 3, _, _, _, _, _, h => h
  | 4, _, _, h, _, _, _ => absurd rfl h
  | 5, _, _, _, _, _, h => h
  | 6, _, _, h, _, _, _ => absurd rfl h
  | 7, _, h, _, _, _, _ => absurd rfl h
  | 8, _, _, _, _, _, h => h
  | 9, _, _, _, _, _, h => h
  | 10, _, _, _, _, _, h => h
  | _ + 11, _, _, _, _, _, _ => trivial
theorem wpList_append_kr {B : Nat} {W0 w : World} {ops : Array Oper} {rest : List Oper} {o : Oper} {a : Act} {Q : Exit → Act → World → Prop} (hgd : o.guard = none) (s x : Operand)
    (ho : o.op = .call { callee := .builtin .append, args := #[s, x], argTypes := #[28, 28] })
    {v u : Value} {ps qs : List (Value × Rd)} (hs : a.eval s = v) (hx : a.eval x = u) (h : Kr B W0 ps v w) (hr : RS B w u qs) (hq : ∀ q ∈ qs, NA B W0 q.1 q.2.v.f) (hC : Below W0.heap.size W0 w) (hl : ps.length + qs.length ≤ 1000000) (hB : B ≤ W0.heap.size)
    (hK : ∀ v' w', Kr B W0 (ps ++ qs) v' w' → Below W0.heap.size W0 w' → wpList Tryd.prog ops Q rest (a.put o.dst v') w') : wpList Tryd.prog ops Q (o :: rest) a w := by
  refine wpList_plain hgd fun _ hK' => ?_
  obtain ⟨v', w', hr, h2, h3, _⟩ := Kr.append o.type h hr hq hC hl hB
  unfold Oper.wp execOp
  simp only [ho, resolve, invoke, builtin, Sem.run_bind, Sem.run_pure, Result.andThen_ok, List.map_toArray, List.map_cons, List.map_nil, hs, hx, hr]
  exact hK' _ _ (hK v' w' h2 h3)

theorem add_end {qs : List (Value × Rd)} {p : Value × Rd} {k : Nat} (h : ∀ q ∈ qs.take k, cmpV q.2.v p.2.v < 0) (hk : k = qs.length) : (qs.take k ++ [p] ++ qs.drop k).map Prod.snd = addL (qs.map Prod.snd) p.2 := by
  subst hk
  rw [List.take_length, List.drop_length, List.append_nil] at *
  rw [addL_end fun x hx => by obtain ⟨q, hq, rfl⟩ := List.mem_map.1 hx; exact h q hq]
  simp
theorem take_snd {qs : List (Value × Rd)} {r : Rd} {k : Nat} (h : ∀ q ∈ qs.take k, cmpV q.2.v r.v < 0) : ∀ x ∈ (qs.map Prod.snd).take k, cmpV x.v r.v < 0 := fun x hx => by
  rw [← List.map_take] at hx
  obtain ⟨q, hq, rfl⟩ := List.mem_map.1 hx
  exact h q hq
theorem add_mid {qs : List (Value × Rd)} {p q : Value × Rd} {k : Nat} (h : ∀ q ∈ qs.take k, cmpV q.2.v p.2.v < 0) (hq : qs[k]? = some q) (hz : 0 < cmpV q.2.v p.2.v) : (qs.take k ++ [p] ++ qs.drop k).map Prod.snd = addL (qs.map Prod.snd) p.2 := by
  rw [addL_mid (take_snd h) (by rw [List.getElem?_map, hq]; rfl) hz]
  simp
theorem add_same {qs : List (Value × Rd)} {q : Value × Rd} {r : Rd} {k : Nat} (h : ∀ q ∈ qs.take k, cmpV q.2.v r.v < 0) (hq : qs[k]? = some q) (hz : cmpV q.2.v r.v = 0) : addL (qs.map Prod.snd) r = if q.2.cost ≤ r.cost then qs.map Prod.snd else (qs.set k (q.1, ⟨q.2.v, r.cost⟩)).map Prod.snd := by
  rw [addL_same (take_snd h) (by rw [List.getElem?_map, hq]; rfl) hz, List.map_set]

set_option maxRecDepth 8000 in
set_option maxHeartbeats 8000000 in
theorem radd_any (B : Nat) (w : World) (u : Value) (qs : List (Value × Rd)) (p : Value × Rd) (h : RB B w u qs) (hp : NA B w p.1 p.2.v.f) (hl : qs.length ≤ 1000) (hB : B ≤ w.heap.size) :
    Calls Tryd.prog 38 #[u, .agg #[.int .i64 p.2.v.kind, p.1, .int .i64 p.2.cost]] w fun e w' => ∃ u' qs', e = .returned u' ∧ RB B w' u' qs' ∧ qs'.map Prod.snd = addL (qs.map Prod.snd) p.2 ∧ Below w.heap.size w w' := by
  obtain ⟨fv, r⟩ := p
  dsimp only at hp ⊢
  obtain ⟨adf, capf, rfl, _⟩ := hp.ia.shape
  have H := hid h
  have HP := hid hp
  have HQ := hid h.1
  obtain ⟨_, ad, cap, rfl, hn1, hn2, _⟩ := h
  obtain ⟨n, hn⟩ : ∃ n, n = qs.length := ⟨_, rfl⟩
  have HN := hid hn
  rw [← hn] at hn1 hl H ⊢
  clear hn hp
  generalize hnf : r.v.f.length = nf at *
  clear hnf
  go_enter Tryd.func38, Tryd.ntmps38
  go_wp2
  have k0 : (w.alloc (.cells #[.int .i64 r.v.kind, .slice adf nf capf, .int .i64 r.cost] 36)).cell? ⟨w.heap.size, 0, none⟩ = some (.int .i64 r.v.kind) := by rw [cell_of_row (new_row w _)]; rfl
  have k1 : (w.alloc (.cells #[.int .i64 r.v.kind, .slice adf nf capf, .int .i64 r.cost] 36)).cell? ⟨w.heap.size, 1, none⟩ = some (.slice adf nf capf) := by rw [cell_of_row (new_row w _)]; rfl
  have k2 : (w.alloc (.cells #[.int .i64 r.v.kind, .slice adf nf capf, .int .i64 r.cost] 36)).cell? ⟨w.heap.size, 2, none⟩ = some (.int .i64 r.cost) := by rw [cell_of_row (new_row w _)]; rfl
  have HUP := hid (up_alloc w (.cells #[.int .i64 r.v.kind, .slice adf nf capf, .int .i64 r.cost] 36))
  have hbx : w.heap.size < (w.alloc (.cells #[.int .i64 r.v.kind, .slice adf nf capf, .int .i64 r.cost] 36)).heap.size := by simp
  generalize w.alloc (.cells #[.int .i64 r.v.kind, .slice adf nf capf, .int .i64 r.cost] 36) = w1 at *
  go_loopw [5] (fun v wr => ∃ k : Nat, k ≤ n ∧ v = .int .i64 k ∧ Hid (∀ q ∈ qs.take k, cmpV q.2.v r.v < 0) ∧ Hid (Below w1.heap.size w1 wr)) (fun v _ => n - (intOf v).toNat)
  case atStart => exact ⟨0, by omega, rfl, hid (by simp), hid (Below.refl _ _)⟩
  case round =>
    obtain ⟨k, hk, rfl, HTK, HB⟩ := hrel
    by_cases hlt : k < n
    case neg =>
      obtain rfl : k = n := by omega
      have hs : ∀ s : Ci.Ext wr, Below w1.heap.size w1 s.out := fun s => HB.out.trans (s.below.mono HB.out.size)
      have HSX := hid hs
      have K0 := fun s : Ci.Ext wr => ((hs s).cell (p := ⟨w.heap.size, 0, none⟩) hbx).trans k0
      have K1 := fun s : Ci.Ext wr => ((hs s).cell (p := ⟨w.heap.size, 1, none⟩) hbx).trans k1
      have K2 := fun s : Ci.Ext wr => ((hs s).cell (p := ⟨w.heap.size, 2, none⟩) hbx).trans k2
      clear hs
      go_wp2_with fail
      refine Ci.wp_region_ext2 (by kernel_rfl) (by kernel_rfl) (fun hne hcell => ?_)
      clear hcell
      repeat (go_big_quiet_step (fail))
      refine wpQuiet_nil ?_
      intro w7 hw7
      obtain ⟨s, rfl⟩ := hw7
      have HF := hid (HSX.out s)
      clear HSX K0 K1 K2
      generalize s.out = w8 at *
      have hs : ∀ s : Ci.Ext w8, Below w1.heap.size w1 s.out := fun s => HF.out.trans (s.below.mono HF.out.size)
      have HSX := hid hs
      have K0 := fun s : Ci.Ext w8 => ((hs s).cell (p := ⟨w.heap.size, 0, none⟩) hbx).trans k0
      have K1 := fun s : Ci.Ext w8 => ((hs s).cell (p := ⟨w.heap.size, 1, none⟩) hbx).trans k1
      have K2 := fun s : Ci.Ext w8 => ((hs s).cell (p := ⟨w.heap.size, 2, none⟩) hbx).trans k2
      clear hs
      go_wp2_with fail
      refine Ci.wp_region_ext2 (by kernel_rfl) (by kernel_rfl) (fun hne hcell => ?_)
      clear hcell
      repeat (go_big_quiet_step (fail))
      refine wpQuiet_nil ?_
      intro w7 hw7
      obtain ⟨s, rfl⟩ := hw7
      have HF2 := hid (HSX.out s)
      clear HSX K0 K1 K2
      generalize s.out = w9 at *
      have HB9 := hid (HUP.out.trans (HF2.out.mono HUP.out.size))
      have HR9 := hid (H.out.on HB9.out)
      have HBW := hid (Nat.le_trans hB HB9.out.size)
      have HWU := hid fun (y : World) (h : Below w9.heap.size w9 y) => h
      have HP9 := hid (HP.out.on HB9.out)
      have c0 := (HF2.out.cell (p := ⟨w.heap.size, 0, none⟩) hbx).trans k0
      have c1 := (HF2.out.cell (p := ⟨w.heap.size, 1, none⟩) hbx).trans k1
      have c2 := (HF2.out.cell (p := ⟨w.heap.size, 2, none⟩) hbx).trans k2
      have hbx9 : w.heap.size < w9.heap.size := Nat.lt_of_lt_of_le hbx HF2.out.size
      cases ad with
      | none =>
        obtain ⟨hk0, hc0, hqn⟩ := HR9.out.none
        subst hk0 hc0
        have S1 := hid (HR9.out.take (Nat.le_refl 0))
        have S1L := hid hl
        have S2 : Hid (RS B w9 (.slice none 0 0) (qs.drop 0)) := hid (by rw [hqn] at *; exact S1.out)
        go_wp2_with fail
        refine wp_region_head (n := 11) (D := D10) (by kernel_rfl) (by kernel_rfl) (fun us => ⟨#[.slice none 0 0, .agg #[.int .i64 r.v.kind, .slice adf nf capf, .int .i64 r.cost], undef, .pointer (some ⟨w.heap.size, 0, none⟩), .slice none 0 0, .int .i64 (0 : Nat), undef, .int .i64 (0 : Nat), .slice none 0 0, .int .i64 (0 : Nat), .bool false, .bool false, undef, undef, undef, undef, undef, undef, undef, undef, undef, .bool false, u22, u23, .int .i64 (0 : Nat), .slice none 0 0, .int .i64 (0 : Nat), .bool false, .bool false, undef, undef, undef, undef, undef, undef, undef, undef, undef, .bool false, undef, undef, undef, undef, undef, undef, undef, undef, undef, undef, undef, undef, undef, undef, undef, undef, undef, undef, undef, us 0, us 1, us 2, us 3, us 4, us 5, us 6, us 7, us 8, us 9, us 10, undef], []⟩) (P10 B w9 (.slice none 0 0) (.slice none 0 0) (.slice none 0 0) (.int .i64 (0 : Nat)) qs (.slice adf nf capf, r) 0) (fun y => Below w9.heap.size w9 y) (fun _ => undef) (by rfl) ((Below.refl _ _).drew) ?_ ?_
        case refine_1 =>
          intro i hi us y hC hd
          rcases (by omega : i = 0 ∨ i = 1 ∨ i = 2 ∨ i = 3 ∨ i = 4 ∨ i = 5 ∨ i = 6 ∨ i = 7 ∨ i = 8 ∨ i = 9 ∨ i = 10) with rfl | rfl | rfl | rfl | rfl | rfl | rfl | rfl | rfl | rfl | rfl
          · refine wpOp_step rfl (fun K hK => ?_)
            rw [if_pos (by rfl)]
            go_simp
            exact hK _ _ ⟨_, rfl, ⟨_, rfl, hC.size, new_row _ _⟩, up_trans hC (up_alloc _ _), fun _ _ _ _ _ _ h => P10.on (up_alloc _ _) h⟩
          · refine wpOp_step rfl (fun K hK => ?_)
            rw [if_pos (by rfl)]
            go_simp
            exact hK _ _ ⟨_, rfl, rfl, hC, fun _ _ _ _ _ _ h => h⟩
          · refine wpOp_step rfl (fun K hK => ?_)
            rw [if_pos (by rfl)]
            go_simp
            exact hK _ _ ⟨_, rfl, rfl, hC, fun _ _ _ _ _ _ h => h⟩
          · have e1 : us 1 = (.slice none 0 0) := hd _ rfl ⟨1, .data⟩ (by simp) rfl
            have e2 : us 2 = (.int .i64 (0 : Nat)) := hd _ rfl ⟨2, .data⟩ (by simp) rfl
            refine wpOp_step rfl (fun K hK => ?_)
            rw [if_pos (by rfl)]
            rw [e1, e2]
            go_simp
            exact hK _ _ ⟨_, by simp [upd, e1, e2], rfl, hC, fun _ _ _ _ _ _ h => h⟩
          · have h0 : Kb w9 (us 0) y := hd _ rfl ⟨0, .data⟩ (by simp) rfl
            have e3 : us 3 = (.slice none 0 0) := hd _ rfl ⟨3, .data⟩ (by simp) rfl
            obtain ⟨v', y', hr, h2, h3, h4⟩ := (h0.kr (B := B) HBW.out).append 28 (S1.out.on (HWU.out y hC)) (fun q hq => HR9.out.1 q (List.mem_of_mem_take hq)) hC (by have := S1L.out; simp only [List.length_nil, List.length_take]; omega) HBW.out
            refine wpOp_step rfl (fun K hK => ?_)
            rw [if_pos (by rfl)]
            refine oper_append (.tmp 58) (.tmp 61) rfl (v' := v') (y' := y') (by rw [← e3] at hr; exact hr) ?_
            exact hK _ _ ⟨v', rfl, h2, h3, P10.keep4 (Region.waitsFor .any _) (by kernel_rfl) h0 h4⟩
          · have a0 := (hC.cell (p := ⟨w.heap.size, 0, none⟩) hbx9).trans c0
            have a1 := (hC.cell (p := ⟨w.heap.size, 1, none⟩) hbx9).trans c1
            have a2 := (hC.cell (p := ⟨w.heap.size, 2, none⟩) hbx9).trans c2
            refine wpOp_step rfl (fun K hK => ?_)
            rw [if_pos (by rfl)]
            go_simp
            exact hK _ _ ⟨_, rfl, rfl, hC, fun _ _ _ _ _ _ h => h⟩
          · have e5 : us 5 = (.agg #[.int .i64 r.v.kind, .slice adf nf capf, .int .i64 r.cost]) := hd _ rfl ⟨5, .data⟩ (by simp) rfl
            refine wpOp_step rfl (fun K hK => ?_)
            rw [if_pos (by rfl)]
            rw [e5]
            go_simp
            exact hK _ _ ⟨_, by simp [upd, e5], ⟨_, rfl, hC.size, new_row _ _⟩, up_trans hC (up_alloc _ _), fun _ _ _ _ _ _ h => P10.on (up_alloc _ _) h⟩
          · have h4 : Kr B w9 (qs.take 0) (us 4) y := hd _ rfl ⟨4, .data⟩ (by simp) rfl
            have h6 : Ks w9 (.slice adf nf capf, r) (us 6) y := hd _ rfl ⟨6, .data⟩ (by simp) rfl
            obtain ⟨v', y', hr, h2, h3, _⟩ := h4.append 28 (h6.rs (HP9.out.on (HWU.out y hC))) (fun q hq => by rw [List.mem_singleton.1 hq]; exact HP9.out) hC (by have := S1L.out; simp only [List.length_singleton, List.length_take]; omega) HBW.out
            refine wpOp_step rfl (fun K hK => ?_)
            rw [if_pos (by rfl)]
            refine oper_append (.tmp 62) (.tmp 64) rfl (v' := v') (y' := y') hr ?_
            exact hK _ _ ⟨v', rfl, h2, h3, P10.keep7 (Region.waitsFor .any _) (by kernel_rfl)⟩
          · refine wpOp_step rfl (fun K hK => ?_)
            rw [if_pos (by rfl)]
            go_simp
            exact hK _ _ ⟨_, rfl, rfl, hC, fun _ _ _ _ _ _ h => h⟩
          · refine wpOp_step rfl (fun K hK => ?_)
            rw [if_pos (by rfl)]
            go_simp
            exact hK _ _ ⟨_, rfl, rfl, hC, fun _ _ _ _ _ _ h => h⟩
          · have e8 : us 8 = (.slice none 0 0) := hd _ rfl ⟨8, .data⟩ (by simp) rfl
            have e9 : us 9 = (.int .i64 (0 : Nat)) := hd _ rfl ⟨9, .data⟩ (by simp) rfl
            refine wpOp_step rfl (fun K hK => ?_)
            rw [if_pos (by rfl)]
            rw [e8, e9]
            go_simp
            exact hK _ _ ⟨_, by simp [upd, e8, e9], rfl, hC, fun _ _ _ _ _ _ h => h⟩
        case refine_2 =>
          intro us y hC hd
          have h7 : Kr B w9 (qs.take 0 ++ [(.slice adf nf capf, r)]) (us 7) y := hd 7 (by omega) (by decide)
          have e10 : us 10 = (.slice none 0 0) := hd 10 (by omega) (by decide)
          refine wpList_append_kr rfl (.tmp 65) (.tmp 68) rfl rfl e10 h7 (S2.out.on (HWU.out y hC)) (fun q hq => HR9.out.1 q (List.mem_of_mem_drop hq)) hC (by have := S1L.out; have := HN.out; simp only [List.length_append, List.length_singleton, List.length_take, List.length_drop]; omega) HBW.out ?_
          intro v' y' hkr hb
          have HKR := hid hkr
          have HBE := hid (HB9.out.trans (hb.mono HB9.out.size))
          clear hkr hb hd hC h7 e10
          go_wp2
          go_ret
          exact ⟨_, _, rfl, HKR.out.1.rb, add_end HTK.out HN.out, HBE.out⟩
      | some a =>
        obtain ⟨b, e, hb0⟩ : ∃ b, a = ⟨b, 0, none⟩ ∧ b < w9.heap.size := by
          obtain ⟨_, ad, cap, e, _, _, h4⟩ := HR9.out
          injection e with e1 e2 e3
          rcases h4 with ⟨h, _⟩ | ⟨b, h, hb, _⟩
          · rw [h] at e1; cases e1
          · rw [h] at e1; injection e1 with e1; exact ⟨b, e1, hb⟩
        subst e
        have hmk : min k qs.length = k := by have := HN.out; omega
        have S1 := hid (HR9.out.take (Nat.le_refl k))
        have S1L := hid hl
        have S2 := hid (rb_dropS2 HR9.out (Nat.le_refl k))
        rw [Nat.sub_self] at S2
        have hkc : (k : Int) ≤ (cap : Int) := by omega
        clear hmk
        go_wp2_with fail
        refine wp_region_head (n := 11) (D := D10) (by kernel_rfl) (by kernel_rfl) (fun us => ⟨#[(.slice (some ⟨b, 0, none⟩) k cap), .agg #[.int .i64 r.v.kind, .slice adf nf capf, .int .i64 r.cost], undef, .pointer (some ⟨w.heap.size, 0, none⟩), .slice none 0 0, .int .i64 (k : Nat), undef, .int .i64 (k : Nat), (.slice (some ⟨b, 0, none⟩) k cap), .int .i64 (k : Nat), .bool false, .bool false, undef, undef, undef, undef, undef, undef, undef, undef, undef, .bool false, u22, u23, .int .i64 (k : Nat), (.slice (some ⟨b, 0, none⟩) k cap), .int .i64 (k : Nat), .bool false, .bool false, undef, undef, undef, undef, undef, undef, undef, undef, undef, .bool false, undef, undef, undef, undef, undef, undef, undef, undef, undef, undef, undef, undef, undef, undef, undef, undef, undef, undef, undef, us 0, us 1, us 2, us 3, us 4, us 5, us 6, us 7, us 8, us 9, us 10, undef], []⟩) (P10 B w9 (.slice (some ⟨b, 0, none⟩) k cap) (.slice (some ⟨b, 0, none⟩) k cap) (.slice (if cap = k then some ⟨b, 0, none⟩ else some ⟨b, k * 3, none⟩) 0 (cap - k)) (.int .i64 (k : Nat)) qs (.slice adf nf capf, r) k) (fun y => Below w9.heap.size w9 y) (fun _ => undef) (by rfl) ((Below.refl _ _).drew) ?_ ?_
        case refine_1 =>
          intro i hi us y hC hd
          rcases (by omega : i = 0 ∨ i = 1 ∨ i = 2 ∨ i = 3 ∨ i = 4 ∨ i = 5 ∨ i = 6 ∨ i = 7 ∨ i = 8 ∨ i = 9 ∨ i = 10) with rfl | rfl | rfl | rfl | rfl | rfl | rfl | rfl | rfl | rfl | rfl
          · refine wpOp_step rfl (fun K hK => ?_)
            rw [if_pos (by rfl)]
            go_simp
            exact hK _ _ ⟨_, rfl, ⟨_, rfl, hC.size, new_row _ _⟩, up_trans hC (up_alloc _ _), fun _ _ _ _ _ _ h => P10.on (up_alloc _ _) h⟩
          · refine wpOp_step rfl (fun K hK => ?_)
            rw [if_pos (by rfl)]
            go_simp
            exact hK _ _ ⟨_, rfl, rfl, hC, fun _ _ _ _ _ _ h => h⟩
          · refine wpOp_step rfl (fun K hK => ?_)
            rw [if_pos (by rfl)]
            go_simp
            exact hK _ _ ⟨_, rfl, rfl, hC, fun _ _ _ _ _ _ h => h⟩
          · have e1 : us 1 = (.slice (some ⟨b, 0, none⟩) k cap) := hd _ rfl ⟨1, .data⟩ (by simp) rfl
            have e2 : us 2 = (.int .i64 (k : Nat)) := hd _ rfl ⟨2, .data⟩ (by simp) rfl
            refine wpOp_step rfl (fun K hK => ?_)
            rw [if_pos (by rfl)]
            rw [e1, e2]
            go_simp
            exact hK _ _ ⟨_, by simp [upd, e1, e2], rfl, hC, fun _ _ _ _ _ _ h => h⟩
          · have h0 : Kb w9 (us 0) y := hd _ rfl ⟨0, .data⟩ (by simp) rfl
            have e3 : us 3 = (.slice (some ⟨b, 0, none⟩) k cap) := hd _ rfl ⟨3, .data⟩ (by simp) rfl
            obtain ⟨v', y', hr, h2, h3, h4⟩ := (h0.kr (B := B) HBW.out).append 28 (S1.out.on (HWU.out y hC)) (fun q hq => HR9.out.1 q (List.mem_of_mem_take hq)) hC (by have := S1L.out; simp only [List.length_nil, List.length_take]; omega) HBW.out
            refine wpOp_step rfl (fun K hK => ?_)
            rw [if_pos (by rfl)]
            refine oper_append (.tmp 58) (.tmp 61) rfl (v' := v') (y' := y') (by rw [← e3] at hr; exact hr) ?_
            exact hK _ _ ⟨v', rfl, h2, h3, P10.keep4 (Region.waitsFor .any _) (by kernel_rfl) h0 h4⟩
          · have a0 := (hC.cell (p := ⟨w.heap.size, 0, none⟩) hbx9).trans c0
            have a1 := (hC.cell (p := ⟨w.heap.size, 1, none⟩) hbx9).trans c1
            have a2 := (hC.cell (p := ⟨w.heap.size, 2, none⟩) hbx9).trans c2
            refine wpOp_step rfl (fun K hK => ?_)
            rw [if_pos (by rfl)]
            go_simp
            exact hK _ _ ⟨_, rfl, rfl, hC, fun _ _ _ _ _ _ h => h⟩
          · have e5 : us 5 = (.agg #[.int .i64 r.v.kind, .slice adf nf capf, .int .i64 r.cost]) := hd _ rfl ⟨5, .data⟩ (by simp) rfl
            refine wpOp_step rfl (fun K hK => ?_)
            rw [if_pos (by rfl)]
            rw [e5]
            go_simp
            exact hK _ _ ⟨_, by simp [upd, e5], ⟨_, rfl, hC.size, new_row _ _⟩, up_trans hC (up_alloc _ _), fun _ _ _ _ _ _ h => P10.on (up_alloc _ _) h⟩
          · have h4 : Kr B w9 (qs.take k) (us 4) y := hd _ rfl ⟨4, .data⟩ (by simp) rfl
            have h6 : Ks w9 (.slice adf nf capf, r) (us 6) y := hd _ rfl ⟨6, .data⟩ (by simp) rfl
            obtain ⟨v', y', hr, h2, h3, _⟩ := h4.append 28 (h6.rs (HP9.out.on (HWU.out y hC))) (fun q hq => by rw [List.mem_singleton.1 hq]; exact HP9.out) hC (by have := S1L.out; simp only [List.length_singleton, List.length_take]; omega) HBW.out
            refine wpOp_step rfl (fun K hK => ?_)
            rw [if_pos (by rfl)]
            refine oper_append (.tmp 62) (.tmp 64) rfl (v' := v') (y' := y') hr ?_
            exact hK _ _ ⟨v', rfl, h2, h3, P10.keep7 (Region.waitsFor .any _) (by kernel_rfl)⟩
          · refine wpOp_step rfl (fun K hK => ?_)
            rw [if_pos (by rfl)]
            go_simp
            exact hK _ _ ⟨_, rfl, rfl, hC, fun _ _ _ _ _ _ h => h⟩
          · refine wpOp_step rfl (fun K hK => ?_)
            rw [if_pos (by rfl)]
            go_simp
            exact hK _ _ ⟨_, rfl, rfl, hC, fun _ _ _ _ _ _ h => h⟩
          · have e8 : us 8 = (.slice (some ⟨b, 0, none⟩) k cap) := hd _ rfl ⟨8, .data⟩ (by simp) rfl
            have e9 : us 9 = (.int .i64 (k : Nat)) := hd _ rfl ⟨9, .data⟩ (by simp) rfl
            refine wpOp_step rfl (fun K hK => ?_)
            rw [if_pos (by rfl)]
            rw [e8, e9]
            go_simp
            exact hK _ _ ⟨_, by simp [upd, e8, e9], rfl, hC, fun _ _ _ _ _ _ h => h⟩
        case refine_2 =>
          intro us y hC hd
          have h7 : Kr B w9 (qs.take k ++ [(.slice adf nf capf, r)]) (us 7) y := hd 7 (by omega) (by decide)
          have e10 : us 10 = (.slice (if cap = k then some ⟨b, 0, none⟩ else some ⟨b, k * 3, none⟩) 0 (cap - k)) := hd 10 (by omega) (by decide)
          refine wpList_append_kr rfl (.tmp 65) (.tmp 68) rfl rfl e10 h7 (S2.out.on (HWU.out y hC)) (fun q hq => HR9.out.1 q (List.mem_of_mem_drop hq)) hC (by have := S1L.out; have := HN.out; simp only [List.length_append, List.length_singleton, List.length_take, List.length_drop]; omega) HBW.out ?_
          intro v' y' hkr hb
          have HKR := hid hkr
          have HBE := hid (HB9.out.trans (hb.mono HB9.out.size))
          clear hkr hb hd hC h7 e10
          go_wp2
          go_ret
          exact ⟨_, _, rfl, HKR.out.1.rb, add_end HTK.out HN.out, HBE.out⟩
    case pos =>
      have hlt2 : (k : Int) < (n : Int) := by omega
      obtain ⟨q, hq⟩ : ∃ q, qs[k]? = some q := ⟨_, List.getElem?_eq_getElem (by rw [← HN.out]; exact hlt)⟩
      have HQK := hid hq
      have HQN := hid (HQ.out q (List.mem_of_getElem? hq))
      obtain ⟨b, rfl, hb0, q0, q1, q2⟩ := H.out.cell hq
      have hb1 : b < w1.heap.size := Nat.lt_of_lt_of_le hb0 HUP.out.size
      have p0 := (HUP.out.cell (p := ⟨b, k * 3, none⟩) hb0).trans q0
      have p1 := (HUP.out.cell (p := ⟨b, k * 3 + 1, none⟩) hb0).trans q1
      have p2 := (HUP.out.cell (p := ⟨b, k * 3 + 2, none⟩) hb0).trans q2
      clear hq q0 q1 q2
      obtain ⟨z, hz⟩ : ∃ z, z = cmpV q.2.v r.v := ⟨_, rfl⟩
      have HZ := hid hz
      clear hz
      have hs : ∀ s : Ci.Ext wr, Below w1.heap.size w1 s.out := fun s => HB.out.trans (s.below.mono HB.out.size)
      have HSX := hid hs
      have K0 := fun s : Ci.Ext wr => ((hs s).cell (p := ⟨w.heap.size, 0, none⟩) hbx).trans k0
      have K1 := fun s : Ci.Ext wr => ((hs s).cell (p := ⟨w.heap.size, 1, none⟩) hbx).trans k1
      have K2 := fun s : Ci.Ext wr => ((hs s).cell (p := ⟨w.heap.size, 2, none⟩) hbx).trans k2
      have P0 := fun s : Ci.Ext wr => ((hs s).cell (p := ⟨b, k * 3, none⟩) hb1).trans p0
      have P1 := fun s : Ci.Ext wr => ((hs s).cell (p := ⟨b, k * 3 + 1, none⟩) hb1).trans p1
      have P2 := fun s : Ci.Ext wr => ((hs s).cell (p := ⟨b, k * 3 + 2, none⟩) hb1).trans p2
      have HC := hid fun s : Ci.Ext wr => (rcmp_any q.2.v r.v (.agg #[.int .i64 q.2.v.kind, q.1]) (.agg #[.int .i64 r.v.kind, .slice adf nf capf]) s.out ⟨_, rfl, ((HQN.out.ia.on HUP.out).on (HB.out.trans (s.below.mono HB.out.size))).ib⟩ ⟨_, rfl, ((HP.out.ia.on HUP.out).on (HB.out.trans (s.below.mono HB.out.size))).ib⟩).mono (fun e w' h => (⟨h.1, Ci.Ext.to s h.2⟩ : e = .returned (.int .i64 (cmpV q.2.v r.v)) ∧ ∃ s' : Ci.Ext wr, w' = s'.out))
      rw [← HZ.out] at HC
      clear hs
      by_cases hzn : z < 0
      case pos =>
        go_wp2_with fail
        refine Ci.wp_region_ext2 (by kernel_rfl) (by kernel_rfl) (fun hne hcell => ?_)
        clear hcell
        repeat (go_big_quiet_step ((go_at_call 15; with_reducible exact HC.out _)))
        refine wpQuiet_nil ?_
        intro w7 hw7
        obtain ⟨s, rfl⟩ := hw7
        have HF := hid (HSX.out s)
        clear HSX K0 K1 K2 P0 P1 P2 HC
        go_wp2
        go_round
        case rel =>
          refine ⟨k + 1, by omega, by simp, hid (fun x hx => ?_), HF⟩
          rw [List.take_add_one, HQK.out] at hx
          rcases List.mem_append.1 hx with hx | hx
          · exact HTK.out x hx
          · obtain rfl := List.mem_singleton.1 hx
            rw [← HZ.out]; exact hzn
        case measure => simp [intOf]; omega
      case neg =>
        go_wp2_with fail
        refine Ci.wp_region_ext2 (by kernel_rfl) (by kernel_rfl) (fun hne hcell => ?_)
        clear hcell
        repeat (go_big_quiet_step ((go_at_call 15; with_reducible exact HC.out _)))
        refine wpQuiet_nil ?_
        intro w7 hw7
        obtain ⟨s, rfl⟩ := hw7
        have HF := hid (HSX.out s)
        clear HSX K0 K1 K2 P0 P1 P2 HC
        generalize s.out = w8 at *
        have hs : ∀ s : Ci.Ext w8, Below w1.heap.size w1 s.out := fun s => HF.out.trans (s.below.mono HF.out.size)
        have HSX := hid hs
        have K0 := fun s : Ci.Ext w8 => ((hs s).cell (p := ⟨w.heap.size, 0, none⟩) hbx).trans k0
        have K1 := fun s : Ci.Ext w8 => ((hs s).cell (p := ⟨w.heap.size, 1, none⟩) hbx).trans k1
        have K2 := fun s : Ci.Ext w8 => ((hs s).cell (p := ⟨w.heap.size, 2, none⟩) hbx).trans k2
        have P0 := fun s : Ci.Ext w8 => ((hs s).cell (p := ⟨b, k * 3, none⟩) hb1).trans p0
        have P1 := fun s : Ci.Ext w8 => ((hs s).cell (p := ⟨b, k * 3 + 1, none⟩) hb1).trans p1
        have P2 := fun s : Ci.Ext w8 => ((hs s).cell (p := ⟨b, k * 3 + 2, none⟩) hb1).trans p2
        have HC := hid fun s : Ci.Ext w8 => (rcmp_any q.2.v r.v (.agg #[.int .i64 q.2.v.kind, q.1]) (.agg #[.int .i64 r.v.kind, .slice adf nf capf]) s.out ⟨_, rfl, ((HQN.out.ia.on HUP.out).on (HF.out.trans (s.below.mono HF.out.size))).ib⟩ ⟨_, rfl, ((HP.out.ia.on HUP.out).on (HF.out.trans (s.below.mono HF.out.size))).ib⟩).mono (fun e w' h => (⟨h.1, Ci.Ext.to s h.2⟩ : e = .returned (.int .i64 (cmpV q.2.v r.v)) ∧ ∃ s' : Ci.Ext w8, w' = s'.out))
        rw [← HZ.out] at HC
        clear hs
        by_cases hz0 : z = 0
        case neg =>
          have hz2 : (z == 0) = false := by simpa using hz0
          go_wp2_with fail
          refine Ci.wp_region_ext2 (by kernel_rfl) (by kernel_rfl) (fun hne hcell => ?_)
          clear hcell
          repeat (go_big_quiet_step ((go_at_call 15; with_reducible exact HC.out _)))
          refine wpQuiet_nil ?_
          intro w7 hw7
          obtain ⟨s, rfl⟩ := hw7
          have HF2 := hid (HSX.out s)
          clear HSX K0 K1 K2 P0 P1 P2 HC
          generalize s.out = w9 at *
          have HB9 := hid (HUP.out.trans (HF2.out.mono HUP.out.size))
          have HR9 := hid (H.out.on HB9.out)
          have HBW := hid (Nat.le_trans hB HB9.out.size)
          have HWU := hid fun (y : World) (h : Below w9.heap.size w9 y) => h
          have HP9 := hid (HP.out.on HB9.out)
          have c0 := (HF2.out.cell (p := ⟨w.heap.size, 0, none⟩) hbx).trans k0
          have c1 := (HF2.out.cell (p := ⟨w.heap.size, 1, none⟩) hbx).trans k1
          have c2 := (HF2.out.cell (p := ⟨w.heap.size, 2, none⟩) hbx).trans k2
          have hbx9 : w.heap.size < w9.heap.size := Nat.lt_of_lt_of_le hbx HF2.out.size
          have S1 := hid (HR9.out.take hk)
          have S1L := hid hl
          have S2 := hid (rb_dropS2 HR9.out hk)
          have hkc : (k : Int) ≤ (cap : Int) := by omega
          have hkn : (k : Int) ≤ (n : Int) := by omega
          have HZP : Hid (0 < cmpV q.2.v r.v) := hid (by rw [← HZ.out]; omega)
          go_wp2_with fail
          refine wp_region_head (n := 11) (D := D10) (by kernel_rfl) (by kernel_rfl) (fun us => ⟨#[(.slice (some ⟨b, 0, none⟩) n cap), .agg #[.int .i64 r.v.kind, .slice adf nf capf, .int .i64 r.cost], undef, .pointer (some ⟨w.heap.size, 0, none⟩), .slice none 0 0, .int .i64 (k : Nat), undef, .int .i64 (k : Nat), (.slice (some ⟨b, 0, none⟩) n cap), .int .i64 (n : Nat), .bool true, .bool true, (.slice (some ⟨b, 0, none⟩) n cap), .int .i64 (k : Nat), .pointer (some ⟨b, k * 3, none⟩), .pointer (some ⟨b, k * 3, none⟩), .agg #[.int .i64 q.2.v.kind, q.1], .pointer (some ⟨w.heap.size, 0, none⟩), .agg #[.int .i64 r.v.kind, .slice adf nf capf], .int .i64 z, .bool (decide (z < 0)), .bool (decide (z < 0)), u22, u23, .int .i64 (k : Nat), (.slice (some ⟨b, 0, none⟩) n cap), .int .i64 (n : Nat), .bool true, .bool true, (.slice (some ⟨b, 0, none⟩) n cap), .int .i64 (k : Nat), .pointer (some ⟨b, k * 3, none⟩), .pointer (some ⟨b, k * 3, none⟩), .agg #[.int .i64 q.2.v.kind, q.1], .pointer (some ⟨w.heap.size, 0, none⟩), .agg #[.int .i64 r.v.kind, .slice adf nf capf], .int .i64 z, .bool false, .bool false, undef, undef, undef, undef, undef, undef, undef, undef, undef, undef, undef, undef, undef, undef, undef, undef, undef, undef, undef, us 0, us 1, us 2, us 3, us 4, us 5, us 6, us 7, us 8, us 9, us 10, undef], []⟩) (P10 B w9 (.slice (some ⟨b, 0, none⟩) n cap) (.slice (some ⟨b, 0, none⟩) k cap) (.slice (if cap = k then some ⟨b, 0, none⟩ else some ⟨b, k * 3, none⟩) (n - k) (cap - k)) (.int .i64 (k : Nat)) qs (.slice adf nf capf, r) k) (fun y => Below w9.heap.size w9 y) (fun _ => undef) (by rfl) ((Below.refl _ _).drew) ?_ ?_
          case refine_1 =>
            intro i hi us y hC hd
            rcases (by omega : i = 0 ∨ i = 1 ∨ i = 2 ∨ i = 3 ∨ i = 4 ∨ i = 5 ∨ i = 6 ∨ i = 7 ∨ i = 8 ∨ i = 9 ∨ i = 10) with rfl | rfl | rfl | rfl | rfl | rfl | rfl | rfl | rfl | rfl | rfl
            · refine wpOp_step rfl (fun K hK => ?_)
              rw [if_pos (by rfl)]
              go_simp
              exact hK _ _ ⟨_, rfl, ⟨_, rfl, hC.size, new_row _ _⟩, up_trans hC (up_alloc _ _), fun _ _ _ _ _ _ h => P10.on (up_alloc _ _) h⟩
            · refine wpOp_step rfl (fun K hK => ?_)
              rw [if_pos (by rfl)]
              go_simp
              exact hK _ _ ⟨_, rfl, rfl, hC, fun _ _ _ _ _ _ h => h⟩
            · refine wpOp_step rfl (fun K hK => ?_)
              rw [if_pos (by rfl)]
              go_simp
              exact hK _ _ ⟨_, rfl, rfl, hC, fun _ _ _ _ _ _ h => h⟩
            · have e1 : us 1 = (.slice (some ⟨b, 0, none⟩) n cap) := hd _ rfl ⟨1, .data⟩ (by simp) rfl
              have e2 : us 2 = (.int .i64 (k : Nat)) := hd _ rfl ⟨2, .data⟩ (by simp) rfl
              refine wpOp_step rfl (fun K hK => ?_)
              rw [if_pos (by rfl)]
              rw [e1, e2]
              go_simp
              exact hK _ _ ⟨_, by simp [upd, e1, e2], rfl, hC, fun _ _ _ _ _ _ h => h⟩
            · have h0 : Kb w9 (us 0) y := hd _ rfl ⟨0, .data⟩ (by simp) rfl
              have e3 : us 3 = (.slice (some ⟨b, 0, none⟩) k cap) := hd _ rfl ⟨3, .data⟩ (by simp) rfl
              obtain ⟨v', y', hr, h2, h3, h4⟩ := (h0.kr (B := B) HBW.out).append 28 (S1.out.on (HWU.out y hC)) (fun q hq => HR9.out.1 q (List.mem_of_mem_take hq)) hC (by have := S1L.out; simp only [List.length_nil, List.length_take]; omega) HBW.out
              refine wpOp_step rfl (fun K hK => ?_)
              rw [if_pos (by rfl)]
              refine oper_append (.tmp 58) (.tmp 61) rfl (v' := v') (y' := y') (by rw [← e3] at hr; exact hr) ?_
              exact hK _ _ ⟨v', rfl, h2, h3, P10.keep4 (Region.waitsFor .any _) (by kernel_rfl) h0 h4⟩
            · have a0 := (hC.cell (p := ⟨w.heap.size, 0, none⟩) hbx9).trans c0
              have a1 := (hC.cell (p := ⟨w.heap.size, 1, none⟩) hbx9).trans c1
              have a2 := (hC.cell (p := ⟨w.heap.size, 2, none⟩) hbx9).trans c2
              refine wpOp_step rfl (fun K hK => ?_)
              rw [if_pos (by rfl)]
              go_simp
              exact hK _ _ ⟨_, rfl, rfl, hC, fun _ _ _ _ _ _ h => h⟩
            · have e5 : us 5 = (.agg #[.int .i64 r.v.kind, .slice adf nf capf, .int .i64 r.cost]) := hd _ rfl ⟨5, .data⟩ (by simp) rfl
              refine wpOp_step rfl (fun K hK => ?_)
              rw [if_pos (by rfl)]
              rw [e5]
              go_simp
              exact hK _ _ ⟨_, by simp [upd, e5], ⟨_, rfl, hC.size, new_row _ _⟩, up_trans hC (up_alloc _ _), fun _ _ _ _ _ _ h => P10.on (up_alloc _ _) h⟩
            · have h4 : Kr B w9 (qs.take k) (us 4) y := hd _ rfl ⟨4, .data⟩ (by simp) rfl
              have h6 : Ks w9 (.slice adf nf capf, r) (us 6) y := hd _ rfl ⟨6, .data⟩ (by simp) rfl
              obtain ⟨v', y', hr, h2, h3, _⟩ := h4.append 28 (h6.rs (HP9.out.on (HWU.out y hC))) (fun q hq => by rw [List.mem_singleton.1 hq]; exact HP9.out) hC (by have := S1L.out; simp only [List.length_singleton, List.length_take]; omega) HBW.out
              refine wpOp_step rfl (fun K hK => ?_)
              rw [if_pos (by rfl)]
              refine oper_append (.tmp 62) (.tmp 64) rfl (v' := v') (y' := y') hr ?_
              exact hK _ _ ⟨v', rfl, h2, h3, P10.keep7 (Region.waitsFor .any _) (by kernel_rfl)⟩
            · refine wpOp_step rfl (fun K hK => ?_)
              rw [if_pos (by rfl)]
              go_simp
              exact hK _ _ ⟨_, rfl, rfl, hC, fun _ _ _ _ _ _ h => h⟩
            · refine wpOp_step rfl (fun K hK => ?_)
              rw [if_pos (by rfl)]
              go_simp
              exact hK _ _ ⟨_, rfl, rfl, hC, fun _ _ _ _ _ _ h => h⟩
            · have e8 : us 8 = (.slice (some ⟨b, 0, none⟩) n cap) := hd _ rfl ⟨8, .data⟩ (by simp) rfl
              have e9 : us 9 = (.int .i64 (k : Nat)) := hd _ rfl ⟨9, .data⟩ (by simp) rfl
              refine wpOp_step rfl (fun K hK => ?_)
              rw [if_pos (by rfl)]
              rw [e8, e9]
              go_simp
              exact hK _ _ ⟨_, by simp [upd, e8, e9], rfl, hC, fun _ _ _ _ _ _ h => h⟩
          case refine_2 =>
            intro us y hC hd
            have h7 : Kr B w9 (qs.take k ++ [(.slice adf nf capf, r)]) (us 7) y := hd 7 (by omega) (by decide)
            have e10 : us 10 = (.slice (if cap = k then some ⟨b, 0, none⟩ else some ⟨b, k * 3, none⟩) (n - k) (cap - k)) := hd 10 (by omega) (by decide)
            refine wpList_append_kr rfl (.tmp 65) (.tmp 68) rfl rfl e10 h7 (S2.out.on (HWU.out y hC)) (fun q hq => HR9.out.1 q (List.mem_of_mem_drop hq)) hC (by have := S1L.out; have := HN.out; simp only [List.length_append, List.length_singleton, List.length_take, List.length_drop]; omega) HBW.out ?_
            intro v' y' hkr hb
            have HKR := hid hkr
            have HBE := hid (HB9.out.trans (hb.mono HB9.out.size))
            clear hkr hb hd hC h7 e10
            go_wp2
            go_ret
            exact ⟨_, _, rfl, HKR.out.1.rb, add_mid HTK.out HQK.out HZP.out, HBE.out⟩
        case pos =>
          have hz2 : (z == 0) = true := by simpa using hz0
          go_wp2_with fail
          refine Ci.wp_region_ext2 (by kernel_rfl) (by kernel_rfl) (fun hne hcell => ?_)
          clear hcell
          repeat (go_big_quiet_step ((go_at_call 15; with_reducible exact HC.out _)))
          refine wpQuiet_nil ?_
          intro w7 hw7
          obtain ⟨s, rfl⟩ := hw7
          have HF2 := hid (HSX.out s)
          clear HSX K0 K1 K2 P0 P1 P2 HC
          generalize s.out = w9 at *
          have hcq : cmpV q.2.v r.v = 0 := by rw [← HZ.out]; exact hz0
          have HAS := hid (add_same (r := r) HTK.out HQK.out hcq)
          clear hcq
          obtain ⟨cq, hcq⟩ : ∃ c, c = q.2.cost := ⟨_, rfl⟩
          rw [← hcq] at p2 HAS
          clear hcq
          by_cases hc : cq ≤ r.cost
          case pos =>
            have hs : ∀ s : Ci.Ext w9, Below w1.heap.size w1 s.out := fun s => HF2.out.trans (s.below.mono HF2.out.size)
            have HSX := hid hs
            have K2 := fun s : Ci.Ext w9 => ((hs s).cell (p := ⟨w.heap.size, 2, none⟩) hbx).trans k2
            have P2 := fun s : Ci.Ext w9 => ((hs s).cell (p := ⟨b, k * 3 + 2, none⟩) hb1).trans p2
            clear hs
            go_wp2_with fail
            refine Ci.wp_region_ext2 (by kernel_rfl) (by kernel_rfl) (fun hne hcell => ?_)
            clear hcell
            repeat (go_big_quiet_step (fail))
            refine wpQuiet_nil ?_
            intro w7 hw7
            obtain ⟨s, rfl⟩ := hw7
            have HF3 := hid (HSX.out s)
            clear HSX K2 P2
            generalize s.out = w10 at *
            have HB10 := hid (HUP.out.trans (HF3.out.mono HUP.out.size))
            have HR10 := hid (H.out.on HB10.out)
            go_wp2
            go_ret
            exact ⟨_, qs, rfl, HR10.out, by rw [HAS.out, if_pos hc], HB10.out⟩
          case neg =>
            have hcd : decide (cq ≤ r.cost) = false := decide_eq_false hc
            have hs : ∀ s : Ci.Ext w9, Below w1.heap.size w1 s.out := fun s => HF2.out.trans (s.below.mono HF2.out.size)
            have HSX := hid hs
            have K2 := fun s : Ci.Ext w9 => ((hs s).cell (p := ⟨w.heap.size, 2, none⟩) hbx).trans k2
            have P2 := fun s : Ci.Ext w9 => ((hs s).cell (p := ⟨b, k * 3 + 2, none⟩) hb1).trans p2
            clear hs
            go_wp2_with fail
            refine Ci.wp_region_ext2 (by kernel_rfl) (by kernel_rfl) (fun hne hcell => ?_)
            clear hcell
            repeat (go_big_quiet_step (fail))
            refine wpQuiet_nil ?_
            intro w7 hw7
            obtain ⟨s, rfl⟩ := hw7
            have HF3 := hid (HSX.out s)
            clear HSX K2 P2
            generalize s.out = w10 at *
            have HB10 := hid (HUP.out.trans (HF3.out.mono HUP.out.size))
            have HR10 := hid (H.out.on HB10.out)
            have E0 := hid (Kb.kr (B := B) (W0 := w10) (v := .slice (some ⟨w10.heap.size, 0, none⟩) 0 0) (w := w10.alloc (.cells #[] 36)) ⟨_, rfl, Nat.le_refl _, new_row _ _⟩ (Nat.le_trans hB HB10.out.size))
            have HAL := hid (up_alloc w10 (.cells #[] 36))
            have S1 := hid ((HR10.out.take (Nat.le_refl n)).on HAL.out)
            rw [List.take_of_length_le (by have := HN.out; omega)] at S1
            go_wp2_with (at_builtin; refine Hid.out ?_)
            refine hid ?_
            refine wpList_append_kr rfl _ _ rfl rfl rfl E0.out S1.out HR10.out.1 HAL.out (by have := HN.out; simp only [List.length_nil]; omega) (Nat.le_trans hB HB10.out.size) ?_
            intro v' y' hkr hb
            rw [List.nil_append] at hkr
            obtain ⟨g, cp, rfl, hg, hcp, hrg⟩ := hkr.rg (by have := HN.out; omega)
            have HRG := hid hrg
            have HBY := hid (HF3.out.trans (hb.mono HF3.out.size))
            have c2 := (HBY.out.cell (p := ⟨w.heap.size, 2, none⟩) hbx).trans k2
            obtain ⟨⟨_, _, g2⟩, gf⟩ := hrg.cells HQK.out
            have gf2 := gf (k * 3 + 2)
            have HG := hid (show w10.heap.size ≤ g from hg)
            have HBB := hid hb
            have HNL := hid HN.out
            rw [← HN.out]
            clear hkr hrg hb gf hg E0 S1 HAL
            rw [← HN.out] at hcp
            have hkc : (k : Int) < (cp : Int) := by omega
            go_wp2
            go_ret
            refine ⟨_, qs.set k (q.1, ⟨q.2.v, r.cost⟩), ?_, HRG.out.put1 HQK.out r.cost, by rw [HAS.out, if_neg (by omega)], HB10.out.trans ((HBB.out.setCell (p := ⟨g, k * 3 + 2, none⟩) HG.out _).mono HB10.out.size)⟩
            show Ending.returned (Value.slice (some ⟨g, 0, none⟩) n cp) = _
            rw [HN.out]
end Go.Proofs.YtjocpbcmehicmaaDoor
