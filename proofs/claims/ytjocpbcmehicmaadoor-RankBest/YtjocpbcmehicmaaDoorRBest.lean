/- The reference's Best: added one after the other, laid by cost. -/
import Derived.Test.YtjocpbcmehicmaaDoorAdd
import Derived.Test.YtjocpbcmehicmaaDoorMath3
namespace Go.Proofs.YtjocpbcmehicmaaDoor
open Go.RowKit

theorem RB.ra {B : Nat} {w : World} {u : Value} {qs : List (Value × Rd)} (h : RB B w u qs) (hl : qs.length ≤ 1000000) : RA w u (qs.map Prod.snd) := by
  have h' := h
  obtain ⟨hn, ad, cap, rfl, h1, h2, h3⟩ := h
  rcases h3 with ⟨rfl, rfl⟩ | ⟨b, rfl, hb, hc⟩
  · obtain rfl : qs = [] := List.length_eq_zero_iff.1 (by omega)
    exact ⟨Option.none, 0, rfl, ⟨by decide, by decide, by decide⟩, .inl ⟨rfl, rfl, rfl⟩⟩
  · refine ⟨_, cap, by rw [List.length_map], by rw [List.length_map]; exact ⟨hl, h1, h2⟩, .inr ⟨b, 0, rfl, hb, fun j hj => ?_⟩⟩
    rw [List.length_map] at hj
    have hp : qs[j]? = some qs[j] := List.getElem?_eq_getElem hj
    obtain ⟨b', e, _, c0, c1, c2⟩ := h'.cell hp
    injection e with e
    injection e with e
    subst e
    have e : (qs.map Prod.snd).getD j nilRd = qs[j].2 := by rw [List.getD_eq_getElem?_getD, List.getElem?_map, hp]; rfl
    rw [e, Nat.zero_add]
    exact ⟨qs[j].1, c0, c1, c2, (hn _ (List.getElem_mem hj)).ia⟩
theorem RB.front {B : Nat} {w : World} {ad : Option Addr} {n cap : Nat} {qs : List (Value × Rd)} (h : RB B w (.slice ad n cap) qs) {m : Nat} (hm : m ≤ n) : RB B w (.slice ad m cap) (qs.take m) := by
  obtain ⟨h1, ad, cap, e, h2, h3, h4⟩ := h
  injection e with e1 e2 e3
  subst e1 e2 e3
  refine ⟨fun q hq => h1 q (List.mem_of_mem_take hq), ad, cap, by rw [List.length_take, Nat.min_eq_left hm], by rw [List.length_take]; omega, h3, ?_⟩
  rcases h4 with h | ⟨bl, e, hlt, hc⟩
  · exact .inl h
  · exact .inr ⟨bl, e, hlt, fun t x hx => hc t x (rowR_take _ _ _ _ hx)⟩
theorem len_foldA : ∀ (m o : List Rd), (m.foldl addL o).length ≤ o.length + m.length
  | [], _ => Nat.le_refl _
  | r :: m, o => by
    have := len_foldA m (addL o r)
    have := len_addL r o
    rw [List.foldl_cons, List.length_cons]
    omega
theorem len_foldC : ∀ (m o : List Rd), (m.foldl insC o).length = o.length + m.length
  | [], _ => rfl
  | r :: m, o => by
    rw [List.foldl_cons, len_foldC, len_insC, List.length_cons]
    omega
/-- What an operation of the laying by cost makes. -/
def P13 (B : Nat) (W0 : World) (U U1 U2 UB kv iv ix : Value) (qs : List (Value × Rd)) (p : Value × Rd) (m : Nat) : Nat → Value → World → Prop
  | 0, v, w => Kb W0 v w
  | 1, v, _ => v = U
  | 2, v, _ => v = kv
  | 3, v, _ => v = U1
  | 4, v, w => Kr B W0 (qs.take m) v w
  | 5, v, _ => v = UB
  | 6, v, _ => v = iv
  | 7, v, _ => v = ix
  | 8, v, _ => v = .agg #[.int .i64 p.2.v.kind, p.1, .int .i64 p.2.cost]
  | 9, v, w => Ks W0 p v w
  | 10, v, w => Kr B W0 (qs.take m ++ [p]) v w
  | 11, v, _ => v = U
  | 12, v, _ => v = kv
  | 13, v, _ => v = U2
  | _, _, _ => True
theorem P13.on {B : Nat} {W0 w w' : World} {U U1 U2 UB kv iv ix : Value} {qs : List (Value × Rd)} {p : Value × Rd} {m : Nat} (hb : Below w.heap.size w w') : ∀ {j : Nat} {v : Value}, P13 B W0 U U1 U2 UB kv iv ix qs p m j v w → P13 B W0 U U1 U2 UB kv iv ix qs p m j v w'
  | 0, _, h => Kb.on h hb
  | 1, _, h => h
  | 2, _, h => h
  | 3, _, h => h
  | 4, _, h => Kr.on h hb
  | 5, _, h => h
  | 6, _, h => h
  | 7, _, h => h
  | 8, _, h => h
  | 9, _, h => Ks.on h hb
  | 10, _, h => Kr.on h hb
  | 11, _, h => h
  | 12, _, h => h
  | 13, _, h => h
  | _ + 14, _, _ => trivial
def D13 (j : Nat) : Nat := (#[4, 3, 3, 4, 10, 7, 7, 8, 9, 10, 14, 13, 13, 14] : Array Nat).getD j 99
theorem P13.keep4 {B : Nat} {W0 y y' : World} {U U1 U2 UB kv iv ix v0 : Value} {qs : List (Value × Rd)} {p : Value × Rd} {m : Nat} (W : Nat → Nat → Bool) (h70 : W 10 4 = true) (hv : Kb W0 v0 y) (hk : ∀ b, b < y.heap.size → v0.ownBlock ≠ some b → y'.heap[b]? = y.heap[b]?) :
    ∀ j u, j ≠ 4 → D13 j ≠ 4 → W j 4 = false → W 4 (D13 j) = false → P13 B W0 U U1 U2 UB kv iv ix qs p m j u y → P13 B W0 U U1 U2 UB kv iv ix qs p m j u y'
  | 0, _, _, h, _, _, _ => absurd rfl h
  | 1, _, _, _, _, _, h => h
  | 2, _, _, _, _, _, h => h
  | 3, _, _, _, _, _, h => h
  | 4, _, h, _, _, _, _ => absurd rfl h
  | 5, _, _, _, _, _, h => h
  | 6, _, _, _, _, _, h => h
  | 7, _, _, _, _, _, h => h
  | 8, _, _, _, _, _, h => h
  | 9, _, _, _, _, _, h => Ks.keep h hv hk
  | 10, _, _, _, h, _, _ => by rw [h70] at h; cases h
  | 11, _, _, _, _, _, h => h
  | 12, _, _, _, _, _, h => h
  | 13, _, _, _, _, _, h => h
  | _ + 14, _, _, _, _, _, _ => trivial
theorem P13.keep10 {B : Nat} {W0 y y' : World} {U U1 U2 UB kv iv ix : Value} {qs : List (Value × Rd)} {p : Value × Rd} {m : Nat} (W : Nat → Nat → Bool) (h74 : W 10 4 = true) :
    ∀ j u, j ≠ 10 → D13 j ≠ 10 → W j 10 = false → W 10 (D13 j) = false → P13 B W0 U U1 U2 UB kv iv ix qs p m j u y → P13 B W0 U U1 U2 UB kv iv ix qs p m j u y'
  | 0, _, _, _, _, h, _ => by rw [show D13 0 = 4 from rfl, h74] at h; cases h
  | 1, _, _, _, _, _, h => h
  | 2, _, _, _, _, _, h => h
  | 3, _, _, _, _, _, h => h
  | 4, _, _, h, _, _, _ => absurd rfl h
  | 5, _, _, _, _, _, h => h
  | 6, _, _, _, _, _, h => h
  | 7, _, _, _, _, _, h => h
  | 8, _, _, _, _, _, h => h
  | 9, _, _, h, _, _, _ => absurd rfl h
  | 10, _, h, _, _, _, _ => absurd rfl h
  | 11, _, _, _, _, _, h => h
  | 12, _, _, _, _, _, h => h
  | 13, _, _, _, _, _, h => h
  | _ + 14, _, _, _, _, _, _ => trivial
theorem ins_here {os : List (Value × Rd)} {p : Value × Rd} {k : Nat} (hs : SC (os.map Prod.snd)) (h1 : ∀ y ∈ (os.map Prod.snd).drop k, p.2.cost < y.cost) (h0 : ∀ y, 0 < k → (os.map Prod.snd)[k - 1]? = some y → ¬ p.2.cost < y.cost) (hk : k ≤ os.length) : (os.take k ++ [p] ++ os.drop k).map Prod.snd = insC (os.map Prod.snd) p.2 := by
  rw [insC_at hs h1 h0 (by rw [List.length_map]; exact hk)]
  simp

set_option maxRecDepth 8000 in
set_option maxHeartbeats 8000000 in
theorem rbest_any (B : Nat) (w : World) (u : Value) (qs : List (Value × Rd)) (most : Nat) (h : RB B w u qs) (hl : qs.length ≤ 900) (hB : B ≤ w.heap.size) (hm9 : most ≤ 1000000) :
    Calls Tryd.prog 19 #[u, .int .i64 (most : Int)] w fun e w' => ∃ v os, e = .returned (.tuple #[v, .bool (decide ((most : Int) < ((bestR (qs.map Prod.snd)).length : Int)))]) ∧ RB B w' v os ∧ os.map Prod.snd = (bestR (qs.map Prod.snd)).take most ∧ Below w.heap.size w w' := by
  have H := hid h
  have HQ := hid h.1
  obtain ⟨_, ad, cap, rfl, hn1, hn2, _⟩ := h
  obtain ⟨n, hn⟩ : ∃ n, n = qs.length := ⟨_, rfl⟩
  have HN := hid hn
  rw [← hn] at hn1 hl H ⊢
  clear hn
  go_enter Tryd.func19, Tryd.ntmps19
  go_wp2
  go_loopw [6, 7] (fun v6 v7 wr => ∃ (i : Nat) (bs : List (Value × Rd)), i ≤ n ∧ v7 = .int .i64 i ∧ Hid (RB B wr v6 bs) ∧ Hid (bs.map Prod.snd = ((qs.map Prod.snd).take i).foldl addL []) ∧ Hid (Below w.heap.size w wr)) (fun _ v7 _ => n - (intOf v7).toNat)
  case atStart => exact ⟨0, [], by omega, rfl, hid (RB.nil _ _), hid rfl, hid (Below.refl _ _)⟩
  case round =>
    obtain ⟨i, bs, hi, rfl, HRB, HBS, HB⟩ := hrel
    by_cases hlt : i < n
    case pos =>
      have hlt2 : (i : Int) < (n : Int) := by omega
      obtain ⟨q, hq⟩ : ∃ q, qs[i]? = some q := ⟨_, List.getElem?_eq_getElem (by rw [← HN.out]; exact hlt)⟩
      have HQK := hid hq
      have HQN := hid ((HQ.out q (List.mem_of_getElem? hq)).on HB.out)
      obtain ⟨b, rfl, hb0, q0, q1, q2⟩ := H.out.cell hq
      have p0 := (HB.out.cell (p := ⟨b, i * 3, none⟩) hb0).trans q0
      have p1 := (HB.out.cell (p := ⟨b, i * 3 + 1, none⟩) hb0).trans q1
      have p2 := (HB.out.cell (p := ⟨b, i * 3 + 2, none⟩) hb0).trans q2
      have HLB : Hid (bs.length ≤ i) := hid (by have := congrArg List.length HBS.out; rw [List.length_map] at this; have h2 := len_foldA ((qs.map Prod.snd).take i) []; rw [List.length_take] at h2; simp only [List.length_nil] at h2; omega)
      skip
      clear hq q0 q1 q2
      have HA := hid (radd_any B wr _ bs q HRB.out HQN.out (by have := HLB.out; omega) (Nat.le_trans hB HB.out.size))
      go_wp2_with fail
      refine HA.out.mono ?_
      rintro e w4 ⟨v', bs', rfl, hrb, hmap, hb⟩
      have HRB2 := hid hrb
      have HM2 := hid hmap
      have HB4 := hid (HB.out.trans (hb.mono HB.out.size))
      clear hrb hmap hb HA p0 p1 p2
      go_wp2
      go_round
      case rel =>
        refine ⟨i + 1, bs', by omega, by simp, HRB2, hid ?_, HB4⟩
        rw [HM2.out, HBS.out, fold_snoc _ _ (by rw [List.length_map, ← HN.out]; exact hlt)]
        congr 1
        rw [List.getD_eq_getElem?_getD, List.getElem?_map, HQK.out]
        rfl
      case measure => simp [intOf]; omega
    case neg =>
      obtain rfl : n = i := by omega
      have HBY : Hid (bs.map Prod.snd = byV (qs.map Prod.snd)) := hid (by rw [HBS.out, List.take_of_length_le (by rw [List.length_map, ← HN.out]; exact Nat.le_refl _)]; rfl)
      have HLB : Hid (bs.length ≤ 900) := hid (by have := congrArg List.length HBY.out; rw [List.length_map] at this; have h2 := len_foldA (qs.map Prod.snd) []; rw [List.length_map] at h2; simp only [List.length_nil] at h2; unfold byV at this; have := HN.out; omega)
      have hrb := HRB.out
      obtain ⟨hbn, ad2, cap2, e2, c1, c2, _⟩ := hrb
      have HNB := hid hbn
      subst e2
      obtain ⟨n2, hn2⟩ : ∃ n, n = bs.length := ⟨_, rfl⟩
      have HN2 := hid hn2
      rw [← hn2] at c1 HRB HLB ⊢
      clear hn2 hbn HBS
      have hn9 := HLB.out
      generalize wr = w2 at *
      go_wp2
      go_loopw [8, 9] (fun v8 v9 wr => ∃ (i : Nat) (os : List (Value × Rd)), i ≤ n2 ∧ v9 = .int .i64 i ∧ Hid (RB B wr v8 os) ∧ Hid (os.map Prod.snd = ((bs.map Prod.snd).take i).foldl insC []) ∧ Hid (Below w2.heap.size w2 wr)) (fun _ v9 _ => n2 - (intOf v9).toNat)
      case atStart => exact ⟨0, [], by omega, rfl, hid (RB.nil _ _), hid rfl, hid (Below.refl _ _)⟩
      case round =>
        obtain ⟨i, os, hi, rfl, HRO, HOS, HB2⟩ := hrel
        have hro := HRO.out
        obtain ⟨hon, ad3, cap3, e3, d1, d2, _⟩ := hro
        have HNO := hid hon
        subst e3
        obtain ⟨m, hm⟩ : ∃ n, n = os.length := ⟨_, rfl⟩
        have HM := hid hm
        rw [← hm] at d1 HRO ⊢
        clear hm hon
        have HLO : Hid (m = i) := hid (by have := congrArg List.length HOS.out; rw [List.length_map, len_foldC, List.length_take, List.length_map, ← HN2.out, ← HM.out] at this; simp only [List.length_nil] at this; omega)
        have HSC : Hid (SC (os.map Prod.snd)) := hid (by rw [HOS.out]; exact sc_fold _ _ (by simp [SC]))
        by_cases hlt : i < n2
        case neg =>
          obtain rfl : n2 = i := by omega
          have HBE : Hid (os.map Prod.snd = bestR (qs.map Prod.snd)) := hid (by rw [HOS.out, List.take_of_length_le (by rw [List.length_map, ← HN2.out]; exact Nat.le_refl _), HBY.out]; rfl)
          have HML : Hid ((bestR (qs.map Prod.snd)).length = m) := hid (by rw [← HBE.out, List.length_map, ← HM.out])
          have HB9 := hid (HB.out.trans (HB2.out.mono HB.out.size))
          by_cases hgt : most < m
          case neg =>
            have hgd : decide ((most : Int) < (m : Int)) = false := decide_eq_false (by omega)
            have hge : (m : Int) ≤ (most : Int) := by omega
            go_wp2
            go_ret2
            exact ⟨_, os, by rw [HML.out, hgd]; rfl, HRO.out, by rw [List.take_of_length_le (by rw [← HBE.out, List.length_map, ← HM.out]; omega)]; exact HBE.out, HB9.out⟩
          case pos =>
            have hgd : decide ((most : Int) < (m : Int)) = true := decide_eq_true (by omega)
            have hge : (most : Int) < (m : Int) := by omega
            have hgc : (most : Int) ≤ (cap3 : Int) := by omega
            cases ad3 with
            | none =>
              have := HRO.out.none.1
              omega
            | some a =>
              go_wp2
              go_ret2
              exact ⟨_, os.take most, by rw [HML.out, hgd]; rfl, HRO.out.front (Nat.le_of_lt hgt), by rw [List.map_take, HBE.out], HB9.out⟩
        case pos =>
          have hlt2 : (i : Int) < (n2 : Int) := by omega
          obtain ⟨q, hq⟩ : ∃ q, bs[i]? = some q := ⟨_, List.getElem?_eq_getElem (by rw [← HN2.out]; exact hlt)⟩
          have HQK := hid hq
          have HRB2 := hid (HRB.out.on HB2.out)
          have HQN := hid (HRB2.out.1 q (List.mem_of_getElem? hq))
          obtain ⟨b2, rfl, hb0, q0, q1, q2⟩ := HRB2.out.cell hq
          clear hq
          obtain ⟨cq, hcq⟩ : ∃ c, c = q.2.cost := ⟨_, rfl⟩
          have HCQ := hid hcq
          rw [← hcq] at q2
          clear hcq
          generalize wr = w3 at *
          go_wp2
          go_loopw [10] (fun v wr => ∃ k : Nat, k ≤ m ∧ v = .int .i64 k ∧ Hid (∀ y ∈ (os.map Prod.snd).drop k, q.2.cost < y.cost) ∧ Hid (Below w3.heap.size w3 wr)) (fun v _ => (intOf v).toNat)
          case atStart => exact ⟨m, by omega, rfl, hid (by rw [List.drop_eq_nil_of_le (by rw [List.length_map, ← HM.out]; exact Nat.le_refl _)]; simp), hid (Below.refl _ _)⟩
          case round =>
            obtain ⟨k, hk, rfl, HDK, HB3⟩ := hrel
            have hs : ∀ s : Ci.Ext wr, Below w3.heap.size w3 s.out := fun s => HB3.out.trans (s.below.mono HB3.out.size)
            have HSX := hid hs
            have Q2 := fun s : Ci.Ext wr => ((hs s).cell (p := ⟨b2, i * 3 + 2, none⟩) hb0).trans q2
            by_cases hk0 : k = 0
            case pos =>
              subst hk0
              clear hs
              go_wp2_with fail
              refine Ci.wp_region_ext2 (by kernel_rfl) (by kernel_rfl) (fun hne hcell => ?_)
              clear hcell
              repeat (go_big_quiet_step (fail))
              refine wpQuiet_nil ?_
              intro w7 hw7
              obtain ⟨s, rfl⟩ := hw7
              have HF := hid (HSX.out s)
              clear HSX Q2
              generalize s.out = w9 at *
              have HB29 := hid (HB2.out.trans (HF.out.mono HB2.out.size))
              have HR9 := hid (HRO.out.on HF.out)
              have HBW := hid (Nat.le_trans hB (Nat.le_trans HB.out.size HB29.out.size))
              have HWU := hid fun (y : World) (h : Below w9.heap.size w9 y) => h
              have HP9 := hid (HQN.out.on HF.out)
              have hb9 : b2 < w9.heap.size := Nat.lt_of_lt_of_le hb0 HF.out.size
              have c0 := (HF.out.cell (p := ⟨b2, i * 3, none⟩) hb0).trans q0
              have c1 := (HF.out.cell (p := ⟨b2, i * 3 + 1, none⟩) hb0).trans q1
              have c2 := (HF.out.cell (p := ⟨b2, i * 3 + 2, none⟩) hb0).trans q2
              rw [HCQ.out] at c2
              have S1L : Hid (m ≤ 900) := hid (by have a := HLO.out; have b := HLB.out; omega)
              have HIN := hid (ins_here (p := q) HSC.out HDK.out (fun y h => absurd h (by omega)) (Nat.zero_le _))
              cases ad3 with
              | none =>
                obtain ⟨hm0', hc0', hon⟩ := HR9.out.none
                subst hc0'
                obtain rfl : m = 0 := hm0'
                have S1 := hid (HR9.out.take (Nat.le_refl 0))
                have S2 : Hid (RS B w9 (.slice none 0 0) (os.drop 0)) := hid (by rw [hon] at *; exact S1.out)
                clear hon
                go_wp2_with fail
                refine wp_region_head (n := 14) (D := D13) (by kernel_rfl) (by kernel_rfl) (fun us => ⟨#[.slice ad n cap, .int .i64 (most : Nat), undef, undef, .slice none 0 0, .bool false, .slice (some ⟨b2, 0, none⟩) n2 cap2, .int .i64 (n : Nat), .slice none 0 0, .int .i64 (i : Nat), .int .i64 (0 : Nat), .int .i64 (n : Nat), .slice ad n cap, .int .i64 (n : Nat), .bool false, u15, u16, u17, u18, u19, u20, u21, u22, .int .i64 (i : Nat), .slice (some ⟨b2, 0, none⟩) n2 cap2, .int .i64 (n2 : Nat), .bool true, u27, u28, .slice none 0 0, .int .i64 (0 : Nat), .int .i64 (0 : Nat), .bool false, .bool false, undef, undef, undef, undef, undef, undef, undef, undef, undef, undef, undef, undef, .bool false, u47, u48, us 0, us 1, us 2, us 3, us 4, us 5, us 6, us 7, us 8, us 9, us 10, us 11, us 12, us 13, u63, undef, undef, undef, undef, undef, undef, undef, undef], []⟩) (P13 B w9 (.slice none 0 0) (.slice none 0 0) (.slice none 0 0) (.slice (some ⟨b2, 0, none⟩) n2 cap2) (.int .i64 (0 : Nat)) (.int .i64 (i : Nat)) (.pointer (some ⟨b2, i * 3, none⟩)) os q 0) (fun y => Below w9.heap.size w9 y) (fun i => (#[u49, u50, u51, u52, u53, u54, u55, u56, u57, u58, u59, u60, u61, u62] : Array Value).getD i undef) (by rfl) ((Below.refl _ _).drew) ?_ ?_
                case refine_1 =>
                  intro j hj us y hC hd
                  rcases (by omega : j = 0 ∨ j = 1 ∨ j = 2 ∨ j = 3 ∨ j = 4 ∨ j = 5 ∨ j = 6 ∨ j = 7 ∨ j = 8 ∨ j = 9 ∨ j = 10 ∨ j = 11 ∨ j = 12 ∨ j = 13) with rfl | rfl | rfl | rfl | rfl | rfl | rfl | rfl | rfl | rfl | rfl | rfl | rfl | rfl
                  · refine wpOp_step rfl (fun K hK => ?_)
                    rw [if_pos (by rfl)]
                    go_simp
                    exact hK _ _ ⟨_, rfl, ⟨_, rfl, hC.size, new_row _ _⟩, up_trans hC (up_alloc _ _), fun _ _ _ _ _ _ h => P13.on (up_alloc _ _) h⟩
                  · refine wpOp_step rfl (fun K hK => ?_)
                    rw [if_pos (by rfl)]
                    go_simp
                    exact hK _ _ ⟨_, rfl, rfl, hC, fun _ _ _ _ _ _ h => h⟩
                  · refine wpOp_step rfl (fun K hK => ?_)
                    rw [if_pos (by rfl)]
                    go_simp
                    exact hK _ _ ⟨_, rfl, rfl, hC, fun _ _ _ _ _ _ h => h⟩
                  · have e1 : us 1 = (.slice none 0 0) := hd _ rfl ⟨1, .data⟩ (by simp) rfl
                    have e2 : us 2 = (.int .i64 (0 : Nat)) := hd _ rfl ⟨2, .data⟩ (by simp) rfl
                    refine wpOp_step rfl (fun K hK => ?_)
                    rw [if_pos (by rfl)]
                    rw [e1, e2]
                    go_simp
                    exact hK _ _ ⟨_, by simp [upd, e1, e2], rfl, hC, fun _ _ _ _ _ _ h => h⟩
                  · have h0 : Kb w9 (us 0) y := hd _ rfl ⟨0, .data⟩ (by simp) rfl
                    have e3 : us 3 = (.slice none 0 0) := hd _ rfl ⟨3, .data⟩ (by simp) rfl
                    obtain ⟨v', y', hr, h2, h3, h4⟩ := (h0.kr (B := B) HBW.out).append 28 (S1.out.on (HWU.out y hC)) (fun q hq => HR9.out.1 q (List.mem_of_mem_take hq)) hC (by have := S1L.out; simp only [List.length_nil, List.length_take]; omega) HBW.out
                    refine wpOp_step rfl (fun K hK => ?_)
                    rw [if_pos (by rfl)]
                    refine oper_append (.tmp 49) (.tmp 52) rfl (v' := v') (y' := y') (by rw [← e3] at hr; exact hr) ?_
                    exact hK _ _ ⟨v', rfl, h2, h3, P13.keep4 (Region.waitsFor .any _) (by kernel_rfl) h0 h4⟩
                  · refine wpOp_step rfl (fun K hK => ?_)
                    rw [if_pos (by rfl)]
                    go_simp
                    exact hK _ _ ⟨_, rfl, rfl, hC, fun _ _ _ _ _ _ h => h⟩
                  · refine wpOp_step rfl (fun K hK => ?_)
                    rw [if_pos (by rfl)]
                    go_simp
                    exact hK _ _ ⟨_, rfl, rfl, hC, fun _ _ _ _ _ _ h => h⟩
                  · have e5 : us 5 = (.slice (some ⟨b2, 0, none⟩) n2 cap2) := hd _ rfl ⟨5, .data⟩ (by simp) rfl
                    have e6 : us 6 = (.int .i64 (i : Nat)) := hd _ rfl ⟨6, .data⟩ (by simp) rfl
                    refine wpOp_step rfl (fun K hK => ?_)
                    rw [if_pos (by rfl)]
                    rw [e5, e6]
                    go_simp
                    exact hK _ _ ⟨_, by simp [upd, e5, e6], rfl, hC, fun _ _ _ _ _ _ h => h⟩
                  · have e7 : us 7 = (.pointer (some ⟨b2, i * 3, none⟩)) := hd _ rfl ⟨7, .data⟩ (by simp) rfl
                    have a0 := (hC.cell (p := ⟨b2, i * 3, none⟩) hb9).trans c0
                    have a1 := (hC.cell (p := ⟨b2, i * 3 + 1, none⟩) hb9).trans c1
                    have a2 := (hC.cell (p := ⟨b2, i * 3 + 2, none⟩) hb9).trans c2
                    refine wpOp_step rfl (fun K hK => ?_)
                    rw [if_pos (by rfl)]
                    rw [e7]
                    go_simp
                    exact hK _ _ ⟨_, by simp [upd, e7], rfl, hC, fun _ _ _ _ _ _ h => h⟩
                  · have e8 : us 8 = (.agg #[.int .i64 q.2.v.kind, q.1, .int .i64 q.2.cost]) := hd _ rfl ⟨8, .data⟩ (by simp) rfl
                    refine wpOp_step rfl (fun K hK => ?_)
                    rw [if_pos (by rfl)]
                    rw [e8]
                    go_simp
                    exact hK _ _ ⟨_, by simp [upd, e8], ⟨_, rfl, hC.size, new_row _ _⟩, up_trans hC (up_alloc _ _), fun _ _ _ _ _ _ h => P13.on (up_alloc _ _) h⟩
                  · have h4 : Kr B w9 (os.take 0) (us 4) y := hd _ rfl ⟨4, .data⟩ (by simp) rfl
                    have h9 : Ks w9 q (us 9) y := hd _ rfl ⟨9, .data⟩ (by simp) rfl
                    obtain ⟨v', y', hr, h2, h3, _⟩ := h4.append 28 (h9.rs (HP9.out.on (HWU.out y hC))) (fun q hq => by rw [List.mem_singleton.1 hq]; exact HP9.out) hC (by have := S1L.out; simp only [List.length_singleton, List.length_take]; omega) HBW.out
                    refine wpOp_step rfl (fun K hK => ?_)
                    rw [if_pos (by rfl)]
                    refine oper_append (.tmp 53) (.tmp 58) rfl (v' := v') (y' := y') hr ?_
                    exact hK _ _ ⟨v', rfl, h2, h3, P13.keep10 (Region.waitsFor .any _) (by kernel_rfl)⟩
                  · refine wpOp_step rfl (fun K hK => ?_)
                    rw [if_pos (by rfl)]
                    go_simp
                    exact hK _ _ ⟨_, rfl, rfl, hC, fun _ _ _ _ _ _ h => h⟩
                  · refine wpOp_step rfl (fun K hK => ?_)
                    rw [if_pos (by rfl)]
                    go_simp
                    exact hK _ _ ⟨_, rfl, rfl, hC, fun _ _ _ _ _ _ h => h⟩
                  · have e11 : us 11 = (.slice none 0 0) := hd _ rfl ⟨11, .data⟩ (by simp) rfl
                    have e12 : us 12 = (.int .i64 (0 : Nat)) := hd _ rfl ⟨12, .data⟩ (by simp) rfl
                    refine wpOp_step rfl (fun K hK => ?_)
                    rw [if_pos (by rfl)]
                    rw [e11, e12]
                    go_simp
                    exact hK _ _ ⟨_, by simp [upd, e11, e12], rfl, hC, fun _ _ _ _ _ _ h => h⟩
                case refine_2 =>
                  intro us y hC hd
                  have h10 : Kr B w9 (os.take 0 ++ [q]) (us 10) y := hd 10 (by omega) (by decide)
                  have e13 : us 13 = (.slice none 0 0) := hd 13 (by omega) (by decide)
                  refine wpList_append_kr rfl (.tmp 59) (.tmp 62) rfl rfl e13 h10 (S2.out.on (HWU.out y hC)) (fun q hq => HR9.out.1 q (List.mem_of_mem_drop hq)) hC (by have := S1L.out; have := HM.out; simp only [List.length_append, List.length_singleton, List.length_take, List.length_drop]; omega) HBW.out ?_
                  intro v' y' hkr hb
                  have HKR := hid hkr.1.rb
                  have HBE := hid (HB29.out.trans (hb.mono HB29.out.size))
                  clear hkr hb hd hC h10 e13
                  go_wp2
                  go_round
                  case rel =>
                    refine ⟨i + 1, _, by omega, by simp, HKR, hid ?_, HBE⟩
                    rw [HIN.out, HOS.out, fold_snoc _ _ (by rw [List.length_map, ← HN2.out]; exact hlt)]
                    congr 1
                    rw [List.getD_eq_getElem?_getD, List.getElem?_map, HQK.out]
                    rfl
                  case measure => simp [intOf]; omega
              | some a =>
                obtain ⟨b3, e, hb3⟩ : ∃ b, a = ⟨b, 0, none⟩ ∧ b < w9.heap.size := by
                  obtain ⟨_, ad, cap, e, _, _, h4⟩ := HR9.out
                  injection e with e1 e2 e3
                  rcases h4 with ⟨h, _⟩ | ⟨b, h, hb, _⟩
                  · rw [h] at e1; cases e1
                  · rw [h] at e1; injection e1 with e1; exact ⟨b, e1, hb⟩
                subst e
                have S1 := hid (HR9.out.take (Nat.zero_le m))
                have S2 := hid (rb_dropS2 HR9.out (Nat.zero_le m))
                rw [Nat.sub_zero, Nat.sub_zero, show (if cap3 = 0 then some (⟨b3, 0, none⟩ : Addr) else some ⟨b3, 0 * 3, none⟩) = some ⟨b3, 0, none⟩ by split <;> simp] at S2
                go_wp2_with fail
                refine wp_region_head (n := 14) (D := D13) (by kernel_rfl) (by kernel_rfl) (fun us => ⟨#[.slice ad n cap, .int .i64 (most : Nat), undef, undef, .slice none 0 0, .bool false, .slice (some ⟨b2, 0, none⟩) n2 cap2, .int .i64 (n : Nat), .slice (some ⟨b3, 0, none⟩) m cap3, .int .i64 (i : Nat), .int .i64 (0 : Nat), .int .i64 (n : Nat), .slice ad n cap, .int .i64 (n : Nat), .bool false, u15, u16, u17, u18, u19, u20, u21, u22, .int .i64 (i : Nat), .slice (some ⟨b2, 0, none⟩) n2 cap2, .int .i64 (n2 : Nat), .bool true, u27, u28, .slice (some ⟨b3, 0, none⟩) m cap3, .int .i64 (m : Nat), .int .i64 (0 : Nat), .bool false, .bool false, undef, undef, undef, undef, undef, undef, undef, undef, undef, undef, undef, undef, .bool false, u47, u48, us 0, us 1, us 2, us 3, us 4, us 5, us 6, us 7, us 8, us 9, us 10, us 11, us 12, us 13, u63, undef, undef, undef, undef, undef, undef, undef, undef], []⟩) (P13 B w9 (.slice (some ⟨b3, 0, none⟩) m cap3) (.slice (some ⟨b3, 0, none⟩) 0 cap3) (.slice (some ⟨b3, 0, none⟩) m cap3) (.slice (some ⟨b2, 0, none⟩) n2 cap2) (.int .i64 (0 : Nat)) (.int .i64 (i : Nat)) (.pointer (some ⟨b2, i * 3, none⟩)) os q 0) (fun y => Below w9.heap.size w9 y) (fun i => (#[u49, u50, u51, u52, u53, u54, u55, u56, u57, u58, u59, u60, u61, u62] : Array Value).getD i undef) (by rfl) ((Below.refl _ _).drew) ?_ ?_
                case refine_1 =>
                  intro j hj us y hC hd
                  rcases (by omega : j = 0 ∨ j = 1 ∨ j = 2 ∨ j = 3 ∨ j = 4 ∨ j = 5 ∨ j = 6 ∨ j = 7 ∨ j = 8 ∨ j = 9 ∨ j = 10 ∨ j = 11 ∨ j = 12 ∨ j = 13) with rfl | rfl | rfl | rfl | rfl | rfl | rfl | rfl | rfl | rfl | rfl | rfl | rfl | rfl
                  · refine wpOp_step rfl (fun K hK => ?_)
                    rw [if_pos (by rfl)]
                    go_simp
                    exact hK _ _ ⟨_, rfl, ⟨_, rfl, hC.size, new_row _ _⟩, up_trans hC (up_alloc _ _), fun _ _ _ _ _ _ h => P13.on (up_alloc _ _) h⟩
                  · refine wpOp_step rfl (fun K hK => ?_)
                    rw [if_pos (by rfl)]
                    go_simp
                    exact hK _ _ ⟨_, rfl, rfl, hC, fun _ _ _ _ _ _ h => h⟩
                  · refine wpOp_step rfl (fun K hK => ?_)
                    rw [if_pos (by rfl)]
                    go_simp
                    exact hK _ _ ⟨_, rfl, rfl, hC, fun _ _ _ _ _ _ h => h⟩
                  · have e1 : us 1 = (.slice (some ⟨b3, 0, none⟩) m cap3) := hd _ rfl ⟨1, .data⟩ (by simp) rfl
                    have e2 : us 2 = (.int .i64 (0 : Nat)) := hd _ rfl ⟨2, .data⟩ (by simp) rfl
                    refine wpOp_step rfl (fun K hK => ?_)
                    rw [if_pos (by rfl)]
                    rw [e1, e2]
                    go_simp
                    exact hK _ _ ⟨_, by simp [upd, e1, e2], rfl, hC, fun _ _ _ _ _ _ h => h⟩
                  · have h0 : Kb w9 (us 0) y := hd _ rfl ⟨0, .data⟩ (by simp) rfl
                    have e3 : us 3 = (.slice (some ⟨b3, 0, none⟩) 0 cap3) := hd _ rfl ⟨3, .data⟩ (by simp) rfl
                    obtain ⟨v', y', hr, h2, h3, h4⟩ := (h0.kr (B := B) HBW.out).append 28 (S1.out.on (HWU.out y hC)) (fun q hq => HR9.out.1 q (List.mem_of_mem_take hq)) hC (by have := S1L.out; simp only [List.length_nil, List.length_take]; omega) HBW.out
                    refine wpOp_step rfl (fun K hK => ?_)
                    rw [if_pos (by rfl)]
                    refine oper_append (.tmp 49) (.tmp 52) rfl (v' := v') (y' := y') (by rw [← e3] at hr; exact hr) ?_
                    exact hK _ _ ⟨v', rfl, h2, h3, P13.keep4 (Region.waitsFor .any _) (by kernel_rfl) h0 h4⟩
                  · refine wpOp_step rfl (fun K hK => ?_)
                    rw [if_pos (by rfl)]
                    go_simp
                    exact hK _ _ ⟨_, rfl, rfl, hC, fun _ _ _ _ _ _ h => h⟩
                  · refine wpOp_step rfl (fun K hK => ?_)
                    rw [if_pos (by rfl)]
                    go_simp
                    exact hK _ _ ⟨_, rfl, rfl, hC, fun _ _ _ _ _ _ h => h⟩
                  · have e5 : us 5 = (.slice (some ⟨b2, 0, none⟩) n2 cap2) := hd _ rfl ⟨5, .data⟩ (by simp) rfl
                    have e6 : us 6 = (.int .i64 (i : Nat)) := hd _ rfl ⟨6, .data⟩ (by simp) rfl
                    refine wpOp_step rfl (fun K hK => ?_)
                    rw [if_pos (by rfl)]
                    rw [e5, e6]
                    go_simp
                    exact hK _ _ ⟨_, by simp [upd, e5, e6], rfl, hC, fun _ _ _ _ _ _ h => h⟩
                  · have e7 : us 7 = (.pointer (some ⟨b2, i * 3, none⟩)) := hd _ rfl ⟨7, .data⟩ (by simp) rfl
                    have a0 := (hC.cell (p := ⟨b2, i * 3, none⟩) hb9).trans c0
                    have a1 := (hC.cell (p := ⟨b2, i * 3 + 1, none⟩) hb9).trans c1
                    have a2 := (hC.cell (p := ⟨b2, i * 3 + 2, none⟩) hb9).trans c2
                    refine wpOp_step rfl (fun K hK => ?_)
                    rw [if_pos (by rfl)]
                    rw [e7]
                    go_simp
                    exact hK _ _ ⟨_, by simp [upd, e7], rfl, hC, fun _ _ _ _ _ _ h => h⟩
                  · have e8 : us 8 = (.agg #[.int .i64 q.2.v.kind, q.1, .int .i64 q.2.cost]) := hd _ rfl ⟨8, .data⟩ (by simp) rfl
                    refine wpOp_step rfl (fun K hK => ?_)
                    rw [if_pos (by rfl)]
                    rw [e8]
                    go_simp
                    exact hK _ _ ⟨_, by simp [upd, e8], ⟨_, rfl, hC.size, new_row _ _⟩, up_trans hC (up_alloc _ _), fun _ _ _ _ _ _ h => P13.on (up_alloc _ _) h⟩
                  · have h4 : Kr B w9 (os.take 0) (us 4) y := hd _ rfl ⟨4, .data⟩ (by simp) rfl
                    have h9 : Ks w9 q (us 9) y := hd _ rfl ⟨9, .data⟩ (by simp) rfl
                    obtain ⟨v', y', hr, h2, h3, _⟩ := h4.append 28 (h9.rs (HP9.out.on (HWU.out y hC))) (fun q hq => by rw [List.mem_singleton.1 hq]; exact HP9.out) hC (by have := S1L.out; simp only [List.length_singleton, List.length_take]; omega) HBW.out
                    refine wpOp_step rfl (fun K hK => ?_)
                    rw [if_pos (by rfl)]
                    refine oper_append (.tmp 53) (.tmp 58) rfl (v' := v') (y' := y') hr ?_
                    exact hK _ _ ⟨v', rfl, h2, h3, P13.keep10 (Region.waitsFor .any _) (by kernel_rfl)⟩
                  · refine wpOp_step rfl (fun K hK => ?_)
                    rw [if_pos (by rfl)]
                    go_simp
                    exact hK _ _ ⟨_, rfl, rfl, hC, fun _ _ _ _ _ _ h => h⟩
                  · refine wpOp_step rfl (fun K hK => ?_)
                    rw [if_pos (by rfl)]
                    go_simp
                    exact hK _ _ ⟨_, rfl, rfl, hC, fun _ _ _ _ _ _ h => h⟩
                  · have e11 : us 11 = (.slice (some ⟨b3, 0, none⟩) m cap3) := hd _ rfl ⟨11, .data⟩ (by simp) rfl
                    have e12 : us 12 = (.int .i64 (0 : Nat)) := hd _ rfl ⟨12, .data⟩ (by simp) rfl
                    refine wpOp_step rfl (fun K hK => ?_)
                    rw [if_pos (by rfl)]
                    rw [e11, e12]
                    go_simp
                    exact hK _ _ ⟨_, by simp [upd, e11, e12], rfl, hC, fun _ _ _ _ _ _ h => h⟩
                case refine_2 =>
                  intro us y hC hd
                  have h10 : Kr B w9 (os.take 0 ++ [q]) (us 10) y := hd 10 (by omega) (by decide)
                  have e13 : us 13 = (.slice (some ⟨b3, 0, none⟩) m cap3) := hd 13 (by omega) (by decide)
                  refine wpList_append_kr rfl (.tmp 59) (.tmp 62) rfl rfl e13 h10 (S2.out.on (HWU.out y hC)) (fun q hq => HR9.out.1 q (List.mem_of_mem_drop hq)) hC (by have := S1L.out; have := HM.out; simp only [List.length_append, List.length_singleton, List.length_take, List.length_drop]; omega) HBW.out ?_
                  intro v' y' hkr hb
                  have HKR := hid hkr.1.rb
                  have HBE := hid (HB29.out.trans (hb.mono HB29.out.size))
                  clear hkr hb hd hC h10 e13
                  go_wp2
                  go_round
                  case rel =>
                    refine ⟨i + 1, _, by omega, by simp, HKR, hid ?_, HBE⟩
                    rw [HIN.out, HOS.out, fold_snoc _ _ (by rw [List.length_map, ← HN2.out]; exact hlt)]
                    congr 1
                    rw [List.getD_eq_getElem?_getD, List.getElem?_map, HQK.out]
                    rfl
                  case measure => simp [intOf]; omega
            case neg =>
              obtain ⟨k', hk'⟩ : ∃ k', k = k' + 1 := ⟨k - 1, by omega⟩
              subst hk'
              clear hk0
              obtain ⟨x, hx⟩ : ∃ x, os[k']? = some x := ⟨_, List.getElem?_eq_getElem (by rw [← HM.out]; omega)⟩
              have HXK := hid hx
              obtain ⟨b3, rfl, hb3, x0, x1, x2⟩ := HRO.out.cell hx
              clear hx x0 x1
              obtain ⟨cx, hcx⟩ : ∃ c, c = x.2.cost := ⟨_, rfl⟩
              have HCX := hid hcx
              rw [← hcx] at x2
              clear hcx
              have X2 := fun s : Ci.Ext wr => ((hs s).cell (p := ⟨b3, k' * 3 + 2, none⟩) hb3).trans x2
              clear hs
              have hi1 : (0 : Int) < (k' : Int) + 1 := by omega
              have hd1 : decide ((0 : Int) < (k' : Int) + 1) = true := decide_eq_true hi1
              have hi2 : (k' : Int) < (m : Int) := by omega
              have hwi : IntKind.i64.wrap (k' : Int) = (k' : Int) := by have a := HLO.out; have b := HLB.out; rw [IntKind.wrap_i64]; omega
              by_cases hc : cq < cx
              case pos =>
                go_wp2_with fail
                refine Ci.wp_region_ext2 (by kernel_rfl) (by kernel_rfl) (fun hne hcell => ?_)
                clear hcell
                repeat (go_big_quiet_step (fail))
                refine wpQuiet_nil ?_
                intro w7 hw7
                obtain ⟨s, rfl⟩ := hw7
                have HF := hid (HSX.out s)
                clear HSX Q2 X2
                go_wp2
                go_round
                case rel =>
                  refine ⟨k', by omega, by simp, hid (fun y hy => ?_), HF⟩
                  rw [List.drop_eq_getElem_cons (by rw [List.length_map, ← HM.out]; omega)] at hy
                  rcases List.mem_cons.1 hy with rfl | hy
                  · have e : (os.map Prod.snd)[k']? = some x.2 := by rw [List.getElem?_map, HXK.out]; rfl
                    rw [(List.getElem?_eq_some_iff.1 e).2, ← HCQ.out, ← HCX.out]; exact hc
                  · exact HDK.out y hy
                case measure => simp [intOf]
              case neg =>
                have hcd : decide (cq < cx) = false := decide_eq_false hc
                go_wp2_with fail
                refine Ci.wp_region_ext2 (by kernel_rfl) (by kernel_rfl) (fun hne hcell => ?_)
                clear hcell
                repeat (go_big_quiet_step (fail))
                refine wpQuiet_nil ?_
                intro w7 hw7
                obtain ⟨s, rfl⟩ := hw7
                have HF := hid (HSX.out s)
                generalize s.out = w9 at *
                obtain ⟨k, hkk⟩ : ∃ k, k = k' + 1 := ⟨_, rfl⟩
                rw [← hkk] at HDK hk
                rw [show (k' : Int) + 1 = (k : Int) by omega]
                have HB29 := hid (HB2.out.trans (HF.out.mono HB2.out.size))
                have HR9 := hid (HRO.out.on HF.out)
                have HBW := hid (Nat.le_trans hB (Nat.le_trans HB.out.size HB29.out.size))
                have HWU := hid fun (y : World) (h : Below w9.heap.size w9 y) => h
                have HP9 := hid (HQN.out.on HF.out)
                have hb9 : b2 < w9.heap.size := Nat.lt_of_lt_of_le hb0 HF.out.size
                have c0 := (HF.out.cell (p := ⟨b2, i * 3, none⟩) hb0).trans q0
                have c1 := (HF.out.cell (p := ⟨b2, i * 3 + 1, none⟩) hb0).trans q1
                have c2 := (HF.out.cell (p := ⟨b2, i * 3 + 2, none⟩) hb0).trans q2
                rw [HCQ.out] at c2
                have S1L : Hid (m ≤ 900) := hid (by have a := HLO.out; have b := HLB.out; omega)
                have HIN := hid (ins_here (p := q) (k := k) HSC.out HDK.out (fun y _ hy => by rw [show k - 1 = k' by omega, List.getElem?_map, HXK.out] at hy; injection hy with hy; rw [← hy, ← HCQ.out, ← HCX.out]; omega) (by rw [← HM.out]; omega))
                have hkc : (k : Int) ≤ (cap3 : Int) := by omega
                have hkm : (k : Int) ≤ (m : Int) := by omega
                have S1 := hid (HR9.out.take (show k ≤ m by omega))
                have S2 := hid (rb_dropS2 HR9.out (show k ≤ m by omega))
                have hkm2 : k ≤ m := by omega
                clear HSX Q2 X2 hi1 hd1 hwi hkk hi2
                go_wp2_with fail
                refine wp_region_head (n := 14) (D := D13) (by kernel_rfl) (by kernel_rfl) (fun us => ⟨#[.slice ad n cap, .int .i64 (most : Nat), undef, undef, .slice none 0 0, .bool false, .slice (some ⟨b2, 0, none⟩) n2 cap2, .int .i64 (n : Nat), .slice (some ⟨b3, 0, none⟩) m cap3, .int .i64 (i : Nat), .int .i64 (k : Nat), .int .i64 (n : Nat), .slice ad n cap, .int .i64 (n : Nat), .bool false, u15, u16, u17, u18, u19, u20, u21, u22, .int .i64 (i : Nat), .slice (some ⟨b2, 0, none⟩) n2 cap2, .int .i64 (n2 : Nat), .bool true, u27, u28, .slice (some ⟨b3, 0, none⟩) m cap3, .int .i64 (m : Nat), .int .i64 (k : Nat), .bool true, .bool true, .slice (some ⟨b2, 0, none⟩) n2 cap2, .int .i64 (i : Nat), .pointer (some ⟨b2, i * 3, none⟩), .pointer (some ⟨b2, i * 3 + 2, none⟩), .int .i64 cq, .slice (some ⟨b3, 0, none⟩) m cap3, .int .i64 (k : Nat), .int .i64 (k' : Nat), .pointer (some ⟨b3, k' * 3, none⟩), .pointer (some ⟨b3, k' * 3 + 2, none⟩), .int .i64 cx, .bool false, .bool false, u47, u48, us 0, us 1, us 2, us 3, us 4, us 5, us 6, us 7, us 8, us 9, us 10, us 11, us 12, us 13, u63, undef, undef, undef, undef, undef, undef, undef, undef], []⟩) (P13 B w9 (.slice (some ⟨b3, 0, none⟩) m cap3) (.slice (some ⟨b3, 0, none⟩) k cap3) (.slice (if cap3 = k then some ⟨b3, 0, none⟩ else some ⟨b3, k * 3, none⟩) (m - k) (cap3 - k)) (.slice (some ⟨b2, 0, none⟩) n2 cap2) (.int .i64 (k : Nat)) (.int .i64 (i : Nat)) (.pointer (some ⟨b2, i * 3, none⟩)) os q k) (fun y => Below w9.heap.size w9 y) (fun i => (#[u49, u50, u51, u52, u53, u54, u55, u56, u57, u58, u59, u60, u61, u62] : Array Value).getD i undef) (by rfl) ((Below.refl _ _).drew) ?_ ?_
                case refine_1 =>
                  intro j hj us y hC hd
                  rcases (by omega : j = 0 ∨ j = 1 ∨ j = 2 ∨ j = 3 ∨ j = 4 ∨ j = 5 ∨ j = 6 ∨ j = 7 ∨ j = 8 ∨ j = 9 ∨ j = 10 ∨ j = 11 ∨ j = 12 ∨ j = 13) with rfl | rfl | rfl | rfl | rfl | rfl | rfl | rfl | rfl | rfl | rfl | rfl | rfl | rfl
                  · refine wpOp_step rfl (fun K hK => ?_)
                    rw [if_pos (by rfl)]
                    go_simp
                    exact hK _ _ ⟨_, rfl, ⟨_, rfl, hC.size, new_row _ _⟩, up_trans hC (up_alloc _ _), fun _ _ _ _ _ _ h => P13.on (up_alloc _ _) h⟩
                  · refine wpOp_step rfl (fun K hK => ?_)
                    rw [if_pos (by rfl)]
                    go_simp
                    exact hK _ _ ⟨_, rfl, rfl, hC, fun _ _ _ _ _ _ h => h⟩
                  · refine wpOp_step rfl (fun K hK => ?_)
                    rw [if_pos (by rfl)]
                    go_simp
                    exact hK _ _ ⟨_, rfl, rfl, hC, fun _ _ _ _ _ _ h => h⟩
                  · have e1 : us 1 = (.slice (some ⟨b3, 0, none⟩) m cap3) := hd _ rfl ⟨1, .data⟩ (by simp) rfl
                    have e2 : us 2 = (.int .i64 (k : Nat)) := hd _ rfl ⟨2, .data⟩ (by simp) rfl
                    refine wpOp_step rfl (fun K hK => ?_)
                    rw [if_pos (by rfl)]
                    rw [e1, e2]
                    go_simp
                    exact hK _ _ ⟨_, by simp [upd, e1, e2], rfl, hC, fun _ _ _ _ _ _ h => h⟩
                  · have h0 : Kb w9 (us 0) y := hd _ rfl ⟨0, .data⟩ (by simp) rfl
                    have e3 : us 3 = (.slice (some ⟨b3, 0, none⟩) k cap3) := hd _ rfl ⟨3, .data⟩ (by simp) rfl
                    obtain ⟨v', y', hr, h2, h3, h4⟩ := (h0.kr (B := B) HBW.out).append 28 (S1.out.on (HWU.out y hC)) (fun q hq => HR9.out.1 q (List.mem_of_mem_take hq)) hC (by have := S1L.out; simp only [List.length_nil, List.length_take]; omega) HBW.out
                    refine wpOp_step rfl (fun K hK => ?_)
                    rw [if_pos (by rfl)]
                    refine oper_append (.tmp 49) (.tmp 52) rfl (v' := v') (y' := y') (by rw [← e3] at hr; exact hr) ?_
                    exact hK _ _ ⟨v', rfl, h2, h3, P13.keep4 (Region.waitsFor .any _) (by kernel_rfl) h0 h4⟩
                  · refine wpOp_step rfl (fun K hK => ?_)
                    rw [if_pos (by rfl)]
                    go_simp
                    exact hK _ _ ⟨_, rfl, rfl, hC, fun _ _ _ _ _ _ h => h⟩
                  · refine wpOp_step rfl (fun K hK => ?_)
                    rw [if_pos (by rfl)]
                    go_simp
                    exact hK _ _ ⟨_, rfl, rfl, hC, fun _ _ _ _ _ _ h => h⟩
                  · have e5 : us 5 = (.slice (some ⟨b2, 0, none⟩) n2 cap2) := hd _ rfl ⟨5, .data⟩ (by simp) rfl
                    have e6 : us 6 = (.int .i64 (i : Nat)) := hd _ rfl ⟨6, .data⟩ (by simp) rfl
                    refine wpOp_step rfl (fun K hK => ?_)
                    rw [if_pos (by rfl)]
                    rw [e5, e6]
                    go_simp
                    exact hK _ _ ⟨_, by simp [upd, e5, e6], rfl, hC, fun _ _ _ _ _ _ h => h⟩
                  · have e7 : us 7 = (.pointer (some ⟨b2, i * 3, none⟩)) := hd _ rfl ⟨7, .data⟩ (by simp) rfl
                    have a0 := (hC.cell (p := ⟨b2, i * 3, none⟩) hb9).trans c0
                    have a1 := (hC.cell (p := ⟨b2, i * 3 + 1, none⟩) hb9).trans c1
                    have a2 := (hC.cell (p := ⟨b2, i * 3 + 2, none⟩) hb9).trans c2
                    refine wpOp_step rfl (fun K hK => ?_)
                    rw [if_pos (by rfl)]
                    rw [e7]
                    go_simp
                    exact hK _ _ ⟨_, by simp [upd, e7], rfl, hC, fun _ _ _ _ _ _ h => h⟩
                  · have e8 : us 8 = (.agg #[.int .i64 q.2.v.kind, q.1, .int .i64 q.2.cost]) := hd _ rfl ⟨8, .data⟩ (by simp) rfl
                    refine wpOp_step rfl (fun K hK => ?_)
                    rw [if_pos (by rfl)]
                    rw [e8]
                    go_simp
                    exact hK _ _ ⟨_, by simp [upd, e8], ⟨_, rfl, hC.size, new_row _ _⟩, up_trans hC (up_alloc _ _), fun _ _ _ _ _ _ h => P13.on (up_alloc _ _) h⟩
                  · have h4 : Kr B w9 (os.take k) (us 4) y := hd _ rfl ⟨4, .data⟩ (by simp) rfl
                    have h9 : Ks w9 q (us 9) y := hd _ rfl ⟨9, .data⟩ (by simp) rfl
                    obtain ⟨v', y', hr, h2, h3, _⟩ := h4.append 28 (h9.rs (HP9.out.on (HWU.out y hC))) (fun q hq => by rw [List.mem_singleton.1 hq]; exact HP9.out) hC (by have := S1L.out; simp only [List.length_singleton, List.length_take]; omega) HBW.out
                    refine wpOp_step rfl (fun K hK => ?_)
                    rw [if_pos (by rfl)]
                    refine oper_append (.tmp 53) (.tmp 58) rfl (v' := v') (y' := y') hr ?_
                    exact hK _ _ ⟨v', rfl, h2, h3, P13.keep10 (Region.waitsFor .any _) (by kernel_rfl)⟩
                  · refine wpOp_step rfl (fun K hK => ?_)
                    rw [if_pos (by rfl)]
                    go_simp
                    exact hK _ _ ⟨_, rfl, rfl, hC, fun _ _ _ _ _ _ h => h⟩
                  · refine wpOp_step rfl (fun K hK => ?_)
                    rw [if_pos (by rfl)]
                    go_simp
                    exact hK _ _ ⟨_, rfl, rfl, hC, fun _ _ _ _ _ _ h => h⟩
                  · have e11 : us 11 = (.slice (some ⟨b3, 0, none⟩) m cap3) := hd _ rfl ⟨11, .data⟩ (by simp) rfl
                    have e12 : us 12 = (.int .i64 (k : Nat)) := hd _ rfl ⟨12, .data⟩ (by simp) rfl
                    refine wpOp_step rfl (fun K hK => ?_)
                    rw [if_pos (by rfl)]
                    rw [e11, e12]
                    go_simp
                    exact hK _ _ ⟨_, by simp [upd, e11, e12], rfl, hC, fun _ _ _ _ _ _ h => h⟩
                case refine_2 =>
                  intro us y hC hd
                  have h10 : Kr B w9 (os.take k ++ [q]) (us 10) y := hd 10 (by omega) (by decide)
                  have e13 : us 13 = (.slice (if cap3 = k then some ⟨b3, 0, none⟩ else some ⟨b3, k * 3, none⟩) (m - k) (cap3 - k)) := hd 13 (by omega) (by decide)
                  refine wpList_append_kr rfl (.tmp 59) (.tmp 62) rfl rfl e13 h10 (S2.out.on (HWU.out y hC)) (fun q hq => HR9.out.1 q (List.mem_of_mem_drop hq)) hC (by have := S1L.out; have := HM.out; simp only [List.length_append, List.length_singleton, List.length_take, List.length_drop]; omega) HBW.out ?_
                  intro v' y' hkr hb
                  have HKR := hid hkr.1.rb
                  have HBE := hid (HB29.out.trans (hb.mono HB29.out.size))
                  clear hkr hb hd hC h10 e13
                  go_wp2
                  go_round
                  case rel =>
                    refine ⟨i + 1, _, by omega, by simp, HKR, hid ?_, HBE⟩
                    rw [HIN.out, HOS.out, fold_snoc _ _ (by rw [List.length_map, ← HN2.out]; exact hlt)]
                    congr 1
                    rw [List.getD_eq_getElem?_getD, List.getElem?_map, HQK.out]
                    rfl
                  case measure => simp [intOf]; omega
end Go.Proofs.YtjocpbcmehicmaaDoor
