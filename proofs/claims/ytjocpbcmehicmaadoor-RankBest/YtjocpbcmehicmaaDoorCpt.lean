/- slices.CompactFunc over readings: of each run of one value the first. -/
import Derived.Test.YtjocpbcmehicmaaDoorSrt
import Derived.Lib.SliceRun
import Derived.Shelf.SlSortCmp.QuietGrown
namespace Go.Proofs.YtjocpbcmehicmaaDoor
open Go.RowKit Go.Sort

def lastV : Val → List Rd → Val
  | p, [] => p
  | _, z :: l => lastV z.v l
theorem keep_snoc (y : Rd) : ∀ (l : List Rd) (p : Val), keepFrom p (l ++ [y]) = if cmpV y.v (lastV p l) = 0 then keepFrom p l else keepFrom p l ++ [y]
  | [], p => by
    show keepFrom p [y] = _
    unfold keepFrom keepFrom lastV
    split <;> simp
  | z :: l, p => by
    show keepFrom p (z :: (l ++ [y])) = _
    unfold lastV
    rw [keepFrom, keepFrom]
    by_cases e : cmpV z.v p = 0
    · rw [if_pos e, if_pos e, keep_snoc y l p, cmpV_eq e]
    · rw [if_neg e, if_neg e, keep_snoc y l z.v]
      split <;> simp
theorem lastV_eq : ∀ (l : List Rd) (p : Val) (i : Nat), i + 1 = l.length → lastV p l = (l.getD i nilRd).v
  | [], _, _, h => by cases h
  | [z], _, i, h => by obtain rfl : i = 0 := by simpa using h
                       rfl
  | z :: y :: l, _, i, h => by
    obtain ⟨i, rfl⟩ : ∃ k, i = k + 1 := ⟨i - 1, by simp at h; omega⟩
    show lastV z.v (y :: l) = _
    rw [lastV_eq (y :: l) z.v i (by simpa using h)]
    rfl
theorem take_snoc (xs : List Rd) (i : Nat) (hi : i < xs.length) : xs.take (i + 1) = xs.take i ++ [xs.getD i nilRd] := by
  rw [List.take_add_one, List.getD_eq_getElem?_getD, List.getElem?_eq_getElem hi]; rfl
theorem comp_step (xs : List Rd) (i : Nat) (h1 : 1 ≤ i) (hi : i < xs.length) :
    compL (xs.take (i + 1)) = if cmpV (xs.getD i nilRd).v (xs.getD (i - 1) nilRd).v = 0 then compL (xs.take i) else compL (xs.take i) ++ [xs.getD i nilRd] := by
  rw [take_snoc xs i hi]
  cases xs with
  | nil => simp at hi
  | cons x l =>
    obtain ⟨k, rfl⟩ : ∃ k, i = k + 1 := ⟨i - 1, by omega⟩
    rw [List.take_succ_cons]
    show x :: keepFrom x.v (l.take k ++ [_]) = _
    rw [keep_snoc]
    have e : lastV x.v (l.take k) = ((x :: l).getD (k + 1 - 1) nilRd).v := by
      cases k with
      | zero => rfl
      | succ k =>
        have hl : k < l.length := by simp at hi; omega
        rw [lastV_eq (l.take (k + 1)) x.v k (by simp; omega)]
        simp
    rw [e]
    unfold compL
    split <;> simp
theorem comp_len (xs : List Rd) : (compL xs).length ≤ xs.length := by
  have keep_len : ∀ (l : List Rd) (p : Val), (keepFrom p l).length ≤ l.length := by
    intro l
    induction l with
    | nil => intro p; simp [keepFrom]
    | cons y l ih =>
      intro p
      unfold keepFrom
      split
      · have := ih p; simp; omega
      · have := ih y.v; simp; omega
  cases xs with
  | nil => simp [compL]
  | cons x l => have := keep_len l x.v; simp [compL]; omega

/-- clear of a row of readings. -/
theorem run_clearR (w : World) (ty : TypeId) (b o n c : Nat) (hn : 0 < n) (hc : ∀ j, j < n * 3 → (w.cell? ⟨b, o + j, none⟩).isSome = true) (hf : ∀ j, j < n * 3 → w.frozen? ⟨b, o + j, none⟩ = false) :
    (Builtin.clear_ #[48] ty #[.slice (some ⟨b, o, none⟩) n c]).run Tryd.prog w = .ok (.tuple #[]) (w.setCells b o (Builtin.zeroCells #[.int .i64 0, .slice none 0 0, .int .i64 0] n).toList) := by
  have hl : (Builtin.zeroCells #[.int .i64 0, .slice none 0 0, .int .i64 0] n).toList.length = n * 3 := by simp [Builtin.zeroCells]
  have hst := run_storeCells_cells (P := Tryd.prog) b o (Builtin.zeroCells #[.int .i64 0, .slice none 0 0, .int .i64 0] n).toList 0 w (by rw [hl]; simpa using hc) (by rw [hl]; simpa using hf) (by
    intro v hv
    simp [Builtin.zeroCells] at hv
    obtain ⟨i, _, rfl⟩ := hv
    have : i % 3 = 0 ∨ i % 3 = 1 ∨ i % 3 = 2 := by omega
    rcases this with h | h | h <;> rw [h] <;> rfl)
  simp only [Nat.add_zero] at hst
  obtain ⟨m, rfl⟩ : ∃ m, n = m + 1 := ⟨n - 1, by omega⟩
  simp [Builtin.clear_, run_underlying Tryd.underlying48, Tryd.zeroValue50, Value.cells, hst]

/-- A row under work: k kept of the first t. -/
structure CK {W0 : World} (xs : List Rd) (d dk : Array (El W0)) (k t : Nat) : Prop where
  lt : k < t
  le : t ≤ d.size
  size : dk.size = d.size
  len : (compL (xs.take t)).length = k
  put : ∀ j, j < k → dk[j]!.rd = (compL (xs.take t)).getD j nilRd
  old : ∀ j, k ≤ j → j < d.size → dk[j]! = d[j]!
theorem CK.start {W0 : World} {xs : List Rd} {d : Array (El W0)} {i : Nat} (hg : ∀ j, j < d.size → d[j]!.rd = xs.getD j nilRd) (hl : xs.length = d.size) (hi : i + 1 < d.size) (hF : compL (xs.take (i + 1)) = xs.take (i + 1)) (hS : compL (xs.take (i + 1 + 1)) = compL (xs.take (i + 1))) : CK xs d d (i + 1) (i + 1 + 1) := by
  refine ⟨by omega, by omega, rfl, by rw [hS, hF]; simp; omega, fun j hj => ?_, fun j _ _ => rfl⟩
  rw [hg j (by omega), hS, hF]
  simp [hj]
theorem CK.same {W0 : World} {xs : List Rd} {d dk : Array (El W0)} {k t : Nat} (h : CK xs d dk k t) (ht : t < d.size) (hS : compL (xs.take (t + 1)) = compL (xs.take t)) : CK xs d dk k (t + 1) :=
  ⟨by have := h.lt; omega, by omega, h.size, by rw [hS]; exact h.len, by rw [hS]; exact h.put, h.old⟩
theorem CK.app {W0 : World} {xs : List Rd} {d dk : Array (El W0)} {k t : Nat} (h : CK xs d dk k t) (ht : t < d.size) (x : El W0) (hx : x.rd = xs.getD t nilRd) (hS : compL (xs.take (t + 1)) = compL (xs.take t) ++ [xs.getD t nilRd]) : CK xs d (dk.set! k x) (k + 1) (t + 1) := by
  have hk : k < dk.size := by rw [h.size]; have := h.lt; omega
  have hl := h.len
  refine ⟨by have := h.lt; omega, by omega, by rw [size_setE]; exact h.size, by rw [hS]; simp; omega, fun j hj => ?_, fun j h1 h2 => ?_⟩
  · rw [hS]
    by_cases e : j = k
    · subst e
      rw [getElem!_def, show (dk.set! j x)[j]? = some x from Array.getElem?_setIfInBounds_self_of_lt hk]
      show x.rd = _
      rw [hx, ← hl]
      simp
    · rw [getElem!_def, show (dk.set! k x)[j]? = dk[j]? from Array.getElem?_setIfInBounds_ne (Ne.symm e), ← getElem!_def, h.put j (by omega)]
      simp only [List.getD_eq_getElem?_getD]
      rw [List.getElem?_append_left (by omega)]
  · rw [getElem!_def, show (dk.set! k x)[j]? = dk[j]? from Array.getElem?_setIfInBounds_ne (by omega), ← getElem!_def]
    exact h.old j (by omega) h2
theorem CK.done {W0 : World} {xs : List Rd} {d dk : Array (El W0)} {k : Nat} (h : CK xs d dk k d.size) (hl : xs.length = d.size) : (dk.extract 0 k).toList.map El.rd = compL xs ∧ (dk.extract 0 k).size = k := by
  have hx : xs.take d.size = xs := by rw [← hl]; simp
  have h1 := h.len
  have h2 := h.put
  rw [hx] at h1 h2
  have hk : k < dk.size := by rw [h.size]; exact h.lt
  have hsz : (dk.extract 0 k).size = k := by simp; omega
  refine ⟨?_, hsz⟩
  apply List.ext_getElem
  · rw [List.length_map, Array.length_toList, hsz, h1]
  · intro j a b
    have hj : j < k := by rw [h1] at b; exact b
    have := h2 j hj
    rw [getElem!_pos dk j (by omega), List.getD_eq_getElem?_getD, List.getElem?_eq_getElem b] at this
    simpa using this
theorem HE.prefix {W0 w : World} {g : Nat} {d : Array (El W0)} (h : HE w g d) (k : Nat) (hk : k ≤ d.size) : HE w g (d.extract 0 k) := by
  refine ⟨fun t ht => ?_, h.2⟩
  have hsz : (d.extract 0 k).size = k := by simp; omega
  have ht' : t < k * 3 := by rw [size_flatK, hsz] at ht; exact ht
  have := h.1 t (by rw [size_flatK]; omega)
  rw [get_flatK _ _ _ _ (by omega)] at this
  rw [get_flatK _ _ _ _ (by rw [hsz]; exact ht')]
  have e : (d.extract 0 k)[t / 3]! = d[t / 3]! := by
    rw [getElem!_pos (d.extract 0 k) (t / 3) (by rw [hsz]; omega), getElem!_pos d (t / 3) (by omega)]
    simp
  rw [e]
  exact this
/-- Cells laid behind a row's end leave it. -/
theorem HE.behind {W0 w : World} {g : Nat} {d : Array (El W0)} (h : HE w g d) (o : Nat) (ho : d.size * 3 ≤ o) (vs : List Value) : HE (w.setCells g o vs) g d := by
  refine ⟨fun t ht => ?_, h.2.1, by simpa using h.2.2.1, below_setC h.2.1 _ _ _ _ h.2.2.2⟩
  have ht' : t < d.size * 3 := by rw [size_flatK] at ht; exact ht
  have := h.1 t ht
  refine ⟨?_, by rw [World.frozen?_setCells]; exact this.2⟩
  rw [World.cell?_setCells_out g _ _ _ _ (fun _ => by dsimp only; omega)]
  exact this.1

/-- isAlike at two elements, in whatever grown world. -/
theorem alike_at {W0 wr : World} (hb : RowKit.Below W0.heap.size W0 wr) (x y : El W0) (kx ky cx cy : Int) (fx fy : Value) (e1 : x.rd.v.kind = kx) (e2 : x.fv = fx) (e3 : x.rd.cost = cx) (e4 : y.rd.v.kind = ky) (e5 : y.fv = fy) (e6 : y.rd.cost = cy) (r : Bool) (hr : (cmpV x.rd.v y.rd.v == 0) = r) :
    ∀ n os, Calls Tryd.prog 34 #[.agg #[.int .i64 kx, fx, .int .i64 cx], .agg #[.int .i64 ky, fy, .int .i64 cy]] (grow (wr.drewN n) os) fun e w' => e = .returned (.bool r) ∧ ∃ q os', w' = grow ((grow (wr.drewN n) os).drewN q) os' := by
  subst e1 e2 e3 e4 e5 e6 hr
  intro n os
  have hg : Gr wr (grow (wr.drewN n) os) := ⟨n, os, rfl⟩
  have hb2 := hb.trans (hg.below.mono hb.size)
  exact isAlike_any x.rd.v y.rd.v x.fv x.rd.cost y.fv y.rd.cost _ (x.ia.on hb2).ib (y.ia.on hb2).ib

set_option maxRecDepth 8000 in
set_option maxHeartbeats 8000000 in
theorem compact_any {W0 w : World} {g cap : Nat} {d : Array (El W0)} (h : HE w g d) (hs : d.size ≤ 1000000) (hcap : d.size ≤ cap) (hm : cap ≤ maxLen) :
    Calls Tryd.prog 33 #[.slice (some ⟨g, 0, none⟩) d.size cap, .func (.func 34) #[] #[]] w fun e w' => ∃ d' : Array (El W0), HE w' g d' ∧ e = .returned (.slice (some ⟨g, 0, none⟩) d'.size cap) ∧ d'.toList.map El.rd = compL (d.toList.map El.rd) := by
  obtain ⟨n, hn⟩ : ∃ n, n = d.size := ⟨_, rfl⟩
  obtain ⟨xs, hxs⟩ : ∃ xs, xs = d.toList.map El.rd := ⟨_, rfl⟩
  have hget : ∀ i, i < n → d[i]!.rd = xs.getD i nilRd := fun i hi => by
    rw [getElem!_pos d i (by omega), List.getD_eq_getElem?_getD, hxs]
    simp [show i < d.size by omega]
  have hl : xs.length = n := by rw [hxs, hn]; simp
  have mixed : Tryd.prog.follows .mixedOrders = true := by kernel_rfl
  have eg : ∀ args w, (callFunc 34 args).run Tryd.prog w = .ok (.enter 34 args) w := enters_of Tryd.func34 (by kernel_rfl) rfl
  have H := hid h
  have HX := hid hxs
  have HG := hid hget
  have HN := hid hn
  have HL := hid hl
  have hs2 : cap ≤ 9223372036854775807 := by unfold maxLen at hm; omega
  rw [← hxs]
  rw [← hn] at hs hcap ⊢
  clear h hxs hget hn hl hm
  by_cases hn2 : n < 2
  case pos =>
    have hn3 : (n : Int) < 2 := by omega
    go_enter Tryd.func33, Tryd.ntmps33
    go_wp2
    go_ret
    refine ⟨d, H.out, by rw [← HN.out]; rfl, ?_⟩
    rw [← HX.out]
    have hl := HL.out
    match xs, hl with
    | [], _ => rfl
    | [x], _ => rfl
    | _ :: _ :: _, hl => simp at hl; omega
  case neg =>
  have hn3 : ¬ (n : Int) < 2 := by omega
  go_enter Tryd.func33, Tryd.ntmps33
  go_wp2
  go_loopw [5] (fun v wr => ∃ j : Nat, 1 ≤ j ∧ j ≤ n ∧ v = .int .i64 j ∧ Hid (compL (xs.take j) = xs.take j) ∧ Hid (Gr w wr)) (fun v _ => n - (intOf v).toNat)
  case atStart =>
    refine ⟨1, by omega, by omega, rfl, hid ?_, hid (Gr.refl _)⟩
    have hl := HL.out
    match xs, hl with
    | [], hl => rfl
    | x :: l, _ => rfl
  case round =>
    obtain ⟨j, hj1, hj, rfl, hF, HB⟩ := hrel
    by_cases hlt : j < n
    case neg =>
      obtain rfl : j = n := by omega
      go_wp2
      go_ret
      exact ⟨d, H.out.gr HB.out, by rw [← HN.out]; rfl, by rw [← HX.out, ← List.take_of_length_le (Nat.le_of_eq HL.out), hF.out]⟩
    case pos =>
    have hlt4 : (j : Int) < (n : Int) := by omega
    obtain ⟨i, rfl⟩ : ∃ i, j = i + 1 := ⟨j - 1, by omega⟩
    have hlt5 : (i : Int) < (n : Int) := by omega
    have jz : (i : Int) + 1 < (n : Int) := by omega
    have p0' : (0 : Int) ≤ (i : Int) + 1 := by omega
    have e0 : ((i : Int) + 1).toNat = i + 1 := by omega
    have hwp : IntKind.i64.wrap (i : Int) = (i : Int) := by rw [IntKind.wrap_i64]; omega
    have hE := H.out.gr HB.out
    obtain ⟨a0, a1, a2⟩ := hE.cells (i + 1) (by rw [← HN.out]; omega)
    obtain ⟨b0, b1, b2⟩ := hE.cells i (by rw [← HN.out]; omega)
    have hgw : g < wr.heap.size := hE.2.2.1
    have q0 := cell_grown (a := ⟨g, (i + 1) * 3, none⟩) hgw a0
    have q1 := cell_grown (a := ⟨g, (i + 1) * 3 + 1, none⟩) hgw a1
    have q2 := cell_grown (a := ⟨g, (i + 1) * 3 + 2, none⟩) hgw a2
    have p0 := cell_grown (a := ⟨g, i * 3, none⟩) hgw b0
    have p1 := cell_grown (a := ⟨g, i * 3 + 1, none⟩) hgw b1
    have p2 := cell_grown (a := ⟨g, i * 3 + 2, none⟩) hgw b2
    clear a0 a1 a2 b0 b1 b2
    have HST := hid (comp_step xs (i + 1) (by omega) (by rw [HL.out]; omega))
    by_cases hb : cmpV d[i + 1]!.rd.v d[i]!.rd.v = 0
    case neg =>
      have hcg := alike_at hE.2.2.2 d[i + 1]! d[i]! _ _ _ _ _ _ rfl rfl rfl rfl rfl rfl false (by simpa using hb)
      generalize d[i + 1]!.rd.v.kind = k1 at *
      generalize d[i + 1]!.rd.cost = c1 at *
      generalize d[i + 1]!.fv = f1 at *
      generalize d[i]!.rd.v.kind = k2 at *
      generalize d[i]!.rd.cost = c2 at *
      generalize d[i]!.fv = f2 at *
      clear hE hgw
      go_wp2_with fail
      go_quiet_grown (first | (go_at_fn 34; refine Calls.grown_of (hcg _ _)))
      have HNE : Hid (compL (xs.take (i + 1 + 1)) = xs.take (i + 1 + 1)) := hid (by
        rw [HST.out, if_neg (by rw [← HG.out (i + 1) hlt, show i + 1 - 1 = i from rfl, ← HG.out i (by omega)]; exact hb), hF.out, ← take_snoc xs (i + 1) (by rw [HL.out]; omega)])
      go_wp2
      go_round
      case rel => exact ⟨i + 1 + 1, by omega, by omega, by simp, HNE, hid (HB.out.trans ⟨nq, osq, rfl⟩)⟩
      case measure => simp [intOf]; omega
    case pos =>
      have hcg := alike_at hE.2.2.2 d[i + 1]! d[i]! _ _ _ _ _ _ rfl rfl rfl rfl rfl rfl true (by simpa using hb)
      generalize d[i + 1]!.rd.v.kind = k1 at *
      generalize d[i + 1]!.rd.cost = c1 at *
      generalize d[i + 1]!.fv = f1 at *
      generalize d[i]!.rd.v.kind = k2 at *
      generalize d[i]!.rd.cost = c2 at *
      generalize d[i]!.fv = f2 at *
      clear hE hgw
      have HCK : Hid (CK xs d d (i + 1) (i + 1 + 1)) := hid (CK.start (fun j hj => HG.out j (by rw [HN.out]; exact hj)) (HL.out.trans HN.out) (by rw [← HN.out]; exact hlt) hF.out (by
        rw [HST.out, if_pos (by rw [← HG.out (i + 1) hlt, show i + 1 - 1 = i from rfl, ← HG.out i (by omega)]; exact hb)]))
      go_wp2_with fail
      go_quiet_grown (first | (go_at_fn 34; refine Calls.grown_of (hcg _ _)))
      clear hcg q0 q1 q2 p0 p1 p2 hb
      have HE1 := hid (H.out.gr (HB.out.trans ⟨nq, osq, rfl⟩))
      clear HB HST hF
      generalize grow (wr.drewN nq) osq = w1 at *
      have hic : (i : Int) + 1 ≤ (cap : Int) := by omega
      have hin : (i : Int) + 1 ≤ (n : Int) := by omega
      go_wp2
      obtain ⟨r, hr1, hr2⟩ : ∃ r, i + 1 + r ≤ n ∧ n ≤ i + 1 + r := ⟨n - (i + 1), by omega⟩
      obtain ⟨rc, hrc1, hrc2⟩ : ∃ r, i + 1 + r ≤ cap ∧ cap ≤ i + 1 + r := ⟨cap - (i + 1), by omega⟩
      rw [show n - (i + 1) = r by omega, show cap - (i + 1) = rc by omega]
      have hrr : r ≤ rc := by omega
      go_loopw [5, 7] (fun v5 v7 wr2 => ∃ (k m : Nat) (dk : Array (El W0)), v5 = .int .i64 k ∧ v7 = .int .i64 ((m : Int) + 1) ∧ m + 1 ≤ r ∧ Hid (CK xs d dk k (i + 1 + (m + 1))) ∧ Hid (HE wr2 g dk)) (fun _ v7 _ => n - (intOf v7).toNat)
      case atStart => exact ⟨i + 1, 0, d, by simp, by simp, by omega, HCK, HE1⟩
      case round =>
        obtain ⟨k, m, dk, rfl, rfl, hm1, HK, HD⟩ := hrel
        have hkt := HK.out.lt
        have hks := HK.out.size
        by_cases hlt6 : m + 1 < r
        case neg =>
          obtain rfl : r = m + 1 := by omega
          have hkn : (k : Int) ≤ (n : Int) := by omega
          have hkc : (k : Int) ≤ (cap : Int) := by omega
          have k0 : (0 : Int) ≤ (k : Int) := by omega
          have HK2 : Hid (CK xs d dk k d.size) := hid (by have := HK.out; rwa [show i + 1 + (m + 1) = d.size by rw [← HN.out]; omega] at this)
          have hE2 := HD.out
          have hcl : ∀ ty, (Builtin.clear_ #[48] ty #[.slice (some ⟨g, k * 3, none⟩) (n - k) (cap - k)]).run Tryd.prog wr = .ok (.tuple #[]) (wr.setCells g (k * 3) (Builtin.zeroCells #[.int .i64 0, .slice none 0 0, .int .i64 0] (n - k)).toList) := fun ty => run_clearR wr ty g (k * 3) (n - k) (cap - k) (by omega)
            (fun j hj => by
              have := hE2.1 (k * 3 + j) (by rw [size_flatK, hks, ← HN.out]; omega)
              rw [Nat.zero_add] at this
              rw [this.1]; rfl)
            (fun j hj => by
              have := hE2.1 (k * 3 + j) (by rw [size_flatK, hks, ← HN.out]; omega)
              rw [Nat.zero_add] at this
              exact this.2)
          have hkn1 : k ≤ n := by omega
          obtain ⟨D1, D2⟩ := HK2.out.done (HL.out.trans HN.out)
          have HR := hid ((hE2.prefix k (by rw [hks, ← HN.out]; omega)).behind (k * 3) (by rw [D2]; omega) (Builtin.zeroCells #[.int .i64 0, .slice none 0 0, .int .i64 0] (n - k)).toList)
          have HD1 := hid D1
          have HD2 := hid D2
          clear D1 D2 hE2
          generalize (Builtin.zeroCells #[.int .i64 0, .slice none 0 0, .int .i64 0] (n - k)).toList = zs at *
          go_wp2
          go_ret
          exact ⟨dk.extract 0 k, HR.out, by rw [HD2.out]; rfl, HD1.out⟩
        case pos =>
        have i1 : (m : Int) + 1 < (r : Int) := by omega
        have i2 : (0 : Int) ≤ (m : Int) + 1 := by omega
        have i3 : ((m : Int) + 1).toNat = m + 1 := by omega
        have i4 : (m : Int) < (r : Int) := by omega
        have hwm : IntKind.i64.wrap (m : Int) = (m : Int) := by rw [IntKind.wrap_i64]; omega
        have hE2 := HD.out
        have ht : i + 1 + (m + 1) < n := by omega
        have o1 := HK.out.old (i + 1 + (m + 1)) (by omega) (by rw [← HN.out]; omega)
        have o2 := HK.out.old (i + 1 + m) (by omega) (by rw [← HN.out]; omega)
        obtain ⟨a0, a1, a2⟩ := hE2.cells (i + 1 + (m + 1)) (by rw [hks, ← HN.out]; omega)
        obtain ⟨b0, b1, b2⟩ := hE2.cells (i + 1 + m) (by rw [hks, ← HN.out]; omega)
        rw [o1, Nat.add_mul (i + 1) (m + 1) 3] at a0 a1 a2
        rw [o2, Nat.add_mul (i + 1) m 3] at b0 b1 b2
        have hgw : g < wr.heap.size := hE2.2.2.1
        have q0 := cell_grown (a := ⟨g, (i + 1) * 3 + (m + 1) * 3, none⟩) hgw a0
        have q1 := cell_grown (a := ⟨g, (i + 1) * 3 + (m + 1) * 3 + 1, none⟩) hgw a1
        have q2 := cell_grown (a := ⟨g, (i + 1) * 3 + (m + 1) * 3 + 2, none⟩) hgw a2
        have p0 := cell_grown (a := ⟨g, (i + 1) * 3 + m * 3, none⟩) hgw b0
        have p1 := cell_grown (a := ⟨g, (i + 1) * 3 + m * 3 + 1, none⟩) hgw b1
        have p2 := cell_grown (a := ⟨g, (i + 1) * 3 + m * 3 + 2, none⟩) hgw b2
        clear a0 a1 a2 b0 b1 b2
        have HST := hid (comp_step xs (i + 1 + (m + 1)) (by omega) (by rw [HL.out]; omega))
        by_cases hb : cmpV d[i + 1 + (m + 1)]!.rd.v d[i + 1 + m]!.rd.v = 0
        case pos =>
          have hcg := alike_at hE2.2.2.2 d[i + 1 + (m + 1)]! d[i + 1 + m]! _ _ _ _ _ _ rfl rfl rfl rfl rfl rfl true (by simpa using hb)
          have HS : Hid (compL (xs.take (i + 1 + (m + 1) + 1)) = compL (xs.take (i + 1 + (m + 1)))) := hid (by
            rw [HST.out, if_pos (by rw [← HG.out (i + 1 + (m + 1)) ht, show i + 1 + (m + 1) - 1 = i + 1 + m from rfl, ← HG.out (i + 1 + m) (by omega)]; exact hb)])
          generalize d[i + 1 + (m + 1)]!.rd.v.kind = k3 at *
          generalize d[i + 1 + (m + 1)]!.rd.cost = c3 at *
          generalize d[i + 1 + (m + 1)]!.fv = f3 at *
          generalize d[i + 1 + m]!.rd.v.kind = k4 at *
          generalize d[i + 1 + m]!.rd.cost = c4 at *
          generalize d[i + 1 + m]!.fv = f4 at *
          clear hE2 hgw o1 o2 hb
          go_wp2_with fail
          go_quiet_grown (first | (go_at_fn 34; refine Calls.grown_of (hcg _ _)))
          clear hcg q0 q1 q2 p0 p1 p2
          go_wp2
          go_round
          case rel => exact ⟨k, m + 1, dk, by simp, by simp, by omega, hid (HK.out.same (by rw [← HN.out]; exact ht) HS.out), hid (HD.out.gr ⟨nq, osq, rfl⟩)⟩
          case measure => simp [intOf]; omega
        case neg =>
          have hcg := alike_at hE2.2.2.2 d[i + 1 + (m + 1)]! d[i + 1 + m]! _ _ _ _ _ _ rfl rfl rfl rfl rfl rfl false (by simpa using hb)
          have HS : Hid (compL (xs.take (i + 1 + (m + 1) + 1)) = compL (xs.take (i + 1 + (m + 1))) ++ [xs.getD (i + 1 + (m + 1)) nilRd]) := hid (by
            rw [HST.out, if_neg (by rw [← HG.out (i + 1 + (m + 1)) ht, show i + 1 + (m + 1) - 1 = i + 1 + m from rfl, ← HG.out (i + 1 + m) (by omega)]; exact hb)])
          have HX2 := hid (HG.out (i + 1 + (m + 1)) ht)
          clear hE2 hgw o1 o2 hb
          obtain ⟨x, hx⟩ : ∃ x, x = d[i + 1 + (m + 1)]! := ⟨_, rfl⟩
          rw [← hx] at hcg q0 q1 q2 HX2
          obtain ⟨fa, fc, hfx, _, _, _⟩ := x.ia.shape
          rw [hfx] at hcg q1
          have HFX := hid hfx
          clear hx hfx
          generalize hk3 : x.rd.v.kind = k3 at *
          generalize hc3 : x.rd.cost = c3 at *
          generalize hl3 : x.rd.v.f.length = l3 at *
          generalize d[i + 1 + m]!.rd.v.kind = k4 at *
          generalize d[i + 1 + m]!.rd.cost = c4 at *
          generalize d[i + 1 + m]!.fv = f4 at *
          go_wp2_with fail
          go_quiet_grown (first | (go_at_fn 34; refine Calls.grown_of (hcg _ _)))
          clear hcg p0 p1 p2
          have q0' := q0 nq osq
          have q1' := q1 nq osq
          have q2' := q2 nq osq
          have HD3 := hid (HD.out.gr ⟨nq, osq, rfl⟩)
          clear q0 q1 q2
          generalize grow (wr.drewN nq) osq = w3 at *
          have hkd : k < dk.size := by rw [hks, ← HN.out]; omega
          obtain ⟨z0, z1, z2⟩ := HD3.out.cells k hkd
          have y0 := HD3.out.frozen k 0 hkd (by decide)
          have y1 := HD3.out.frozen k 1 hkd (by decide)
          have y2 := HD3.out.frozen k 2 hkd (by decide)
          rw [Nat.add_zero] at y0
          have HS3 := hid (HD3.out.set k x hkd)
          have hkn : (k : Int) < (n : Int) := by omega
          generalize dk[k]!.rd.v.kind = zk at *
          generalize dk[k]!.rd.cost = zc at *
          generalize dk[k]!.fv = zf at *
          have HSX : Hid (encE x = [.int .i64 k3, .slice fa l3 fc, .int .i64 c3]) := hid (by unfold encE; rw [hk3, hc3, HFX.out])
          clear hk3 hc3 hl3
          go_wp2
          go_round
          case rel => exact ⟨k + 1, m + 1, dk.set! k x, by simp, by simp, by omega, hid (HK.out.app (by rw [← HN.out]; exact ht) x HX2.out HS.out), hid (by have := HS3.out; rw [HSX.out] at this; exact this)⟩
          case measure => simp [intOf]; omega
end Go.Proofs.YtjocpbcmehicmaaDoor
