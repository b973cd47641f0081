/- Readings in memory; rank.each: a row of readings anew. -/
import Derived.Test.YtjocpbcmehicmaaDoorCmp
import Derived.Test.YtjocpbcmehicmaaDoorMath
import Derived.Test.YtjocpbcmehicmaaDoorSort
import Derived.Laws.MakeOwn
namespace Go.Proofs.YtjocpbcmehicmaaDoor
open Go.RowKit Go.Sort

def nilRd : Rd := ⟨nilVal, 0⟩
/-- A row of readings. -/
def RA (w : World) (v : Value) (xs : List Rd) : Prop :=
  ∃ (ad : Option Addr) (cap : Nat), v = .slice ad xs.length cap ∧ (xs.length ≤ 1000000 ∧ xs.length ≤ cap ∧ cap ≤ maxLen) ∧
    ((ad = none ∧ cap = 0 ∧ xs = []) ∨ ∃ b o, ad = some ⟨b, o, none⟩ ∧ b < w.heap.size ∧ ∀ j, j < xs.length → ∃ fv, w.cell? ⟨b, o + j * 3, none⟩ = some (.int .i64 (xs.getD j nilRd).v.kind) ∧ w.cell? ⟨b, o + j * 3 + 1, none⟩ = some fv ∧ w.cell? ⟨b, o + j * 3 + 2, none⟩ = some (.int .i64 (xs.getD j nilRd).cost) ∧ IA w fv (xs.getD j nilRd).v.f)
theorem RA.on {w w' : World} {v : Value} {xs : List Rd} (h : RA w v xs) (hb : Below w.heap.size w w') : RA w' v xs := by
  obtain ⟨ad, cap, h1, h2, h3⟩ := h
  refine ⟨ad, cap, h1, h2, ?_⟩
  rcases h3 with h3 | ⟨b, o, e, hlt, hc⟩
  · exact .inl h3
  · refine .inr ⟨b, o, e, Nat.lt_of_lt_of_le hlt hb.size, fun j hj => ?_⟩
    obtain ⟨fv, c0, c1, c2, c3⟩ := hc j hj
    exact ⟨fv, (hb.cell hlt).trans c0, (hb.cell hlt).trans c1, (hb.cell hlt).trans c2, c3.on hb⟩
theorem RA.shape {w : World} {v : Value} {xs : List Rd} (h : RA w v xs) : ∃ ad cap, v = .slice ad xs.length cap ∧ xs.length ≤ cap ∧ cap ≤ maxLen ∧ xs.length ≤ 1000000 := by
  obtain ⟨ad, cap, h1, h2, _⟩ := h
  exact ⟨ad, cap, h1, h2.2.1, h2.2.2, h2.1⟩
theorem RA.has {w : World} {v : Value} {xs : List Rd} (h : RA w v xs) (hn : 0 < xs.length) : ∃ b o cap, v = .slice (some ⟨b, o, none⟩) xs.length cap ∧ b < w.heap.size ∧ ∀ j, j < xs.length → ∃ fv, w.cell? ⟨b, o + j * 3, none⟩ = some (.int .i64 (xs.getD j nilRd).v.kind) ∧ w.cell? ⟨b, o + j * 3 + 1, none⟩ = some fv ∧ w.cell? ⟨b, o + j * 3 + 2, none⟩ = some (.int .i64 (xs.getD j nilRd).cost) ∧ IA w fv (xs.getD j nilRd).v.f := by
  obtain ⟨ad, cap, h1, h2, h3⟩ := h
  rcases h3 with ⟨_, _, e⟩ | ⟨b, o, e, hlt, hc⟩
  · rw [e] at hn; cases hn
  · exact ⟨b, o, cap, by rw [h1, e], hlt, hc⟩

/-- A reading whose numbers stand in W0, and its row's value. -/
def El (W0 : World) := { x : Value × Rd // IA W0 x.1 x.2.v.f }
instance (W0 : World) : Inhabited (El W0) := ⟨⟨(.slice none 0 0, nilRd), IA.nil W0⟩⟩
def El.fv {W0 : World} (x : El W0) : Value := x.1.1
def El.rd {W0 : World} (x : El W0) : Rd := x.1.2
theorem El.ia {W0 : World} (x : El W0) : IA W0 x.fv x.rd.v.f := x.2
def encE {W0 : World} (x : El W0) : List Value := [.int .i64 x.rd.v.kind, x.fv, .int .i64 x.rd.cost]
theorem encE_len {W0 : World} (x : El W0) : (encE x).length = 3 := rfl
theorem encE_one {W0 : World} (x : El W0) : ∀ v ∈ encE x, v.oneCell' = true := by
  intro v hv
  obtain ⟨ad, cap, e, _⟩ := x.ia.shape
  simp only [encE, List.mem_cons, List.mem_nil_iff, or_false] at hv
  rcases hv with rfl | rfl | rfl
  · rfl
  · rw [e]; rfl
  · rfl
/-- The row at g holds d. -/
def HE {W0 : World} (w : World) (g : Nat) (d : Array (El W0)) : Prop := HoldsK encE 3 w g 0 d ∧ W0.heap.size ≤ g ∧ g < w.heap.size ∧ Below W0.heap.size W0 w
theorem HE.cells {W0 w : World} {g : Nat} {d : Array (El W0)} (h : HE w g d) (j : Nat) (hj : j < d.size) :
    w.cell? ⟨g, j * 3, none⟩ = some (.int .i64 d[j]!.rd.v.kind) ∧ w.cell? ⟨g, j * 3 + 1, none⟩ = some d[j]!.fv ∧ w.cell? ⟨g, j * 3 + 2, none⟩ = some (.int .i64 d[j]!.rd.cost) := by
  have a0 := (h.1.cell hj (show 0 < 3 by decide)).1
  have a1 := (h.1.cell hj (show 1 < 3 by decide)).1
  have a2 := (h.1.cell hj (show 2 < 3 by decide)).1
  simp only [Nat.zero_add, Nat.add_zero] at a0 a1 a2
  exact ⟨a0, a1, a2⟩
theorem HE.frozen {W0 w : World} {g : Nat} {d : Array (El W0)} (h : HE w g d) (j c : Nat) (hj : j < d.size) (hc : c < 3) : w.frozen? ⟨g, j * 3 + c, none⟩ = false := by
  have a0 := (h.1.cell hj hc).2
  simp only [Nat.zero_add] at a0
  exact a0
theorem HE.gr {W0 w w' : World} {g : Nat} {d : Array (El W0)} (h : HE w g d) (hg : Gr w w') : HE w' g d := by
  obtain ⟨h1, h2, h3, h4⟩ := h
  refine ⟨?_, h2, Nat.lt_of_lt_of_le h3 hg.lt, h4.trans (hg.below.mono h4.size)⟩
  obtain ⟨q, os, rfl⟩ := hg
  exact holdsK_grow encE 3 _ os g 0 d h3 h1
theorem flat_set {W0 : World} (d : Array (El W0)) (j : Nat) (x : El W0) (hj : j < d.size) : setMany (flatK encE 3 d) (j * 3) (encE x) = flatK encE 3 (d.set! j x) := by
  refine ext_get! (by simp) fun t ht => ?_
  have ht' : t < d.size * 3 := by simpa using ht
  rw [get_setMany _ _ _ t (by simpa using ht'), get_flatK _ _ _ t ht', get_flatK _ _ _ t (by simpa using ht'), encE_len]
  by_cases a : t / 3 = j
  · rw [if_pos ((blk_iff 3 j t (by decide)).2 a), show t - j * 3 = t % 3 by omega, a]
    simp [hj]
  · rw [if_neg (fun h => a ((blk_iff 3 j t (by decide)).1 h))]
    have ht3 : t / 3 < d.size := by omega
    have e : (d.set! j x)[t / 3]! = d[t / 3]! := by
      rw [getElem!_def, getElem!_def, show (d.set! j x)[t / 3]? = d[t / 3]? from Array.getElem?_setIfInBounds_ne (Ne.symm a)]
    rw [e]
theorem below_setC {B b : Nat} (hb : B ≤ b) : ∀ (vs : List Value) (o : Nat) (a w : World), Below B a w → Below B a (w.setCells b o vs)
  | [], _, _, _, h => h
  | v :: vs, o, a, w, h => by
    unfold World.setCells
    exact below_setC hb vs (o + 1) a _ ⟨h.os, h.tape, h.output, by simpa using h.size, fun k hk => (Below.heap_setCell _ _ _ _ (by dsimp only; omega)).trans (h.block k hk)⟩
theorem HE.set {W0 w : World} {g : Nat} {d : Array (El W0)} (h : HE w g d) (j : Nat) (x : El W0) (hj : j < d.size) : HE (w.setCells g (j * 3) (encE x)) g (d.set! j x) := by
  obtain ⟨h1, h2, h3, h4⟩ := h
  refine ⟨?_, h2, by simpa using h3, ?_⟩
  · unfold HoldsK
    rw [← flat_set d j x hj]
    have := holds_setCells_c h1 (j * 3) (encE x) (by rw [size_flatK, encE_len]; omega)
    rwa [Nat.zero_add] at this
  · exact below_setC h2 _ _ _ _ h4

theorem info_parts {o : Option TypeInfo} {z : Value} {a b : Nat} (h : o.map (fun i => (i.zero, i.size, i.bytes)) = some (some z, a, b)) : ∃ i, o = some i ∧ i.zero = some z ∧ i.size = a ∧ i.bytes = b := by
  cases o with
  | none => cases h
  | some i => simp at h; exact ⟨i, rfl, h.1, h.2.1, h.2.2⟩
theorem info_rd : (Tryd.prog.info? 50).map (fun i => (i.zero, i.size, i.bytes)) = some (some (.agg #[.int .i64 0, .slice none 0 0, .int .i64 0]), 3, 40) := by kernel_rfl
theorem info_ar : (Tryd.prog.info? 36).map (fun i => (i.zero, i.size, i.bytes)) = some (some (.agg #[.int .i64 0, .slice none 0 0, .int .i64 0]), 3, 40) := by kernel_rfl
/-- A row made: noughts alone. -/
theorem HE.made {W0 w : World} (hb : Below W0.heap.size W0 w) (n : Nat) (e : TypeId) : HE (W0 := W0) (w.alloc (.cells (madeCells #[.int .i64 0, .slice none 0 0, .int .i64 0] (n * 3)) e)) w.heap.size (Array.replicate n default) := by
  refine ⟨?_, hb.size, by simp, hb.alloc hb.size _⟩
  intro t ht
  have ht' : t < n * 3 := by simpa using ht
  have hr := new_row w (.cells (madeCells #[.int .i64 0, .slice none 0 0, .int .i64 0] (n * 3)) e)
  rw [Nat.zero_add, cell_of_row hr, frozen_of_row hr, get_flatK _ _ _ _ (by simpa using ht')]
  refine ⟨?_, rfl⟩
  have e1 : (Array.replicate n (default : El W0))[t / 3]! = default := by
    rw [getElem!_pos (Array.replicate n (default : El W0)) (t / 3) (by simp; omega)]; simp
  rw [e1]
  unfold madeCells
  simp [ht']
  have : t % 3 = 0 ∨ t % 3 = 1 ∨ t % 3 = 2 := by omega
  rcases this with h | h | h <;> rw [h] <;> rfl

theorem HE.on {W0 w w' : World} {g : Nat} {d : Array (El W0)} (h : HE w g d) (hg : Below w.heap.size w w') : HE w' g d := by
  obtain ⟨h1, h2, h3, h4⟩ := h
  refine ⟨fun t ht => ?_, h2, Nat.lt_of_lt_of_le h3 hg.size, h4.trans (hg.mono h4.size)⟩
  have := h1 t ht
  refine ⟨(hg.cell h3).trans this.1, ?_⟩
  have hb := hg.block g h3
  have := this.2
  unfold World.frozen? at *
  rw [hb]
  exact this

set_option maxHeartbeats 1000000 in
theorem readingOf_any (k : Int) (ad : Option Addr) (n cap : Nat) (c : Int) (w : World) :
    Calls Tryd.prog 30 #[.agg #[.int .i64 k, .slice ad n cap, .int .i64 c]] w fun e w' => e = .returned (.agg #[.int .i64 k, .slice ad n cap, .int .i64 c]) ∧ Below w.heap.size w w' := by
  go_enter Tryd.func30, Tryd.ntmps30
  go_wp2
  exact bodyPost_ret (v := .agg #[.int .i64 k, .slice ad n cap, .int .i64 c]) (results_cell_row rfl _ _ (w.heap.size + 1) 50 _ (0, 0) _ rfl (heap_alloc2_new _ _ _) Tryd.underlying50 rfl (by kernel_rfl)) rfl ⟨rfl, up_trans (up_alloc _ _) (up_alloc _ _)⟩

theorem size_setE {W0 : World} (d : Array (El W0)) (j : Nat) (x : El W0) : (d.set! j x).size = d.size := by simp
theorem rows_set {W0 : World} {d : Array (El W0)} {j : Nat} {xs : List Rd} {x : El W0} (h : ∀ i, i < j → d[i]!.rd = xs.getD i nilRd) (hj : j < d.size) (e : x.rd = xs.getD j nilRd) : ∀ i, i < j + 1 → (d.set! j x)[i]!.rd = xs.getD i nilRd := by
  intro i hi
  by_cases hij : i = j
  · subst hij
    rw [getElem!_def, show (d.set! i x)[i]? = some x from Array.getElem?_setIfInBounds_self_of_lt hj]
    exact e
  · rw [getElem!_def, show (d.set! j x)[i]? = d[i]? from Array.getElem?_setIfInBounds_ne (Ne.symm hij), ← getElem!_def]
    exact h i (by omega)
theorem rows_all {W0 : World} {d : Array (El W0)} {xs : List Rd} (h : ∀ i, i < d.size → d[i]!.rd = xs.getD i nilRd) (hs : d.size = xs.length) : d.toList.map El.rd = xs := by
  apply List.ext_getElem
  · simp [hs]
  · intro i h1 h2
    have hd : i < d.size := by simpa using h1
    have := h i hd
    rw [getElem!_pos d i hd, List.getD_eq_getElem?_getD, List.getElem?_eq_getElem h2] at this
    simpa using this

set_option maxRecDepth 8000 in
set_option maxHeartbeats 4000000 in
theorem each_any (xs : List Rd) (v : Value) (W0 : World) (h : RA W0 v xs) :
    Calls Tryd.prog 29 #[v, .func (.func 30) #[] #[]] W0 fun e w' => ∃ (g : Nat) (d : Array (El W0)), e = .returned (.slice (some ⟨g, 0, none⟩) d.size d.size) ∧ d.toList.map El.rd = xs ∧ HE w' g d := by
  obtain ⟨ad, cap, rfl, a1, a2, a3⟩ := h.shape
  have HR := hid h
  obtain ⟨i0, hi, hz0, hz1, hz2⟩ := info_parts info_rd
  obtain ⟨n, hn⟩ : ∃ n, n = xs.length := ⟨_, rfl⟩
  have HN := hid hn
  have HC := hid readingOf_any
  rw [← hn] at a1 a3 ⊢
  clear h hn
  have hmk : ∀ W : World, (Instr.makeSlice 48 (.int .i64 (n : Int)) (.int .i64 (n : Int))).run Tryd.prog W = .ok (.slice (some ⟨W.heap.size, 0, none⟩) n n) (W.alloc (.cells (madeCells #[.int .i64 0, .slice none 0 0, .int .i64 0] (n * 3)) 50)) := by
    intro W
    have := run_make (P := Tryd.prog) W 48 50 i0 (.agg #[.int .i64 0, .slice none 0 0, .int .i64 0]) Tryd.underlying48 hi hz0 .i64 .i64 n n (by omega) (by omega) (by rw [hz2]; omega) (by omega)
    rw [this, hz1]; rfl
  have H0 := hid (HE.made (W0 := W0) (Below.refl _ _) n 50)
  obtain ⟨w1, hw1⟩ : ∃ w1, w1 = W0.alloc (.cells (madeCells #[.int .i64 0, .slice none 0 0, .int .i64 0] (n * 3)) 50) := ⟨_, rfl⟩
  rw [← hw1] at H0
  go_enter Tryd.func29, Tryd.ntmps29
  go_wp2
  rw [← hw1]
  clear hmk hw1
  go_loopw [13] (fun v wr => ∃ (j : Nat) (d : Array (El W0)), j ≤ n ∧ v = .int .i64 j ∧ d.size = n ∧ Hid (∀ i, i < j → d[i]!.rd = xs.getD i nilRd) ∧ Hid (HE wr W0.heap.size d)) (fun v _ => n - (intOf v).toNat)
  case atStart => exact ⟨0, Array.replicate n default, by omega, rfl, by simp, hid (fun i hi => by omega), H0⟩
  case round =>
    obtain ⟨j, d, hj, rfl, hd, hF, HD⟩ := hrel
    by_cases hlt : j < n
    case pos =>
      have hlt4 : (j : Int) < (n : Int) := by omega
      obtain ⟨b, o, c, e1, hb, hcs⟩ := HR.out.has (by rw [← HN.out]; omega)
      injection e1 with e1a _ e1c
      subst e1a e1c
      obtain ⟨fv, c0, c1, c2, hia⟩ := hcs j (by rw [← HN.out]; exact hlt)
      clear hcs
      obtain ⟨fa, fc, rfl, f1, f2, f3⟩ := hia.shape
      have HIA := hid hia
      clear hia
      have hbw := HD.out.2.2.2
      have q0 := (hbw.cell hb).trans c0
      have q1 := (hbw.cell hb).trans c1
      have q2 := (hbw.cell hb).trans c2
      clear c0 c1 c2 hbw
      generalize hr : xs.getD j nilRd = r at *
      obtain ⟨⟨k, f⟩, c⟩ := r
      have HRj := hid hr
      clear hr
      dsimp only at q0 q1 q2 f1 f3
      generalize f.length = m at *
      go_wp2_with fail
      refine (HC.out _ _ _ _ _ _).mono ?_
      rintro e w2 ⟨rfl, hb2⟩
      have HD2 := hid ((HD.out.on (up_alloc _ _)).on hb2)
      clear hb2
      have hjd : j < d.size := by omega
      obtain ⟨z0, z1, z2⟩ := HD2.out.cells j hjd
      have y0 := HD2.out.frozen j 0 hjd (by decide)
      have y1 := HD2.out.frozen j 1 hjd (by decide)
      have y2 := HD2.out.frozen j 2 hjd (by decide)
      rw [Nat.add_zero] at y0
      have HS := hid (HD2.out.set j ⟨(.slice fa m fc, ⟨⟨k, f⟩, c⟩), HIA.out⟩ hjd)
      generalize d[j]!.rd.v.kind = zk at *
      generalize d[j]!.rd.cost = zc at *
      generalize d[j]!.fv = zf at *
      go_wp2
      go_round
      case rel => exact ⟨j + 1, d.set! j ⟨(.slice fa m fc, ⟨⟨k, f⟩, c⟩), HIA.out⟩, by omega, by simp, (size_setE _ _ _).trans hd, hid (rows_set hF.out hjd HRj.out.symm), HS⟩
      case measure => simp [intOf]; omega
    case neg =>
      obtain rfl : j = n := by omega
      go_wp2
      go_ret
      exact ⟨W0.heap.size, d, by rw [hd]; rfl, rows_all (fun i hi => hF.out i (by omega)) (by rw [hd]; exact HN.out), HD.out⟩
end Go.Proofs.YtjocpbcmehicmaaDoor
