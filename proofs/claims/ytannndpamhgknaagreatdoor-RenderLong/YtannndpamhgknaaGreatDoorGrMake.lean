/- The statements' Make, walked: the rule that it makes, in memory of its own. -/
import Derived.Test.YtannndpamhgknaaGreatDoorGrMakeM
namespace Go.Proofs.YtannndpamhgknaaGreatDoor.Gr
open Go.RowKit

theorem lows_at' (n : Nat) (h : n < 16) : ([Value.int .i64 1, Value.int .i64 3, Value.int .i64 2, Value.int .i64 2, Value.int .i64 2, Value.int .i64 2, Value.int .i64 3, Value.int .i64 1, Value.int .i64 1, Value.int .i64 2, Value.int .i64 1, Value.int .i64 1, Value.int .i64 2, Value.int .i64 2, Value.int .i64 2, Value.int .i64 2] : List Value)[n]? = some (.int .i64 (lows.getD n 0)) := by
  have : ∀ k : Fin 16, ([Value.int .i64 1, Value.int .i64 3, Value.int .i64 2, Value.int .i64 2, Value.int .i64 2, Value.int .i64 2, Value.int .i64 3, Value.int .i64 1, Value.int .i64 1, Value.int .i64 2, Value.int .i64 1, Value.int .i64 1, Value.int .i64 2, Value.int .i64 2, Value.int .i64 2, Value.int .i64 2] : List Value)[k.1]? = some (.int .i64 (lows.getD k.1 0)) := fun k => by
    match k with
    | ⟨0, _⟩ => rfl
    | ⟨1, _⟩ => rfl
    | ⟨2, _⟩ => rfl
    | ⟨3, _⟩ => rfl
    | ⟨4, _⟩ => rfl
    | ⟨5, _⟩ => rfl
    | ⟨6, _⟩ => rfl
    | ⟨7, _⟩ => rfl
    | ⟨8, _⟩ => rfl
    | ⟨9, _⟩ => rfl
    | ⟨10, _⟩ => rfl
    | ⟨11, _⟩ => rfl
    | ⟨12, _⟩ => rfl
    | ⟨13, _⟩ => rfl
    | ⟨14, _⟩ => rfl
    | ⟨15, _⟩ => rfl
    | ⟨k + 16, h⟩ => exact absurd h (by omega)
  exact this ⟨n, h⟩
theorem classes_at (n : Nat) (h : n < 11) : ([Value.int .i64 0, Value.int .i64 0, Value.int .i64 0, Value.int .i64 1, Value.int .i64 2, Value.int .i64 3, Value.int .i64 50, Value.int .i64 51, Value.int .i64 52, Value.int .i64 53, Value.int .i64 54] : List Value)[n]? = some (.int .i64 (classes.getD n 0)) := by
  have : ∀ k : Fin 11, ([Value.int .i64 0, Value.int .i64 0, Value.int .i64 0, Value.int .i64 1, Value.int .i64 2, Value.int .i64 3, Value.int .i64 50, Value.int .i64 51, Value.int .i64 52, Value.int .i64 53, Value.int .i64 54] : List Value)[k.1]? = some (.int .i64 (classes.getD k.1 0)) := fun k => by
    match k with
    | ⟨0, _⟩ => rfl
    | ⟨1, _⟩ => rfl
    | ⟨2, _⟩ => rfl
    | ⟨3, _⟩ => rfl
    | ⟨4, _⟩ => rfl
    | ⟨5, _⟩ => rfl
    | ⟨6, _⟩ => rfl
    | ⟨7, _⟩ => rfl
    | ⟨8, _⟩ => rfl
    | ⟨9, _⟩ => rfl
    | ⟨10, _⟩ => rfl
    | ⟨k + 11, h⟩ => exact absurd h (by omega)
  exact this ⟨n, h⟩
theorem one_cellg (w : World) (x : Int) (t : TypeId) (g : Nat) (hg : g = w.heap.size) : ∀ j u, [Value.int .i64 x][j]? = some u → (w.alloc (.cells #[.int .i64 x] t)).cell? ((⟨g, 0, none⟩ : Addr).add j) = some u := by
  subst hg
  exact one_cell w x t
theorem set_grown (w : World) (g j : Nat) (u : Value) : w.grownBy (w.setCell ⟨g, j, none⟩ u) (some g) := ⟨rfl, rfl, rfl, by simp [World.setCell], fun k _ hk => Below.heap_setCell _ _ _ _ (fun e => hk (by rw [e]))⟩
theorem row_set5 {w : World} {B g : Nat} {v : Value} {xs : List Int} (h : RowNew w B v xs) (hg : g < B) (u0 u1 u2 u3 u4 : Value) : RowNew (((((w.setCell ⟨g, 0, none⟩ u0).setCell ⟨g, 1, none⟩ u1).setCell ⟨g, 2, none⟩ u2).setCell ⟨g, 3, none⟩ u3).setCell ⟨g, 4, none⟩ u4) B v xs := by
  have hne : v.ownBlock ≠ some g := fun e => by have := (World.ownsRow.lt h g e).1; omega
  exact ((((h.kept (set_grown _ _ _ _) (.inr hne)).kept (set_grown _ _ _ _) (.inr hne)).kept (set_grown _ _ _ _) (.inr hne)).kept (set_grown _ _ _ _) (.inr hne)).kept (set_grown _ _ _ _) (.inr hne)
theorem set5_heap {w : World} {g : Nat} {t : TypeId} {z0 z1 z2 z3 z4 : Value} (h : w.heap[g]? = some (.cells #[z0, z1, z2, z3, z4] t (0, 0))) (u0 u1 u2 u3 u4 : Value) : (((((w.setCell ⟨g, 0, none⟩ u0).setCell ⟨g, 1, none⟩ u1).setCell ⟨g, 2, none⟩ u2).setCell ⟨g, 3, none⟩ u3).setCell ⟨g, 4, none⟩ u4).heap[g]? = some (.cells #[u0, u1, u2, u3, u4] t (0, 0)) :=
  heap_setCell_same _ g 4 _ t u4 (heap_setCell_same _ g 3 _ t u3 (heap_setCell_same _ g 2 _ t u2 (heap_setCell_same _ g 1 _ t u1 (heap_setCell_same _ g 0 _ t u0 h))))
theorem make_ends (r : Raw) (sym : Int) (c i o : Nat) (wr : World) (gx n : Nat) (sv pv : Value) (hc : mkC r = c) (hi : mkN r = i) (ho : r.op % 16 = (o : Int)) (h : Made wr gx ⟨r.lhs % sym, mkRhs r sym c, (o : Int), mkPs r c i, r.cost % 101⟩ sv pv) (hg : gx = n + 1 + 1) :
    Value.agg #[.int .i64 (r.lhs % sym), sv, .int .i64 (o : Int), pv, .int .i64 (r.cost % 101)] = ruleV (mkRule r sym) sv pv ∧
    RowNew (((((wr.setCell ⟨n + 1, 0, none⟩ (.int .i64 (r.lhs % sym))).setCell ⟨n + 1, 1, none⟩ sv).setCell ⟨n + 1, 2, none⟩ (.int .i64 (o : Int))).setCell ⟨n + 1, 3, none⟩ pv).setCell ⟨n + 1, 4, none⟩ (.int .i64 (r.cost % 101))) n sv (mkRule r sym).rhs ∧
    RowNew (((((wr.setCell ⟨n + 1, 0, none⟩ (.int .i64 (r.lhs % sym))).setCell ⟨n + 1, 1, none⟩ sv).setCell ⟨n + 1, 2, none⟩ (.int .i64 (o : Int))).setCell ⟨n + 1, 3, none⟩ pv).setCell ⟨n + 1, 4, none⟩ (.int .i64 (r.cost % 101))) n pv (mkRule r sym).p := by
  refine ⟨?_, ?_, ?_⟩
  · simp only [ruleV, mkRule, mkOp, ho]
  · have e : (mkRule r sym).rhs = mkRhs r sym c := by simp only [mkRule, hc]
    rw [e]
    exact ownsRow_base_a (row_set5 h.2.1 (by omega) _ _ _ _ _) (by omega)
  · have e : (mkRule r sym).p = mkPs r c i := by simp only [mkRule, hc, hi]
    rw [e]
    exact ownsRow_base_a (row_set5 h.2.2.1 (by omega) _ _ _ _ _) (by omega)
theorem box_below {w w' : World} {B g : Nat} {v0 v1 v2 v3 v4 : Value} (h : Box w g v0 v1 v2 v3 v4) (hb : Below B w w') (hg : g < B) : Box w' g v0 v1 v2 v3 v4 :=
  ⟨(hb.cell (p := ⟨g, 0, none⟩) hg).trans h.1, (hb.cell (p := ⟨g, 1, none⟩) hg).trans h.2.1, (hb.cell (p := ⟨g, 2, none⟩) hg).trans h.2.2.1, (hb.cell (p := ⟨g, 3, none⟩) hg).trans h.2.2.2.1, (hb.cell (p := ⟨g, 4, none⟩) hg).trans h.2.2.2.2⟩

set_option maxRecDepth 4000 in
set_option maxHeartbeats 4000000 in
theorem make_any (r : Raw) (sv pv : Value) (sym : Int) (hs : 1 ≤ sym ∧ sym ≤ 20) (hok : RawOk r) (w : World) (h1 : Row w sv r.rhs) (h2 : Row w pv r.p) :
    Calls Tryz.prog 75 #[.agg #[.int .i64 r.lhs, .int .i64 r.op, .int .i64 r.cost, sv, pv], .int .i64 sym] w fun e w' => ∃ sv' pv', e = .returned (ruleV (mkRule r sym) sv' pv') ∧ RowNew w' w.heap.size sv' (mkRule r sym).rhs ∧ RowNew w' w.heap.size pv' (mkRule r sym).p ∧ Below w.heap.size w w' := by
  have HW := hid (fun a n w h h' => lwithin_any a n w h h')
  have HR1 := hid h1
  have HR2 := hid h2
  have HOK := hid hok
  have k1 := hok.1
  have k2 := hok.2.1
  have k3 := hok.2.2.1
  unfold wf64 at k1 k2 k3
  obtain ⟨i0, hi, hz0, hz1, hz2⟩ := info_parts info_int
  obtain ⟨ad1, cap1, rfl, m1, c1⟩ := h1
  obtain ⟨ad2, cap2, rfl, m2, c2⟩ := h2
  have HC1 := hid c1
  have HC2 := hid c2
  unfold maxLen at m1 m2
  clear hok c1 c2
  go_enter Tryz.func75, Tryz.ntmps75
  go_wp2
  rename_i Q1 K1 hK1
  suffices key : Exit.then K1 Q1 .normal ⟨#[.agg #[.int .i64 r.lhs, .int .i64 r.op, .int .i64 r.cost, .slice ad1 r.rhs.length cap1, .slice ad2 r.p.length cap2], .int .i64 sym, .pointer (some ⟨w.heap.size, 0, none⟩), undef, .pointer (some ⟨w.heap.size + 1, 0, none⟩), .pointer (some ⟨w.heap.size + 1 + 1, 0, none⟩), undef, undef, undef, undef, undef, undef, .pointer (some ⟨w.heap.size, 0, none⟩), .int .i64 r.lhs, .int .i64 sym, .int .i64 (r.lhs % sym), .pointer (some ⟨w.heap.size, 2, none⟩), .int .i64 r.cost, .int .i64 (r.cost % 101), .agg #[.int .i64 (r.lhs % sym), .slice none 0 0, .int .i64 0, .slice none 0 0, .int .i64 (r.cost % 101)], undef, undef, undef, undef, undef, undef, undef, undef, undef, undef, undef, undef, undef, undef, undef, undef, undef, undef, undef, undef, undef, undef, undef, undef, undef, undef, undef, undef, undef, undef, undef, undef, undef, undef, undef, undef, undef, undef, undef, undef, undef, undef, undef, undef, undef, undef, undef, undef, undef, undef, undef, undef, undef, undef, undef, undef, undef, undef, undef, undef, undef, undef, undef, undef, undef, undef, undef, undef, undef, undef, undef, undef, undef, undef, undef, undef, undef, undef, undef, undef, undef, undef, undef, undef, undef, undef, undef, undef, undef, undef, undef, undef], []⟩ (((w.alloc (.cells #[.int .i64 r.lhs, .int .i64 r.op, .int .i64 r.cost, .slice ad1 r.rhs.length cap1, .slice ad2 r.p.length cap2] 91)).alloc (.cells #[.int .i64 0, .slice none 0 0, .int .i64 0, .slice none 0 0, .int .i64 0] 120)).alloc (.cells #[.int .i64 (r.lhs % sym), .slice none 0 0, .int .i64 0, .slice none 0 0, .int .i64 (r.cost % 101)] 120)).drew by
    go_region_with (first | (go_at_call 107; refine (HW.out _ _ _ (by omega) (by omega)).mono ?_; rintro e w1 ⟨rfl, rfl⟩))
    all_goals exact key
  go_wp2_with fail
  refine (HW.out _ _ _ (by omega) (by omega)).mono ?_
  rintro e w1 ⟨rfl, rfl⟩
  have ho := mkOp_range r
  unfold mkOp at ho
  have hn := mkN_eq r
  unfold mkOp at hn
  obtain ⟨o, hoN⟩ : ∃ o : Nat, r.op % 16 = (o : Int) := ⟨(r.op % 16).toNat, by omega⟩
  rw [hoN] at hn ⊢
  rw [Int.toNat_natCast] at hn
  have ho16 : o < 16 := by omega
  have HN := hid hn
  have HO := hid hoN
  clear hn hoN ho
  have l5 : ∀ h : o < ([Value.int .i64 1, Value.int .i64 3, Value.int .i64 2, Value.int .i64 2, Value.int .i64 2, Value.int .i64 2, Value.int .i64 3, Value.int .i64 1, Value.int .i64 1, Value.int .i64 2, Value.int .i64 1, Value.int .i64 1, Value.int .i64 2, Value.int .i64 2, Value.int .i64 2, Value.int .i64 2] : List Value).length, ([Value.int .i64 1, Value.int .i64 3, Value.int .i64 2, Value.int .i64 2, Value.int .i64 2, Value.int .i64 2, Value.int .i64 3, Value.int .i64 1, Value.int .i64 1, Value.int .i64 2, Value.int .i64 1, Value.int .i64 1, Value.int .i64 2, Value.int .i64 2, Value.int .i64 2, Value.int .i64 2] : List Value)[o]'h = .int .i64 ((mkN r : Nat) : Int) := fun h => by
    have l3 := lows_at' o ho16
    rw [List.getElem?_eq_getElem h] at l3
    rw [HN.out]
    exact Option.some.inj l3
  obtain ⟨n, hnE⟩ : ∃ n, mkN r = n := ⟨_, rfl⟩
  rw [hnE] at l5
  have hn3 := mkN_range r
  rw [hnE] at hn3
  have HNE := hid hnE
  clear hnE
  go_wp2
  obtain ⟨gx, hgx⟩ : ∃ gx, gx = w.heap.size + 1 + 1 := ⟨_, rfl⟩
  obtain ⟨W3, hW3⟩ : ∃ W3, W3 = ((((w.alloc (.cells #[.int .i64 r.lhs, .int .i64 r.op, .int .i64 r.cost, .slice ad1 r.rhs.length cap1, .slice ad2 r.p.length cap2] 91)).alloc (.cells #[.int .i64 0, .slice none 0 0, .int .i64 0, .slice none 0 0, .int .i64 0] 120)).alloc (.cells #[.int .i64 (r.lhs % sym), .slice none 0 0, .int .i64 (o : Int), .slice none 0 0, .int .i64 (r.cost % 101)] 120)).alloc (.cells #[Value.int .i64 1, Value.int .i64 3, Value.int .i64 2, Value.int .i64 2, Value.int .i64 2, Value.int .i64 2, Value.int .i64 3, Value.int .i64 1, Value.int .i64 1, Value.int .i64 2, Value.int .i64 1, Value.int .i64 1, Value.int .i64 2, Value.int .i64 2, Value.int .i64 2, Value.int .i64 2] 3)).drew := ⟨_, rfl⟩
  have hB3 : Below w.heap.size w W3 := by
    rw [hW3]; exact (up_trans (up_trans (up_trans (up_alloc _ _) (up_alloc _ _)) (up_alloc _ _)) (up_alloc _ _)).drew
  have hsz3 : W3.heap.size = w.heap.size + 4 := by rw [hW3]; simp [World.drew]
  have bx0 : Box W3 w.heap.size (.int .i64 r.lhs) (.int .i64 r.op) (.int .i64 r.cost) (.slice ad1 r.rhs.length cap1) (.slice ad2 r.p.length cap2) := by
    rw [hW3]; exact ((((box_new _ _ _ _ _ _ _ _ rfl).on (up_alloc _ _)).on (up_alloc _ _)).on ((up_alloc _ _).drew))
  have hres : W3.heap[w.heap.size + 1]? = some (.cells #[.int .i64 0, .slice none 0 0, .int .i64 0, .slice none 0 0, .int .i64 0] 120 (0, 0)) := by
    rw [hW3]
    show ((((w.alloc _).alloc _).alloc _).alloc _).heap[w.heap.size + 1]? = _
    rw [Below.heap_alloc _ _ _ (by simp), Below.heap_alloc _ _ _ (by simp), show w.heap.size + 1 = (w.alloc (.cells #[.int .i64 r.lhs, .int .i64 r.op, .int .i64 r.cost, .slice ad1 r.rhs.length cap1, .slice ad2 r.p.length cap2] 91)).heap.size by simp]
    exact row_new _ _
  have hmade : Made W3 gx ⟨r.lhs % sym, [], (o : Int), [], r.cost % 101⟩ (.slice none 0 0) (.slice none 0 0) := by
    refine ⟨?_, World.ownsRow_nil _ _ _ _, World.ownsRow_nil _ _ _ _, fun g e => by cases e⟩
    rw [hW3, hgx]
    show ((((w.alloc _).alloc _).alloc _).alloc _).heap[w.heap.size + 1 + 1]? = _
    rw [Below.heap_alloc _ _ _ (by simp), show w.heap.size + 1 + 1 = ((w.alloc (.cells #[.int .i64 r.lhs, .int .i64 r.op, .int .i64 r.cost, .slice ad1 r.rhs.length cap1, .slice ad2 r.p.length cap2] 91)).alloc (.cells #[.int .i64 0, .slice none 0 0, .int .i64 0, .slice none 0 0, .int .i64 0] 120)).heap.size by simp]
    exact row_new _ _
  simp only [← hgx, ← hW3]
  have HGX := hid hgx
  have HB3 := hid hB3
  have HSZ3 := hid hsz3
  have HBX0 := hid bx0
  have HRES := hid hres
  have HMADE := hid hmade
  have HCR := hid (mkC_range r)
  clear hgx hW3 hB3 hsz3 bx0 hres hmade
  go_loopw [7] (fun v wr => ∃ j : Nat, j ≤ mkC r ∧ v = .int .i64 j ∧ (∃ sv, Made wr gx ⟨r.lhs % sym, mkRhs r sym j, (o : Int), [], r.cost % 101⟩ sv (.slice none 0 0)) ∧ Below gx W3 wr) (fun v _ => mkC r - (intOf v).toNat)
  case atStart => exact ⟨0, by omega, rfl, ⟨_, HMADE.out⟩, Below.refl _ _⟩
  case round =>
    obtain ⟨j, hj, rfl, ⟨svj, hMd⟩, hb⟩ := hrel
    obtain ⟨WB, rfl⟩ : ∃ WB, WB = wr := ⟨wr, rfl⟩
    have HGO := hid (mkGo_iff r j)
    obtain ⟨x0, x1, x2, x3, x4⟩ := box_below HBX0.out hb (by have := HGX.out; omega)
    obtain ⟨b0, b1, b2, b3, b4⟩ := hMd.box
    have f1 := hMd.frozen 1
    obtain ⟨ads, caps, hsv⟩ := hMd.2.1.shape
    rw [show (⟨r.lhs % sym, mkRhs r sym j, (o : Int), [], r.cost % 101⟩ : Rule).rhs.length = j from mkRhs_length _ _ _] at hsv
    subst hsv
    have HM := hid hMd
    have HLN : Hid ((mkRhs r sym j).length = j) := hid (mkRhs_length _ _ _)
    have HB := hid hb
    have HLB := hid (HB3.out.trans (hb.mono (by have := HGX.out; omega)))
    have hgw := hMd.lt
    have hl3 : r.rhs.length % 3 < 3 := Nat.mod_lt _ (by decide)
    clear hMd hb
    by_cases cA : j < 1 + r.rhs.length % 3
    · have hgo : j < mkC r := by have := HGO.out; simp [mkGo, cA] at this; omega
      have cA2 : (j : Int) < 1 + (r.rhs.length : Int) % 3 := by omega
      by_cases cI : j < r.rhs.length
      · have cI2 : (j : Int) < (r.rhs.length : Int) := by omega
        obtain ⟨a1, rfl, hcell⟩ := HC1.out j cI
        have hcell2 := (HLB.out.cell (lt_of_cell hcell)).trans hcell
        have HTK : Hid (takeAt r.rhs j = r.rhs.getD j 0) := hid (if_pos cI)
        have hky : wf64 (r.rhs.getD j 0) := HOK.out.2.2.2.1 _ (List.mem_of_getElem? (getD_at cI))
        unfold wf64 at hky
        generalize r.rhs.getD j 0 = y at *
        clear hcell
        by_cases cP : (y.tdiv 20) % 2 = 0
        · have l7 : ∀ h : ((y.tdiv 40) % 11).toNat < ([Value.int .i64 0, Value.int .i64 0, Value.int .i64 0, Value.int .i64 1, Value.int .i64 2, Value.int .i64 3, Value.int .i64 50, Value.int .i64 51, Value.int .i64 52, Value.int .i64 53, Value.int .i64 54] : List Value).length, ([Value.int .i64 0, Value.int .i64 0, Value.int .i64 0, Value.int .i64 1, Value.int .i64 2, Value.int .i64 3, Value.int .i64 50, Value.int .i64 51, Value.int .i64 52, Value.int .i64 53, Value.int .i64 54] : List Value)[((y.tdiv 40) % 11).toNat]'h = .int .i64 (classes.getD ((y.tdiv 40) % 11).toNat 0) := fun h => by
            have l3 := classes_at ((y.tdiv 40) % 11).toNat (by omega)
            rw [List.getElem?_eq_getElem h] at l3
            exact Option.some.inj l3
          have l8 : ([Value.int .i64 0, Value.int .i64 0, Value.int .i64 0, Value.int .i64 1, Value.int .i64 2, Value.int .i64 3, Value.int .i64 50, Value.int .i64 51, Value.int .i64 52, Value.int .i64 53, Value.int .i64 54] : List Value)[((y.tdiv 40) % 11).toNat]? = some (.int .i64 (classes.getD ((y.tdiv 40) % 11).toNat 0)) := classes_at ((y.tdiv 40) % 11).toNat (by omega)
          have hcr := classes_range ((y.tdiv 40) % 11).toNat
          have HPX : Hid (mkPart r sym j = -1 - classes.getD ((y.tdiv 40) % 11).toNat 0) := hid (by unfold mkPart; rw [HTK.out]; exact if_pos cP)
          generalize classes.getD ((y.tdiv 40) % 11).toNat 0 = cv at *
          go_wp2_with (first | (go_at_call 107; refine (HW.out _ _ _ (by omega) (by omega)).mono ?_; rintro e w1 ⟨rfl, hw1⟩; obtain rfl := hw1.symm; clear hw1) | (at_builtin; refine wpList_append_lies _ rfl (.tmp 78) (.tmp 80) 25 rfl (gx + 1) 3 i0 (.int .i64 0) 1 8 Tryz.underlying25 hi hz0 hz1 hz2 rfl (by decide) _ j _ rfl (made_rhs (HM.out.on (up_alloc _ _)) HLN.out _) ⟨WB.heap.size + 1, 0, none⟩ 1 1 [.int .i64 (-1 - cv)] rfl rfl (one_cellg _ _ _ _ (by simp)) (one_oneCell _) (by decide) (by unfold maxLen; omega) (by omega) (by simp; omega) _ rfl ?_; intro ga ca W2 hown hgr hat hlt3; have hmid := (HM.out.on (up_alloc _ _)).mid hgr (.inl rfl); have HP := hid (push_rhs (HM.out.on (up_alloc _ _)) HLN.out hown hgr hat (by simp)); have hmc := mid_cell hmid; obtain ⟨⟨mc1, mc3⟩, mf1, mf3⟩ := hmc; clear hown hgr hat hlt3 hmid))
          go_roundw
          case rel => exact ⟨j + 1, by omega, by simp, ⟨_, by rw [mkRhs_succ, HPX.out]; exact HP.out.1⟩, HB.out.trans (((Below.refl gx WB).alloc (by omega) _).trans HP.out.2)⟩
          case measure => simp [intOf]; omega
        · have HPX : Hid (mkPart r sym j = y % sym) := hid (by unfold mkPart; rw [HTK.out]; exact if_neg cP)
          go_wp2_with (first | (go_at_call 107; refine (HW.out _ _ _ (by omega) (by omega)).mono ?_; rintro e w1 ⟨rfl, hw1⟩; obtain rfl := hw1.symm; clear hw1) | (at_builtin; refine wpList_append_lies _ rfl (.tmp 78) (.tmp 80) 25 rfl (gx + 1) 3 i0 (.int .i64 0) 1 8 Tryz.underlying25 hi hz0 hz1 hz2 rfl (by decide) _ j _ rfl (made_rhs HM.out HLN.out _) ⟨WB.heap.size, 0, none⟩ 1 1 [.int .i64 (y % sym)] rfl rfl (one_cell _ _ _) (one_oneCell _) (by decide) (by unfold maxLen; omega) (by omega) (by simp; omega) _ rfl ?_; intro ga ca W2 hown hgr hat hlt3; have hmid := HM.out.mid hgr (.inl rfl); have HP := hid (push_rhs HM.out HLN.out hown hgr hat (by simp)); have hmc := mid_cell hmid; obtain ⟨⟨mc1, mc3⟩, mf1, mf3⟩ := hmc; clear hown hgr hat hlt3 hmid))
          go_roundw
          case rel => exact ⟨j + 1, by omega, by simp, ⟨_, by rw [mkRhs_succ, HPX.out]; exact HP.out.1⟩, HB.out.trans HP.out.2⟩
          case measure => simp [intOf]; omega
      · have cI2 : ¬ ((j : Int) < (r.rhs.length : Int)) := by omega
        have hj3 : j = 0 ∨ j = 1 ∨ j = 2 := by have := HCR.out; omega
        rcases hj3 with rfl | rfl | rfl
        · have HPX : Hid (mkPart r sym 0 = -1) := hid (by unfold mkPart; rw [show takeAt r.rhs 0 = 0 from if_neg cI]; rfl)
          go_wp2_with (first | (go_at_call 107; refine (HW.out _ _ _ (by omega) (by omega)).mono ?_; rintro e w1 ⟨rfl, hw1⟩; obtain rfl := hw1.symm; clear hw1) | (at_builtin; refine wpList_append_lies _ rfl (.tmp 78) (.tmp 80) 25 rfl (gx + 1) 3 i0 (.int .i64 0) 1 8 Tryz.underlying25 hi hz0 hz1 hz2 rfl (by decide) _ 0 _ rfl (made_rhs (HM.out.on (up_alloc _ _)) HLN.out _) ⟨WB.heap.size + 1, 0, none⟩ 1 1 [.int .i64 (-1)] rfl rfl (one_cellg _ _ _ _ (by simp)) (one_oneCell _) (by decide) (by unfold maxLen; omega) (by omega) (by simp; omega) _ rfl ?_; intro ga ca W2 hown hgr hat hlt3; have hmid := (HM.out.on (up_alloc _ _)).mid hgr (.inl rfl); have HP := hid (push_rhs (HM.out.on (up_alloc _ _)) HLN.out hown hgr hat (by simp)); have hmc := mid_cell hmid; obtain ⟨⟨mc1, mc3⟩, mf1, mf3⟩ := hmc; clear hown hgr hat hlt3 hmid))
          go_roundw
          case rel => exact ⟨0 + 1, by omega, by simp, ⟨_, by rw [mkRhs_succ, HPX.out]; exact HP.out.1⟩, HB.out.trans (((Below.refl gx WB).alloc (by omega) _).trans HP.out.2)⟩
          case measure => simp [intOf]; omega
        · have HPX : Hid (mkPart r sym 1 = -1) := hid (by unfold mkPart; rw [show takeAt r.rhs 1 = 1 from if_neg cI]; rfl)
          go_wp2_with (first | (go_at_call 107; refine (HW.out _ _ _ (by omega) (by omega)).mono ?_; rintro e w1 ⟨rfl, hw1⟩; obtain rfl := hw1.symm; clear hw1) | (at_builtin; refine wpList_append_lies _ rfl (.tmp 78) (.tmp 80) 25 rfl (gx + 1) 3 i0 (.int .i64 0) 1 8 Tryz.underlying25 hi hz0 hz1 hz2 rfl (by decide) _ 1 _ rfl (made_rhs (HM.out.on (up_alloc _ _)) HLN.out _) ⟨WB.heap.size + 1, 0, none⟩ 1 1 [.int .i64 (-1)] rfl rfl (one_cellg _ _ _ _ (by simp)) (one_oneCell _) (by decide) (by unfold maxLen; omega) (by omega) (by simp; omega) _ rfl ?_; intro ga ca W2 hown hgr hat hlt3; have hmid := (HM.out.on (up_alloc _ _)).mid hgr (.inl rfl); have HP := hid (push_rhs (HM.out.on (up_alloc _ _)) HLN.out hown hgr hat (by simp)); have hmc := mid_cell hmid; obtain ⟨⟨mc1, mc3⟩, mf1, mf3⟩ := hmc; clear hown hgr hat hlt3 hmid))
          go_roundw
          case rel => exact ⟨1 + 1, by omega, by simp, ⟨_, by rw [mkRhs_succ, HPX.out]; exact HP.out.1⟩, HB.out.trans (((Below.refl gx WB).alloc (by omega) _).trans HP.out.2)⟩
          case measure => simp [intOf]; omega
        · have HPX : Hid (mkPart r sym 2 = -1) := hid (by unfold mkPart; rw [show takeAt r.rhs 2 = 2 from if_neg cI]; rfl)
          go_wp2_with (first | (go_at_call 107; refine (HW.out _ _ _ (by omega) (by omega)).mono ?_; rintro e w1 ⟨rfl, hw1⟩; obtain rfl := hw1.symm; clear hw1) | (at_builtin; refine wpList_append_lies _ rfl (.tmp 78) (.tmp 80) 25 rfl (gx + 1) 3 i0 (.int .i64 0) 1 8 Tryz.underlying25 hi hz0 hz1 hz2 rfl (by decide) _ 2 _ rfl (made_rhs (HM.out.on (up_alloc _ _)) HLN.out _) ⟨WB.heap.size + 1, 0, none⟩ 1 1 [.int .i64 (-1)] rfl rfl (one_cellg _ _ _ _ (by simp)) (one_oneCell _) (by decide) (by unfold maxLen; omega) (by omega) (by simp; omega) _ rfl ?_; intro ga ca W2 hown hgr hat hlt3; have hmid := (HM.out.on (up_alloc _ _)).mid hgr (.inl rfl); have HP := hid (push_rhs (HM.out.on (up_alloc _ _)) HLN.out hown hgr hat (by simp)); have hmc := mid_cell hmid; obtain ⟨⟨mc1, mc3⟩, mf1, mf3⟩ := hmc; clear hown hgr hat hlt3 hmid))
          go_roundw
          case rel => exact ⟨2 + 1, by omega, by simp, ⟨_, by rw [mkRhs_succ, HPX.out]; exact HP.out.1⟩, HB.out.trans (((Below.refl gx WB).alloc (by omega) _).trans HP.out.2)⟩
          case measure => simp [intOf]; omega
    · have cA2 : ¬ ((j : Int) < 1 + (r.rhs.length : Int) % 3) := by omega
      by_cases cB : j < n
      · have cB2 : (j : Int) < (n : Int) := by omega
        by_cases cC : (r.op.tdiv 16) % 2 = 0
        · have hgo : j < mkC r := by have := HGO.out; simp [mkGo, cA, HNE.out, cB, cC] at this; omega
          by_cases cI : j < r.rhs.length
          · have cI2 : (j : Int) < (r.rhs.length : Int) := by omega
            obtain ⟨a1, rfl, hcell⟩ := HC1.out j cI
            have hcell2 := (HLB.out.cell (lt_of_cell hcell)).trans hcell
            have HTK : Hid (takeAt r.rhs j = r.rhs.getD j 0) := hid (if_pos cI)
            have hky : wf64 (r.rhs.getD j 0) := HOK.out.2.2.2.1 _ (List.mem_of_getElem? (getD_at cI))
            unfold wf64 at hky
            generalize r.rhs.getD j 0 = y at *
            clear hcell
            by_cases cP : (y.tdiv 20) % 2 = 0
            · have l7 : ∀ h : ((y.tdiv 40) % 11).toNat < ([Value.int .i64 0, Value.int .i64 0, Value.int .i64 0, Value.int .i64 1, Value.int .i64 2, Value.int .i64 3, Value.int .i64 50, Value.int .i64 51, Value.int .i64 52, Value.int .i64 53, Value.int .i64 54] : List Value).length, ([Value.int .i64 0, Value.int .i64 0, Value.int .i64 0, Value.int .i64 1, Value.int .i64 2, Value.int .i64 3, Value.int .i64 50, Value.int .i64 51, Value.int .i64 52, Value.int .i64 53, Value.int .i64 54] : List Value)[((y.tdiv 40) % 11).toNat]'h = .int .i64 (classes.getD ((y.tdiv 40) % 11).toNat 0) := fun h => by
                have l3 := classes_at ((y.tdiv 40) % 11).toNat (by omega)
                rw [List.getElem?_eq_getElem h] at l3
                exact Option.some.inj l3
              have l8 : ([Value.int .i64 0, Value.int .i64 0, Value.int .i64 0, Value.int .i64 1, Value.int .i64 2, Value.int .i64 3, Value.int .i64 50, Value.int .i64 51, Value.int .i64 52, Value.int .i64 53, Value.int .i64 54] : List Value)[((y.tdiv 40) % 11).toNat]? = some (.int .i64 (classes.getD ((y.tdiv 40) % 11).toNat 0)) := classes_at ((y.tdiv 40) % 11).toNat (by omega)
              have hcr := classes_range ((y.tdiv 40) % 11).toNat
              have HPX : Hid (mkPart r sym j = -1 - classes.getD ((y.tdiv 40) % 11).toNat 0) := hid (by unfold mkPart; rw [HTK.out]; exact if_pos cP)
              generalize classes.getD ((y.tdiv 40) % 11).toNat 0 = cv at *
              go_wp2_with (first | (go_at_call 107; refine (HW.out _ _ _ (by omega) (by omega)).mono ?_; rintro e w1 ⟨rfl, hw1⟩; obtain rfl := hw1.symm; clear hw1) | (at_builtin; refine wpList_append_lies _ rfl (.tmp 78) (.tmp 80) 25 rfl (gx + 1) 3 i0 (.int .i64 0) 1 8 Tryz.underlying25 hi hz0 hz1 hz2 rfl (by decide) _ j _ rfl (made_rhs (HM.out.on (up_alloc _ _)) HLN.out _) ⟨WB.heap.size + 1, 0, none⟩ 1 1 [.int .i64 (-1 - cv)] rfl rfl (one_cellg _ _ _ _ (by simp)) (one_oneCell _) (by decide) (by unfold maxLen; omega) (by omega) (by simp; omega) _ rfl ?_; intro ga ca W2 hown hgr hat hlt3; have hmid := (HM.out.on (up_alloc _ _)).mid hgr (.inl rfl); have HP := hid (push_rhs (HM.out.on (up_alloc _ _)) HLN.out hown hgr hat (by simp)); have hmc := mid_cell hmid; obtain ⟨⟨mc1, mc3⟩, mf1, mf3⟩ := hmc; clear hown hgr hat hlt3 hmid))
              go_roundw
              case rel => exact ⟨j + 1, by omega, by simp, ⟨_, by rw [mkRhs_succ, HPX.out]; exact HP.out.1⟩, HB.out.trans (((Below.refl gx WB).alloc (by omega) _).trans HP.out.2)⟩
              case measure => simp [intOf]; omega
            · have HPX : Hid (mkPart r sym j = y % sym) := hid (by unfold mkPart; rw [HTK.out]; exact if_neg cP)
              go_wp2_with (first | (go_at_call 107; refine (HW.out _ _ _ (by omega) (by omega)).mono ?_; rintro e w1 ⟨rfl, hw1⟩; obtain rfl := hw1.symm; clear hw1) | (at_builtin; refine wpList_append_lies _ rfl (.tmp 78) (.tmp 80) 25 rfl (gx + 1) 3 i0 (.int .i64 0) 1 8 Tryz.underlying25 hi hz0 hz1 hz2 rfl (by decide) _ j _ rfl (made_rhs HM.out HLN.out _) ⟨WB.heap.size, 0, none⟩ 1 1 [.int .i64 (y % sym)] rfl rfl (one_cell _ _ _) (one_oneCell _) (by decide) (by unfold maxLen; omega) (by omega) (by simp; omega) _ rfl ?_; intro ga ca W2 hown hgr hat hlt3; have hmid := HM.out.mid hgr (.inl rfl); have HP := hid (push_rhs HM.out HLN.out hown hgr hat (by simp)); have hmc := mid_cell hmid; obtain ⟨⟨mc1, mc3⟩, mf1, mf3⟩ := hmc; clear hown hgr hat hlt3 hmid))
              go_roundw
              case rel => exact ⟨j + 1, by omega, by simp, ⟨_, by rw [mkRhs_succ, HPX.out]; exact HP.out.1⟩, HB.out.trans HP.out.2⟩
              case measure => simp [intOf]; omega
          · have cI2 : ¬ ((j : Int) < (r.rhs.length : Int)) := by omega
            have hj3 : j = 0 ∨ j = 1 ∨ j = 2 := by have := HCR.out; omega
            rcases hj3 with rfl | rfl | rfl
            · omega
            · have HPX : Hid (mkPart r sym 1 = -1) := hid (by unfold mkPart; rw [show takeAt r.rhs 1 = 1 from if_neg cI]; rfl)
              go_wp2_with (first | (go_at_call 107; refine (HW.out _ _ _ (by omega) (by omega)).mono ?_; rintro e w1 ⟨rfl, hw1⟩; obtain rfl := hw1.symm; clear hw1) | (at_builtin; refine wpList_append_lies _ rfl (.tmp 78) (.tmp 80) 25 rfl (gx + 1) 3 i0 (.int .i64 0) 1 8 Tryz.underlying25 hi hz0 hz1 hz2 rfl (by decide) _ 1 _ rfl (made_rhs (HM.out.on (up_alloc _ _)) HLN.out _) ⟨WB.heap.size + 1, 0, none⟩ 1 1 [.int .i64 (-1)] rfl rfl (one_cellg _ _ _ _ (by simp)) (one_oneCell _) (by decide) (by unfold maxLen; omega) (by omega) (by simp; omega) _ rfl ?_; intro ga ca W2 hown hgr hat hlt3; have hmid := (HM.out.on (up_alloc _ _)).mid hgr (.inl rfl); have HP := hid (push_rhs (HM.out.on (up_alloc _ _)) HLN.out hown hgr hat (by simp)); have hmc := mid_cell hmid; obtain ⟨⟨mc1, mc3⟩, mf1, mf3⟩ := hmc; clear hown hgr hat hlt3 hmid))
              go_roundw
              case rel => exact ⟨1 + 1, by omega, by simp, ⟨_, by rw [mkRhs_succ, HPX.out]; exact HP.out.1⟩, HB.out.trans (((Below.refl gx WB).alloc (by omega) _).trans HP.out.2)⟩
              case measure => simp [intOf]; omega
            · have HPX : Hid (mkPart r sym 2 = -1) := hid (by unfold mkPart; rw [show takeAt r.rhs 2 = 2 from if_neg cI]; rfl)
              go_wp2_with (first | (go_at_call 107; refine (HW.out _ _ _ (by omega) (by omega)).mono ?_; rintro e w1 ⟨rfl, hw1⟩; obtain rfl := hw1.symm; clear hw1) | (at_builtin; refine wpList_append_lies _ rfl (.tmp 78) (.tmp 80) 25 rfl (gx + 1) 3 i0 (.int .i64 0) 1 8 Tryz.underlying25 hi hz0 hz1 hz2 rfl (by decide) _ 2 _ rfl (made_rhs (HM.out.on (up_alloc _ _)) HLN.out _) ⟨WB.heap.size + 1, 0, none⟩ 1 1 [.int .i64 (-1)] rfl rfl (one_cellg _ _ _ _ (by simp)) (one_oneCell _) (by decide) (by unfold maxLen; omega) (by omega) (by simp; omega) _ rfl ?_; intro ga ca W2 hown hgr hat hlt3; have hmid := (HM.out.on (up_alloc _ _)).mid hgr (.inl rfl); have HP := hid (push_rhs (HM.out.on (up_alloc _ _)) HLN.out hown hgr hat (by simp)); have hmc := mid_cell hmid; obtain ⟨⟨mc1, mc3⟩, mf1, mf3⟩ := hmc; clear hown hgr hat hlt3 hmid))
              go_roundw
              case rel => exact ⟨2 + 1, by omega, by simp, ⟨_, by rw [mkRhs_succ, HPX.out]; exact HP.out.1⟩, HB.out.trans (((Below.refl gx WB).alloc (by omega) _).trans HP.out.2)⟩
              case measure => simp [intOf]; omega
        · have hgo : ¬ j < mkC r := by have := HGO.out; simp [mkGo, cA, cC] at this; omega
          have hjc : j = mkC r := by omega
          subst hjc
          generalize hcE : mkC r = c at *
          have HCE := hid hcE
          have hc3 := HCR.out
          clear hcE
          have cA3 : decide ((c : Int) < 1 + (r.rhs.length : Int) % 3) = false := decide_eq_false (by omega)
          go_wp2_with (go_at_call 107; refine (HW.out _ _ _ (by omega) (by omega)).mono ?_; rintro e w1 ⟨rfl, hw1⟩; obtain rfl := hw1.symm; clear hw1)
          try simp only [cA3]
          clear cA3
          try (have cC4 : (r.op.tdiv 16 % 2 == 0) = false := by simpa using cC)
          try simp only [cC4]
          try clear cC4
          go_loopw [10] (fun v wr => ∃ i : Nat, i ≤ n ∧ v = .int .i64 i ∧ (∃ sv pv, Made wr gx ⟨r.lhs % sym, mkRhs r sym c, (o : Int), mkPs r c i, r.cost % 101⟩ sv pv) ∧ Below gx W3 wr) (fun v _ => n - (intOf v).toNat)
          case atStart => exact ⟨0, by omega, rfl, ⟨_, _, HM.out⟩, HB.out⟩
          case round =>
            obtain ⟨i, hi2, rfl, ⟨sv2, pv2, hMd⟩, hb⟩ := hrel
            obtain ⟨x0, x1, x2, x3, x4⟩ := box_below HBX0.out hb (by have := HGX.out; omega)
            obtain ⟨b0, b1, b2, b3, b4⟩ := hMd.box
            have f3 := hMd.frozen 3
            obtain ⟨ads2, caps2, hsv2⟩ := hMd.2.1.shape
            rw [show (⟨r.lhs % sym, mkRhs r sym c, (o : Int), mkPs r c i, r.cost % 101⟩ : Rule).rhs.length = c from mkRhs_length _ _ _] at hsv2
            obtain ⟨adp, capp, hpv2⟩ := hMd.2.2.1.shape
            rw [show (⟨r.lhs % sym, mkRhs r sym c, (o : Int), mkPs r c i, r.cost % 101⟩ : Rule).p.length = i from mkPs_length _ _ _] at hpv2
            subst hsv2 hpv2
            have HM2 := hid hMd
            have HLP : Hid ((mkPs r c i).length = i) := hid (mkPs_length _ _ _)
            have HB2 := hid hb
            have HLB2 := hid (HB3.out.trans (hb.mono (by have := HGX.out; omega)))
            have hgw2 := hMd.lt
            have hresW : wr.heap[w.heap.size + 1]? = _ := (hb.block (w.heap.size + 1) (by have := HGX.out; omega)).trans HRES.out
            clear hMd hb
            by_cases hlt3 : i < n
            · have hlt4 : (i : Int) < (n : Int) := by omega
              clear hresW
              by_cases cI : i < r.p.length
              · have cI2 : (i : Int) < (r.p.length : Int) := by omega
                obtain ⟨a2, rfl, hcell⟩ := HC2.out i cI
                have hcell2 := (HLB2.out.cell (lt_of_cell hcell)).trans hcell
                have HTK : Hid (takeAt r.p i = r.p.getD i 0) := hid (if_pos cI)
                have hky : wf64 (r.p.getD i 0) := HOK.out.2.2.2.2 _ (List.mem_of_getElem? (getD_at cI))
                unfold wf64 at hky
                generalize r.p.getD i 0 = y at *
                clear hcell
                go_wp2
                go_region_law (first | (refine step_append_lies _ rfl (.tmp 101) (.tmp 107) 25 rfl (gx + 1) 3 i0 (.int .i64 0) 1 8 Tryz.underlying25 hi hz0 hz1 hz2 rfl (by decide) (.slice adp i capp) i _ (by simp [Act.eval]) (World.ownsRow.drew (made_p HM2.out HLP.out _)) ⟨wr.heap.size, 0, none⟩ 1 1 [.int .i64 (y % (c : Int))] (by simp [Act.eval]) rfl (one_cell _ _ _) (one_oneCell _) (by decide) (by unfold maxLen; omega) (by omega) (by simp; omega) _ rfl ?_; intro ga ca W2 hown hgr hat hlt5; have hmid := HM2.out.mid (undrew hgr) (.inr rfl); have HP := hid (push_p HM2.out HLP.out hown (undrew hgr) hat (by simp)); have hmc := mid_cell hmid; obtain ⟨⟨mc1, mc3⟩, mf1, mf3⟩ := hmc; clear hown hgr hat hlt5 hmid) | (go_simp; go_at_call 107; refine (HW.out _ _ _ (by omega) (by omega)).mono ?_; rintro e w1 ⟨rfl, hw1⟩; obtain rfl := hw1.symm; clear hw1))
                all_goals
                  go_wp2
                  go_roundw
                  · exact ⟨i + 1, by omega, by simp, ⟨_, _, by rw [mkPs_succ, HTK.out]; exact HP.out.1⟩, HB2.out.trans HP.out.2⟩
                  · simp [intOf]; omega
              · have cI2 : ¬ ((i : Int) < (r.p.length : Int)) := by omega
                have HTK : Hid (takeAt r.p i = (i : Int)) := hid (if_neg cI)
                go_wp2
                go_region_law (first | (refine step_append_lies _ rfl (.tmp 101) (.tmp 107) 25 rfl (gx + 1) 3 i0 (.int .i64 0) 1 8 Tryz.underlying25 hi hz0 hz1 hz2 rfl (by decide) (.slice adp i capp) i _ (by simp [Act.eval]) (World.ownsRow.drew (made_p HM2.out HLP.out _)) ⟨wr.heap.size, 0, none⟩ 1 1 [.int .i64 ((i : Int) % (c : Int))] (by simp [Act.eval]) rfl (one_cell _ _ _) (one_oneCell _) (by decide) (by unfold maxLen; omega) (by omega) (by simp; omega) _ rfl ?_; intro ga ca W2 hown hgr hat hlt5; have hmid := HM2.out.mid (undrew hgr) (.inr rfl); have HP := hid (push_p HM2.out HLP.out hown (undrew hgr) hat (by simp)); have hmc := mid_cell hmid; obtain ⟨⟨mc1, mc3⟩, mf1, mf3⟩ := hmc; clear hown hgr hat hlt5 hmid) | (go_simp; go_at_call 107; refine (HW.out _ _ _ (by omega) (by omega)).mono ?_; rintro e w1 ⟨rfl, hw1⟩; obtain rfl := hw1.symm; clear hw1))
                all_goals
                  go_wp2
                  go_roundw
                  · exact ⟨i + 1, by omega, by simp, ⟨_, _, by rw [mkPs_succ, HTK.out]; exact HP.out.1⟩, HB2.out.trans HP.out.2⟩
                  · simp [intOf]; omega
            · obtain rfl : i = n := by omega
              have bx5 := cell_of_row wr (w.heap.size + 1)
              have r0 : wr.cell? ⟨w.heap.size + 1, 0, none⟩ = some (.int .i64 0) := by rw [cell_of_row _ _ _ _ _ _ hresW]; rfl
              have r1 : wr.cell? ⟨w.heap.size + 1, 1, none⟩ = some (.slice none 0 0) := by rw [cell_of_row _ _ _ _ _ _ hresW]; rfl
              have r2 : wr.cell? ⟨w.heap.size + 1, 2, none⟩ = some (.int .i64 0) := by rw [cell_of_row _ _ _ _ _ _ hresW]; rfl
              have r3 : wr.cell? ⟨w.heap.size + 1, 3, none⟩ = some (.slice none 0 0) := by rw [cell_of_row _ _ _ _ _ _ hresW]; rfl
              have r4 : wr.cell? ⟨w.heap.size + 1, 4, none⟩ = some (.int .i64 0) := by rw [cell_of_row _ _ _ _ _ _ hresW]; rfl
              have q0 : wr.frozen? ⟨w.heap.size + 1, 0, none⟩ = false := frozen_of_row _ _ _ _ _ hresW
              have q1 : wr.frozen? ⟨w.heap.size + 1, 1, none⟩ = false := frozen_of_row _ _ _ _ _ hresW
              have q2 : wr.frozen? ⟨w.heap.size + 1, 2, none⟩ = false := frozen_of_row _ _ _ _ _ hresW
              have q3 : wr.frozen? ⟨w.heap.size + 1, 3, none⟩ = false := frozen_of_row _ _ _ _ _ hresW
              have q4 : wr.frozen? ⟨w.heap.size + 1, 4, none⟩ = false := frozen_of_row _ _ _ _ _ hresW
              clear bx5
              have HF := hid (make_ends r sym c i o wr gx w.heap.size _ _ HCE.out HNE.out HO.out HM2.out (by have := HGX.out; omega))
              have HLF := hid ((((((HLB2.out.setCell (p := ⟨w.heap.size + 1, 0, none⟩) (Nat.le_succ _) (.int .i64 (r.lhs % sym))).setCell (p := ⟨w.heap.size + 1, 1, none⟩) (Nat.le_succ _) (.slice ads2 c caps2)).setCell (p := ⟨w.heap.size + 1, 2, none⟩) (Nat.le_succ _) (.int .i64 (o : Int))).setCell (p := ⟨w.heap.size + 1, 3, none⟩) (Nat.le_succ _) (.slice adp i capp)).setCell (p := ⟨w.heap.size + 1, 4, none⟩) (Nat.le_succ _) (.int .i64 (r.cost % 101))))
              go_wp2
              refine bodyPost_ret (v := .agg #[.int .i64 (r.lhs % sym), .slice ads2 c caps2, .int .i64 (o : Int), .slice adp i capp, .int .i64 (r.cost % 101)]) ?_ rfl ⟨_, _, congrArg _ HF.out.1, HF.out.2.1, HF.out.2.2, HLF.out⟩
              exact results_cell_row rfl _ _ (w.heap.size + 1) 120 _ (0, 0) _ rfl (set5_heap hresW _ _ _ _ _) Tryz.underlying120 rfl (by kernel_rfl)
      · have cB2 : ¬ ((j : Int) < (n : Int)) := by omega
        have hgo : ¬ j < mkC r := by have := HGO.out; simp [mkGo, cA, HNE.out, cB] at this; omega
        have hjc : j = mkC r := by omega
        subst hjc
        generalize hcE : mkC r = c at *
        have HCE := hid hcE
        have hc3 := HCR.out
        clear hcE
        have cA3 : decide ((c : Int) < 1 + (r.rhs.length : Int) % 3) = false := decide_eq_false (by omega)
        go_wp2_with (go_at_call 107; refine (HW.out _ _ _ (by omega) (by omega)).mono ?_; rintro e w1 ⟨rfl, hw1⟩; obtain rfl := hw1.symm; clear hw1)
        try simp only [cA3]
        clear cA3
        try (have cC4 : (r.op.tdiv 16 % 2 == 0) = false := by simpa using cC)
        try simp only [cC4]
        try clear cC4
        go_loopw [10] (fun v wr => ∃ i : Nat, i ≤ n ∧ v = .int .i64 i ∧ (∃ sv pv, Made wr gx ⟨r.lhs % sym, mkRhs r sym c, (o : Int), mkPs r c i, r.cost % 101⟩ sv pv) ∧ Below gx W3 wr) (fun v _ => n - (intOf v).toNat)
        case atStart => exact ⟨0, by omega, rfl, ⟨_, _, HM.out⟩, HB.out⟩
        case round =>
          obtain ⟨i, hi2, rfl, ⟨sv2, pv2, hMd⟩, hb⟩ := hrel
          obtain ⟨x0, x1, x2, x3, x4⟩ := box_below HBX0.out hb (by have := HGX.out; omega)
          obtain ⟨b0, b1, b2, b3, b4⟩ := hMd.box
          have f3 := hMd.frozen 3
          obtain ⟨ads2, caps2, hsv2⟩ := hMd.2.1.shape
          rw [show (⟨r.lhs % sym, mkRhs r sym c, (o : Int), mkPs r c i, r.cost % 101⟩ : Rule).rhs.length = c from mkRhs_length _ _ _] at hsv2
          obtain ⟨adp, capp, hpv2⟩ := hMd.2.2.1.shape
          rw [show (⟨r.lhs % sym, mkRhs r sym c, (o : Int), mkPs r c i, r.cost % 101⟩ : Rule).p.length = i from mkPs_length _ _ _] at hpv2
          subst hsv2 hpv2
          have HM2 := hid hMd
          have HLP : Hid ((mkPs r c i).length = i) := hid (mkPs_length _ _ _)
          have HB2 := hid hb
          have HLB2 := hid (HB3.out.trans (hb.mono (by have := HGX.out; omega)))
          have hgw2 := hMd.lt
          have hresW : wr.heap[w.heap.size + 1]? = _ := (hb.block (w.heap.size + 1) (by have := HGX.out; omega)).trans HRES.out
          clear hMd hb
          by_cases hlt3 : i < n
          · have hlt4 : (i : Int) < (n : Int) := by omega
            clear hresW
            by_cases cI : i < r.p.length
            · have cI2 : (i : Int) < (r.p.length : Int) := by omega
              obtain ⟨a2, rfl, hcell⟩ := HC2.out i cI
              have hcell2 := (HLB2.out.cell (lt_of_cell hcell)).trans hcell
              have HTK : Hid (takeAt r.p i = r.p.getD i 0) := hid (if_pos cI)
              have hky : wf64 (r.p.getD i 0) := HOK.out.2.2.2.2 _ (List.mem_of_getElem? (getD_at cI))
              unfold wf64 at hky
              generalize r.p.getD i 0 = y at *
              clear hcell
              go_wp2
              go_region_law (first | (refine step_append_lies _ rfl (.tmp 101) (.tmp 107) 25 rfl (gx + 1) 3 i0 (.int .i64 0) 1 8 Tryz.underlying25 hi hz0 hz1 hz2 rfl (by decide) (.slice adp i capp) i _ (by simp [Act.eval]) (World.ownsRow.drew (made_p HM2.out HLP.out _)) ⟨wr.heap.size, 0, none⟩ 1 1 [.int .i64 (y % (c : Int))] (by simp [Act.eval]) rfl (one_cell _ _ _) (one_oneCell _) (by decide) (by unfold maxLen; omega) (by omega) (by simp; omega) _ rfl ?_; intro ga ca W2 hown hgr hat hlt5; have hmid := HM2.out.mid (undrew hgr) (.inr rfl); have HP := hid (push_p HM2.out HLP.out hown (undrew hgr) hat (by simp)); have hmc := mid_cell hmid; obtain ⟨⟨mc1, mc3⟩, mf1, mf3⟩ := hmc; clear hown hgr hat hlt5 hmid) | (go_simp; go_at_call 107; refine (HW.out _ _ _ (by omega) (by omega)).mono ?_; rintro e w1 ⟨rfl, hw1⟩; obtain rfl := hw1.symm; clear hw1))
              all_goals
                go_wp2
                go_roundw
                · exact ⟨i + 1, by omega, by simp, ⟨_, _, by rw [mkPs_succ, HTK.out]; exact HP.out.1⟩, HB2.out.trans HP.out.2⟩
                · simp [intOf]; omega
            · have cI2 : ¬ ((i : Int) < (r.p.length : Int)) := by omega
              have HTK : Hid (takeAt r.p i = (i : Int)) := hid (if_neg cI)
              go_wp2
              go_region_law (first | (refine step_append_lies _ rfl (.tmp 101) (.tmp 107) 25 rfl (gx + 1) 3 i0 (.int .i64 0) 1 8 Tryz.underlying25 hi hz0 hz1 hz2 rfl (by decide) (.slice adp i capp) i _ (by simp [Act.eval]) (World.ownsRow.drew (made_p HM2.out HLP.out _)) ⟨wr.heap.size, 0, none⟩ 1 1 [.int .i64 ((i : Int) % (c : Int))] (by simp [Act.eval]) rfl (one_cell _ _ _) (one_oneCell _) (by decide) (by unfold maxLen; omega) (by omega) (by simp; omega) _ rfl ?_; intro ga ca W2 hown hgr hat hlt5; have hmid := HM2.out.mid (undrew hgr) (.inr rfl); have HP := hid (push_p HM2.out HLP.out hown (undrew hgr) hat (by simp)); have hmc := mid_cell hmid; obtain ⟨⟨mc1, mc3⟩, mf1, mf3⟩ := hmc; clear hown hgr hat hlt5 hmid) | (go_simp; go_at_call 107; refine (HW.out _ _ _ (by omega) (by omega)).mono ?_; rintro e w1 ⟨rfl, hw1⟩; obtain rfl := hw1.symm; clear hw1))
              all_goals
                go_wp2
                go_roundw
                · exact ⟨i + 1, by omega, by simp, ⟨_, _, by rw [mkPs_succ, HTK.out]; exact HP.out.1⟩, HB2.out.trans HP.out.2⟩
                · simp [intOf]; omega
          · obtain rfl : i = n := by omega
            have bx5 := cell_of_row wr (w.heap.size + 1)
            have r0 : wr.cell? ⟨w.heap.size + 1, 0, none⟩ = some (.int .i64 0) := by rw [cell_of_row _ _ _ _ _ _ hresW]; rfl
            have r1 : wr.cell? ⟨w.heap.size + 1, 1, none⟩ = some (.slice none 0 0) := by rw [cell_of_row _ _ _ _ _ _ hresW]; rfl
            have r2 : wr.cell? ⟨w.heap.size + 1, 2, none⟩ = some (.int .i64 0) := by rw [cell_of_row _ _ _ _ _ _ hresW]; rfl
            have r3 : wr.cell? ⟨w.heap.size + 1, 3, none⟩ = some (.slice none 0 0) := by rw [cell_of_row _ _ _ _ _ _ hresW]; rfl
            have r4 : wr.cell? ⟨w.heap.size + 1, 4, none⟩ = some (.int .i64 0) := by rw [cell_of_row _ _ _ _ _ _ hresW]; rfl
            have q0 : wr.frozen? ⟨w.heap.size + 1, 0, none⟩ = false := frozen_of_row _ _ _ _ _ hresW
            have q1 : wr.frozen? ⟨w.heap.size + 1, 1, none⟩ = false := frozen_of_row _ _ _ _ _ hresW
            have q2 : wr.frozen? ⟨w.heap.size + 1, 2, none⟩ = false := frozen_of_row _ _ _ _ _ hresW
            have q3 : wr.frozen? ⟨w.heap.size + 1, 3, none⟩ = false := frozen_of_row _ _ _ _ _ hresW
            have q4 : wr.frozen? ⟨w.heap.size + 1, 4, none⟩ = false := frozen_of_row _ _ _ _ _ hresW
            clear bx5
            have HF := hid (make_ends r sym c i o wr gx w.heap.size _ _ HCE.out HNE.out HO.out HM2.out (by have := HGX.out; omega))
            have HLF := hid ((((((HLB2.out.setCell (p := ⟨w.heap.size + 1, 0, none⟩) (Nat.le_succ _) (.int .i64 (r.lhs % sym))).setCell (p := ⟨w.heap.size + 1, 1, none⟩) (Nat.le_succ _) (.slice ads2 c caps2)).setCell (p := ⟨w.heap.size + 1, 2, none⟩) (Nat.le_succ _) (.int .i64 (o : Int))).setCell (p := ⟨w.heap.size + 1, 3, none⟩) (Nat.le_succ _) (.slice adp i capp)).setCell (p := ⟨w.heap.size + 1, 4, none⟩) (Nat.le_succ _) (.int .i64 (r.cost % 101))))
            go_wp2
            refine bodyPost_ret (v := .agg #[.int .i64 (r.lhs % sym), .slice ads2 c caps2, .int .i64 (o : Int), .slice adp i capp, .int .i64 (r.cost % 101)]) ?_ rfl ⟨_, _, congrArg _ HF.out.1, HF.out.2.1, HF.out.2.2, HLF.out⟩
            exact results_cell_row rfl _ _ (w.heap.size + 1) 120 _ (0, 0) _ rfl (set5_heap hresW _ _ _ _ _) Tryz.underlying120 rfl (by kernel_rfl)

end Go.Proofs.YtannndpamhgknaaGreatDoor.Gr
