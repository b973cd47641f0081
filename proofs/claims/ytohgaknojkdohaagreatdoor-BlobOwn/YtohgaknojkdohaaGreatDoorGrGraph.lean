/- Graphs of symbols, as package gram holds them: how they are drawn from rules, and what they hold. -/
import Derived.Test.YtohgaknojkdohaaGreatDoorGrSets
namespace Go.Proofs.YtohgaknojkdohaaGreatDoor.Gr
open Go.RowKit Go.Maps

/-- How a graph's element reads: the block of its set. -/
def mapElem : Value → Option (DataW Unit × List MemPlace)
  | .map none => some (.nil, [])
  | .map (some c) => some (.lit (.int .i64 (c : Int)), [])
  | _ => none
theorem mapElem_none {v : Value} {ps : List MemPlace} (h : mapElem v = some (.nil, ps)) : v = .map none := by
  unfold mapElem at h
  split at h
  · rfl
  · simp at h
  · cases h
theorem mapElem_some {v : Value} {ps : List MemPlace} {c : Nat} (h : mapElem v = some (.lit (.int .i64 (c : Int)), ps)) : v = .map (some c) := by
  unfold mapElem at h
  split at h
  · simp at h
  · simp at h
    obtain ⟨h, _⟩ := h
    rw [show (_ : Nat) = c from Int.ofNat.inj h]
  · cases h

/-- Block g of w is a graph: G tells of each symbol the block of its set, E which symbols that set holds; all of it lies from block B on. -/
structure GraphAt (w : World) (B g : Nat) (G : Nat → Option Nat) (E : Nat → Nat → Bool) : Prop where
  base : B ≤ g
  owns : ∃ D : DataW Unit, w.ownsMap Tryz.prog 3 mapElem g 20 D ∧ KeysIn D (fun k => (G k).isSome) ∧ ∀ k c, k < 20 → G k = some c → D.atKey (.int .i64 (k : Int)) .nil = .lit (.int .i64 (c : Int))
  sets : ∀ k c, k < 20 → G k = some c → B ≤ c ∧ c ≠ g ∧ SetAt w c (E k)
  apart : ∀ k k' c, k < 20 → k' < 20 → G k = some c → G k' = some c → k = k'
  empty : ∀ k, k < 20 → G k = none → ∀ j, j < 20 → E k j = false

section
variable {w : World} {B g : Nat} {G : Nat → Option Nat} {E : Nat → Nat → Bool}

theorem GraphAt.lt (h : GraphAt w B g G E) : g < w.heap.size := by
  obtain ⟨D, h1, _⟩ := h.owns
  exact h1.lt
theorem GraphAt.on {w' : World} (h : GraphAt w B g G E) (hb : Below w.heap.size w w') : GraphAt w' B g G E := by
  refine ⟨h.base, ?_, ?_, h.apart, h.empty⟩
  · obtain ⟨D, h1, h2⟩ := h.owns
    exact ⟨D, owns_on h1 (hb.block _ h1.lt), h2⟩
  · intro k c hk hc
    obtain ⟨h1, h2, h3⟩ := h.sets k c hk hc
    exact ⟨h1, h2, h3.on hb⟩
theorem graphAt_made (w : World) : GraphAt (w.alloc (.map #[] 0)) w.heap.size w.heap.size (fun _ => none) (fun _ _ => false) :=
  ⟨Nat.le_refl _, ⟨.map [], (World.ownsMap_made w _ _ _).mono (by omega), keysIn_empty, fun _ _ _ h => by cases h⟩, fun _ _ _ h => by (cases h), fun _ _ _ _ _ h => by (cases h), fun _ _ _ _ _ => rfl⟩
theorem GraphAt.congr {E' : Nat → Nat → Bool} (h : GraphAt w B g G E) (e : ∀ i j, i < 20 → j < 20 → E i j = E' i j) : GraphAt w B g G E' :=
  ⟨h.base, h.owns, fun k c hk hc => ⟨(h.sets k c hk hc).1, (h.sets k c hk hc).2.1, (h.sets k c hk hc).2.2.congr (fun j hj => e k j hk hj)⟩, h.apart, fun k hk hc j hj => (e k j hk hj).symm.trans (h.empty k hk hc j hj)⟩
theorem GraphAt.look (h : GraphAt w B g G E) {k : Nat} (hk : k < 20) : (Instr.lookup 155 (.map (some g)) (.int .i64 (k : Int)) false).run Tryz.prog w = .ok (.map (G k)) w := by
  obtain ⟨D, h1, h2, h3⟩ := h.owns
  obtain ⟨v, ps, hrun, hv⟩ := h1.lookup keyed Tryz.underlying155 (Tryz.zeroValue179 _) (show mapElem (.map none) = some (.nil, []) from rfl) (key_sym hk)
  rw [hrun]
  cases hG : G k with
  | none =>
    rw [atKey_of_not_has (by rw [h2.1 k hk]; simp [hG])] at hv
    rw [mapElem_none hv]
  | some c =>
    rw [h3 k c hk hG] at hv
    rw [mapElem_some hv]
/-- A set is laid at a symbol that had none. -/
theorem GraphAt.lay {c : Nat} (h : GraphAt w B g G E) {k : Nat} (hk : k < 20) (hG : G k = none) (hs : SetAt w c (fun _ => false)) (hB : B ≤ c) (hcg : c ≠ g) (hnew : ∀ i, i < 20 → G i ≠ some c) :
    ∃ w', (Instr.mapUpdate 155 (.map (some g)) (.int .i64 (k : Int)) (.map (some c))).run Tryz.prog w = .ok () w' ∧ GraphAt w' B g (fun i => if i = k then some c else G i) E ∧ w.grownBy w' (some g) := by
  obtain ⟨D, h1, h2, h3⟩ := h.owns
  obtain ⟨w', hrun, ho, hg⟩ := h1.update keyed Tryz.underlying155 (by unfold maxLen; omega) (key_sym hk) (show mapElem (.map (some c)) = some (.lit (.int .i64 (c : Int)), []) from rfl)
  have hk2 : KeysIn (D.put (.int .i64 (k : Int)) (.lit (.int .i64 (c : Int)))) (fun i => (if i = k then some c else G i).isSome) := by
    have := h2.put h1.isMap hk (.lit (.int .i64 (c : Int)))
    refine ⟨fun i hi => ?_, this.2⟩
    rw [this.1 i hi]
    by_cases e : i = k
    · simp [e]
    · simp [e]
  refine ⟨w', hrun, ⟨h.base, ⟨_, (tight ho).mono (by rw [size_keys ho hk2]; exact symL_length _), hk2, ?_⟩, ?_, ?_, ?_⟩, hg⟩
  · intro i c' hi hc
    by_cases e : i = k
    · subst e
      simp only [if_true, Option.some.injEq] at hc
      subst hc
      exact atKey_put_same h1.isMap (isKey_sym _) _ _
    · rw [if_neg e] at hc
      rw [atKey_put_other (by intro e2; simp at e2; omega)]
      exact h3 i c' hi hc
  · intro i c' hi hc
    by_cases e : i = k
    · subst e
      simp only [if_true, Option.some.injEq] at hc
      subst hc
      exact ⟨hB, hcg, (hs.kept hg (by simpa using hcg)).congr (fun j hj => (h.empty i hi hG j hj).symm)⟩
    · rw [if_neg e] at hc
      obtain ⟨a1, a2, a3⟩ := h.sets i c' hi hc
      exact ⟨a1, a2, a3.kept hg (by simpa using a2)⟩
  · intro i i' c' hi hi' hc hc'
    by_cases e : i = k
    · by_cases e' : i' = k
      · omega
      · rw [if_pos e, Option.some.injEq] at hc
        rw [if_neg e', ← hc] at hc'
        exact absurd hc' (hnew i' hi')
    · rw [if_neg e] at hc
      by_cases e' : i' = k
      · rw [if_pos e', Option.some.injEq] at hc'
        rw [← hc'] at hc
        exact absurd hc (hnew i hi)
      · rw [if_neg e'] at hc'
        exact h.apart i i' c' hi hi' hc hc'
  · intro i hi hc j hj
    by_cases e : i = k
    · rw [if_pos e] at hc; cases hc
    · rw [if_neg e] at hc
      exact h.empty i hi hc j hj
/-- A symbol is added to the set of another. -/
theorem GraphAt.grow {w' : World} (h : GraphAt w B g G E) {k c : Nat} (hk : k < 20) (hG : G k = some c) {s : Nat → Bool} (hs : SetAt w' c s) (hg : w.grownBy w' (some c)) :
    GraphAt w' B g G (fun i j => if i = k then s j else E i j) := by
  have hc := h.sets k c hk hG
  refine ⟨h.base, ?_, ?_, h.apart, ?_⟩
  · obtain ⟨D, h1, h2⟩ := h.owns
    exact ⟨D, owns_on h1 (hg.block _ h1.lt (by simpa using Ne.symm hc.2.1)), h2⟩
  · intro i c' hi hi'
    obtain ⟨a1, a2, a3⟩ := h.sets i c' hi hi'
    by_cases e : i = k
    · subst e
      obtain rfl : c = c' := Option.some.inj (hG.symm.trans hi')
      exact ⟨a1, a2, hs.congr (fun j _ => by simp)⟩
    · refine ⟨a1, a2, (a3.kept hg ?_).congr (fun j _ => by simp [e])⟩
      intro e2
      simp only [Option.some.injEq] at e2
      subst e2
      exact e (h.apart i k c' hi hk hi' hG)
  · intro i hi hi' j hj
    by_cases e : i = k
    · subst e; rw [hG] at hi'; cases hi'
    · simp only [if_neg e]; exact h.empty i hi hi' j hj
end

theorem contains_snoc (l : List Int) (m q : Nat) : (l ++ [(m : Int)]).contains (q : Int) = (l.contains (q : Int) || decide (q = m)) := by
  have e : ((q : Int) = (m : Int)) = (q = m) := propext (by omega)
  rw [Bool.eq_iff_iff]; simp [e]
theorem eqlSome (c : Nat) (w : World) : (binOp .eql 179 (.map (some c)) (.map none)).run Tryz.prog w = .ok (.bool false) w := by kernel_rfl
theorem eqlNil (w : World) : (binOp .eql 179 (.map none) (.map none)).run Tryz.prog w = .ok (.bool true) w := by kernel_rfl

theorem link_any (w0 w : World) (g : Nat) (G : Nat → Option Nat) (E : Nat → Nat → Bool) (from' : Nat) (rhs : List Int) (sv : Value) (hb : Below w0.heap.size w0 w) (hrow : Row w0 sv rhs) (h : GraphAt w w0.heap.size g G E) (hk : from' < 20) :
    Calls Tryz.prog 143 #[.map (some g), .int .i64 (from' : Int), sv] w fun e w' => e = .returned (.tuple #[]) ∧ ∃ G', GraphAt w' w0.heap.size g G' (fun x y => E x y || (decide (x = from') && rhs.contains (y : Int))) ∧ Below w0.heap.size w0 w' := by
  obtain ⟨ad, cap, rfl, hmx, hc⟩ := hrow
  have HC := hid hc
  have HP := hid (fun n w => isSymbol_any n w)
  unfold maxLen at hmx
  clear hc
  generalize hlen : rhs.length = n at *
  have HL := hid hlen
  clear hlen
  have hlk0 := h.look hk
  have q1 := eqlSome
  have q2 := eqlNil
  cases hG : G from' with
  | none =>
    rw [hG] at hlk0
    have h2 : GraphAt (w.alloc (.map #[] 0)) w0.heap.size g G E := h.on (up_alloc _ _)
    obtain ⟨w1, hrun, hgr, hgb⟩ := h2.lay (c := w.heap.size) hk hG (setAt_made w) hb.size (by have := h.lt; omega) (fun i hi e => by have := (h.sets i _ hi e).2.2.lt; omega)
    have hmm := @run_makeMap Tryz.prog
    obtain ⟨G1, hG1⟩ : ∃ G1, G1 = fun i => if i = from' then some w.heap.size else G i := ⟨_, rfl⟩
    rw [← hG1] at hgr
    have H1 := hid hgr
    have HB1 := hid (((hb.alloc hb.size _).grown hgb (by simp; have := hb.size; omega) (fun x e => by cases e; exact h.base)))
    obtain ⟨c, hcc⟩ : ∃ c, c = w.heap.size := ⟨_, rfl⟩
    have HG1 : Hid (G1 from' = some c) := hid (by rw [hG1, hcc]; simp)
    clear hgr hgb hG1 hcc h2 hb hG
    go_enter Tryz.func143, Tryz.ntmps143
    go_wp2
    go_loopw [17] (fun v wr => ∃ j : Nat, j ≤ n ∧ v = .int .i64 j ∧ GraphAt wr w0.heap.size g G1 (fun x y => E x y || (decide (x = from') && (rhs.take j).contains (y : Int))) ∧ Below w0.heap.size w0 wr) (fun v _ => n - (intOf v).toNat)
    case atStart => exact ⟨0, by omega, rfl, H1.out.congr (fun x y _ _ => by simp), HB1.out⟩
    case round =>
      obtain ⟨j, hj, rfl, hgr, hb⟩ := hrel
      by_cases hlt : j < n
      · obtain ⟨a, rfl, hcj⟩ := HC.out j hlt
        have hcj2 := (hb.cell (lt_of_cell hcj)).trans hcj
        have HX : Hid (rhs[j]? = some (rhs.getD j 0)) := hid (getD_at (by rw [HL.out]; exact hlt))
        generalize rhs.getD j 0 = y at *
        have HB := hid hb
        have HGR := hid hgr
        clear hb hcj hgr
        have hlt2 : (j : Int) < (n : Int) := by omega
        cases hp : isSym y with
        | false =>
          have HY := hid (HP.out y)
          rw [hp] at HY
          have HN : Hid (¬ (0 ≤ y ∧ y ≤ 19)) := hid (fun h => by rw [show isSym y = true from inB_true h] at hp; cases hp)
          clear hp
          go_wp2_with fail
          refine (HY.out _).mono ?_
          rintro e w1 ⟨rfl, rfl⟩
          go_wp2
          go_roundw
          case rel =>
            refine ⟨j + 1, by omega, by simp, HGR.out.congr (fun p q hp hq => ?_), HB.out⟩
            rw [List.take_add_one, HX.out]
            have : ¬ ((q : Int) = y) := by have := HN.out; omega
            simp [this]
          case measure => simp [intOf]; omega
        | true =>
          have HY := hid (HP.out y)
          rw [hp] at HY
          have hy := inB_iff.1 hp
          obtain ⟨m, rfl⟩ : ∃ m : Nat, y = (m : Int) := ⟨y.toNat, by omega⟩
          have hm : m < 20 := by omega
          have hlk := HGR.out.look hk
          rw [HG1.out] at hlk
          have HS := hid (HGR.out.sets from' c hk HG1.out)
          have HAD := hid (add_any c _ m hm wr HS.out.2.2)
          clear hp hy
          go_wp2_with fail
          refine (HY.out _).mono ?_
          rintro e w1 ⟨rfl, rfl⟩
          go_wp2_with fail
          refine HAD.out.mono ?_
          rintro e w2 ⟨rfl, hs2, hg2⟩
          have HS2 := hid hs2
          have HG2 := hid hg2
          clear hs2 hg2
          go_wp2
          go_roundw
          case rel =>
            refine ⟨j + 1, by omega, by simp, (HGR.out.grow hk HG1.out HS2.out HG2.out).congr (fun p q hp hq => ?_), HB.out.grown HG2.out HB.out.size (fun x e => by cases e; exact HS.out.1)⟩
            rw [List.take_add_one, HX.out, Option.toList_some, contains_snoc]
            by_cases e : p = from'
            · subst e; simp [Bool.or_assoc]
            · simp [e]
          case measure => simp [intOf]; omega
      · obtain rfl : j = n := by omega
        have HB := hid hb
        have HGR := hid hgr
        clear hb hgr
        go_wp2
        go_end0
        refine ⟨rfl, _, HGR.out.congr (fun p q _ _ => ?_), HB.out⟩
        rw [← HL.out, List.take_length]
  | some c =>
    rw [hG] at hlk0
    obtain ⟨G1, hG1⟩ : ∃ G1, G1 = G := ⟨_, rfl⟩
    have H1 : Hid (GraphAt w w0.heap.size g G1 E) := hid (by rw [hG1]; exact h)
    have HB1 := hid hb
    have HG1 : Hid (G1 from' = some c) := hid (by rw [hG1]; exact hG)
    clear hG1 hb hG h
    go_enter Tryz.func143, Tryz.ntmps143
    go_wp2
    go_loopw [17] (fun v wr => ∃ j : Nat, j ≤ n ∧ v = .int .i64 j ∧ GraphAt wr w0.heap.size g G1 (fun x y => E x y || (decide (x = from') && (rhs.take j).contains (y : Int))) ∧ Below w0.heap.size w0 wr) (fun v _ => n - (intOf v).toNat)
    case atStart => exact ⟨0, by omega, rfl, H1.out.congr (fun x y _ _ => by simp), HB1.out⟩
    case round =>
      obtain ⟨j, hj, rfl, hgr, hb⟩ := hrel
      by_cases hlt : j < n
      · obtain ⟨a, rfl, hcj⟩ := HC.out j hlt
        have hcj2 := (hb.cell (lt_of_cell hcj)).trans hcj
        have HX : Hid (rhs[j]? = some (rhs.getD j 0)) := hid (getD_at (by rw [HL.out]; exact hlt))
        generalize rhs.getD j 0 = y at *
        have HB := hid hb
        have HGR := hid hgr
        clear hb hcj hgr
        have hlt2 : (j : Int) < (n : Int) := by omega
        cases hp : isSym y with
        | false =>
          have HY := hid (HP.out y)
          rw [hp] at HY
          have HN : Hid (¬ (0 ≤ y ∧ y ≤ 19)) := hid (fun h => by rw [show isSym y = true from inB_true h] at hp; cases hp)
          clear hp
          go_wp2_with fail
          refine (HY.out _).mono ?_
          rintro e w1 ⟨rfl, rfl⟩
          go_wp2
          go_roundw
          case rel =>
            refine ⟨j + 1, by omega, by simp, HGR.out.congr (fun p q hp hq => ?_), HB.out⟩
            rw [List.take_add_one, HX.out]
            have : ¬ ((q : Int) = y) := by have := HN.out; omega
            simp [this]
          case measure => simp [intOf]; omega
        | true =>
          have HY := hid (HP.out y)
          rw [hp] at HY
          have hy := inB_iff.1 hp
          obtain ⟨m, rfl⟩ : ∃ m : Nat, y = (m : Int) := ⟨y.toNat, by omega⟩
          have hm : m < 20 := by omega
          have hlk := HGR.out.look hk
          rw [HG1.out] at hlk
          have HS := hid (HGR.out.sets from' c hk HG1.out)
          have HAD := hid (add_any c _ m hm wr HS.out.2.2)
          clear hp hy
          go_wp2_with fail
          refine (HY.out _).mono ?_
          rintro e w1 ⟨rfl, rfl⟩
          go_wp2_with fail
          refine HAD.out.mono ?_
          rintro e w2 ⟨rfl, hs2, hg2⟩
          have HS2 := hid hs2
          have HG2 := hid hg2
          clear hs2 hg2
          go_wp2
          go_roundw
          case rel =>
            refine ⟨j + 1, by omega, by simp, (HGR.out.grow hk HG1.out HS2.out HG2.out).congr (fun p q hp hq => ?_), HB.out.grown HG2.out HB.out.size (fun x e => by cases e; exact HS.out.1)⟩
            rw [List.take_add_one, HX.out, Option.toList_some, contains_snoc]
            by_cases e : p = from'
            · subst e; simp [Bool.or_assoc]
            · simp [e]
          case measure => simp [intOf]; omega
      · obtain rfl : j = n := by omega
        have HB := hid hb
        have HGR := hid hgr
        clear hb hgr
        go_wp2
        go_end0
        refine ⟨rfl, _, HGR.out.congr (fun p q _ _ => ?_), HB.out⟩
        rw [← HL.out, List.take_length]

theorem edge_snoc (L : Nat) (rs : List Rule) (j : Nat) (r : Rule) (h : rs[j]? = some r) (x y : Nat) : edge L (rs.take (j + 1)) x y = (edge L (rs.take j) x y || (decide (r.lhs = x) && decide (r.rhs.length ≤ L) && r.rhs.contains (y : Int))) := by
  rw [List.take_add_one, h, edge_append]
  simp [edge]

theorem draw_any (rs : List Rule) (v : Value) (L : Nat) (w : World) (h : RulesAt w v rs) (hr : rs.all right = true) : Calls Tryz.prog 116 #[v, .int .i64 (L : Int)] w fun e w' => ∃ g G, e = .returned (.map (some g)) ∧ GraphAt w' w.heap.size g G (edge L rs) ∧ Below w.heap.size w w' := by
  obtain ⟨ad, cap, rfl, hmx, hc⟩ := h
  have HC := hid hc
  have HR := hid hr
  clear hc hr
  generalize hlen : rs.length = n at *
  have HL := hid hlen
  clear hlen
  have hmm := @run_makeMap Tryz.prog
  go_enter Tryz.func116, Tryz.ntmps116
  go_wp2
  go_loopw [11] (fun v wr => ∃ j : Nat, j ≤ n ∧ v = .int .i64 j ∧ (∃ G, GraphAt wr w.heap.size w.heap.size G (edge L (rs.take j))) ∧ Below w.heap.size w wr) (fun v _ => n - (intOf v).toNat)
  case atStart => exact ⟨0, by omega, rfl, ⟨_, graphAt_made w⟩, up_alloc _ _⟩
  case round =>
    obtain ⟨j, hj, rfl, ⟨G, hgr⟩, hb⟩ := hrel
    by_cases hlt : j < n
    · obtain ⟨g, o, rfl, hcj⟩ := HC.out j hlt
      have HX : Hid (rs[j]? = some (rs.getD j nilRule)) := hid (rule_at (by rw [HL.out]; exact hlt))
      generalize rs.getD j nilRule = r at *
      have hR := List.all_eq_true.1 HR.out r (List.mem_of_getElem? HX.out)
      have hl := right_lhs hR
      obtain ⟨sv, pv, d0, d1, d2, d3, d4, k5, k6⟩ := hcj
      have c0 := (hb.cell (lt_of_cell d0)).trans d0
      have c1 := (hb.cell (lt_of_cell d1)).trans d1
      have c2 := (hb.cell (lt_of_cell d2)).trans d2
      have c3 := (hb.cell (lt_of_cell d3)).trans d3
      have c4 := (hb.cell (lt_of_cell d4)).trans d4
      clear d0 d1 d2 d3 d4
      obtain ⟨lhs, rhs, op, p, cost⟩ := r
      dsimp only at *
      obtain ⟨lh, rfl⟩ : ∃ m : Nat, lhs = (m : Int) := ⟨lhs.toNat, by omega⟩
      have hlh : lh < 20 := by omega
      have HK := hid (fun w1 h1 h2 => link_any w w1 w.heap.size G (edge L (rs.take j)) lh rhs sv h1 k5 h2 hlh)
      have HLEN : Hid (rhs.length ≤ 6) := hid (right_rhs hR).2
      obtain ⟨ads, caps, rfl, hms, _⟩ := k5
      obtain ⟨adp, capp, rfl, hmp, _⟩ := k6
      have HB := hid hb
      have HGR := hid hgr
      clear hb hgr hR hl
      have hlt2 : (j : Int) < (n : Int) := by omega
      by_cases hle : rhs.length ≤ L
      · have hle2 : (rhs.length : Int) ≤ (L : Int) := by omega
        go_wp2_with fail
        refine (HK.out _ (HB.out.alloc HB.out.size _) (HGR.out.on (up_alloc _ _))).mono ?_
        rintro e w1 ⟨rfl, G', hg2, hb2⟩
        have HG2 := hid hg2
        have HB2 := hid hb2
        clear hg2 hb2
        go_wp2
        go_roundw
        case rel =>
          refine ⟨j + 1, by omega, by simp, ⟨G', HG2.out.congr (fun x y _ _ => ?_)⟩, HB2.out⟩
          rw [edge_snoc L rs j _ HX.out x y]
          have e3 : decide (x = lh) = decide ((lh : Int) = (x : Int)) := decide_eq_decide.2 (by omega)
          rw [e3, decide_eq_true hle, Bool.and_true]
        case measure => simp [intOf]; omega
      · have hle2 : ¬ ((rhs.length : Int) ≤ (L : Int)) := by omega
        go_wp2
        go_roundw
        case rel =>
          refine ⟨j + 1, by omega, by simp, ⟨G, (HGR.out.on (up_alloc _ _)).congr (fun x y _ _ => ?_)⟩, HB.out.alloc HB.out.size _⟩
          rw [edge_snoc L rs j _ HX.out x y]
          simp [hle]
        case measure => simp [intOf]; omega
    · obtain rfl : j = n := by omega
      have HB := hid hb
      have HGR := hid hgr
      clear hb hgr
      go_wp2
      go_ret
      refine ⟨_, _, rfl, HGR.out.congr (fun x y _ _ => ?_), HB.out⟩
      rw [← HL.out, List.take_length]

theorem symbols_graph (B g : Nat) (G : Nat → Option Nat) (E : Nat → Nat → Bool) (w : World) (h : GraphAt w B g G E) : Calls Tryz.prog 118 #[.map (some g)] w fun e w' => ∃ v, e = .returned v ∧ RowNew w' w.heap.size v (symL (fun k => (G k).isSome)) ∧ Below w.heap.size w w' := by
  obtain ⟨D, h1, h2, _⟩ := h.owns
  have hsz := size_keys h1 h2
  have hl := symL_length (fun k => (G k).isSome)
  refine (symbols_keys g 20 D mapElem w h1 (by unfold maxLen; omega) (by omega)).mono ?_
  rintro e w' ⟨v, ss, rfl, hp, hrow, _, hb⟩
  have e1 : ss.mergeSort (fun x y => decide (x ≤ y)) = symL (fun k => (G k).isSome) := sorted_keys h1 h2 hp
  have e2 : ss.length = (symL (fun k => (G k).isSome)).length := by rw [← e1, List.length_mergeSort]
  rw [e1, e2] at hrow
  exact ⟨v, rfl, hrow, hb⟩

/-- What 'rising' answers of the set at a symbol, be it there or not. -/
theorem rising_at (B g : Nat) (G : Nat → Option Nat) (E : Nat → Nat → Bool) (w w1 : World) (h : GraphAt w B g G E) (hb : Below w.heap.size w w1) (k : Nat) (hk : k < 20) : Calls Tryz.prog 160 #[.map (G k)] w1 fun e w' => ∃ v, e = .returned v ∧ RowNew w' w1.heap.size v (symL (E k)) ∧ Below w1.heap.size w1 w' := by
  cases hG : G k with
  | none =>
    refine (rising_nil w1).mono ?_
    rintro e w' ⟨rfl, hb⟩
    refine ⟨_, rfl, ?_, hb⟩
    have : symL (E k) = [] := by rw [symL_congr (h.empty k hk hG)]; rfl
    rw [this]
    exact World.ownsRow_nil _ _ _ _
  | some c => exact rising_set c (E k) w1 ((h.sets k c hk hG).2.2.on hb)

end Go.Proofs.YtohgaknojkdohaaGreatDoor.Gr
