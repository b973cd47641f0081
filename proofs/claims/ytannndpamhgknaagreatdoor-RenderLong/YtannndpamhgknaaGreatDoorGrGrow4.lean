/- Rows of rules that the call itself makes: a whole row appended to another, in a region that draws its order. -/
import Derived.Test.YtannndpamhgknaaGreatDoorGrGrow3
namespace Go.Proofs.YtannndpamhgknaaGreatDoor.Gr
open Go.RowKit

theorem run_append_rules (w0 w : World) (hbw : Below w0.heap.size w0 w) (ty : TypeId)
    (B : Nat) (v : Value) (rs : List Rule) (h : RulesNew w B v rs) (hv : ∀ g, v.ownBlock = some g → w0.heap.size ≤ g)
    (xv : Value) (qs : List Rule) (hq : RulesAt w0 xv qs) (hnil : ∀ n c, xv = .slice none n c → c = 0) (hl : rs.length + qs.length ≤ 1000000) (hB : B ≤ w.heap.size) :
    ∃ v' w', (Builtin.append_ #[30, 30] ty #[v, xv]).run Tryz.prog w = .ok v' w' ∧ RulesNew w' B v' (rs ++ qs) ∧ w.grownBy w' v.ownBlock ∧ (v'.ownBlock = v.ownBlock ∨ v'.ownBlock = some w.heap.size) := by
  obtain ⟨i0, hi, hz0, hz1, hz2⟩ := info_parts info_rule
  have hshape := h
  obtain ⟨cs, ho1, hrs⟩ := h
  have hcl := ho1.1
  obtain ⟨ad, cap, rfl, hql, hqc⟩ := hq
  cases ad with
  | none =>
    have hc := hnil _ _ rfl
    subst hc
    have hqs : qs = [] := by
      cases qs with
      | nil => rfl
      | cons q qs => obtain ⟨g, o, e, _⟩ := hqc 0 (by simp); cases e
    subst hqs
    exact ⟨v, w, run_append_owned_none (P := Tryz.prog) w B 30 ty 120 i0 5 Tryz.underlying30 hi v rs.length cs ho1, by simpa using hshape, World.grownBy.refl _ _, .inl rfl⟩
  | some adr =>
    have each : ∀ j, j < qs.length → ∃ sp : Value × Value, w.cell? (adr.add (j * 5)) = some (.int .i64 (qs.getD j nilRule).lhs) ∧ w.cell? (adr.add (j * 5 + 1)) = some sp.1 ∧ w.cell? (adr.add (j * 5 + 2)) = some (.int .i64 (qs.getD j nilRule).op) ∧ w.cell? (adr.add (j * 5 + 3)) = some sp.2 ∧ w.cell? (adr.add (j * 5 + 4)) = some (.int .i64 (qs.getD j nilRule).cost) ∧ Row w0 sp.1 (qs.getD j nilRule).rhs ∧ Row w0 sp.2 (qs.getD j nilRule).p := by
      intro j hj
      obtain ⟨g, o', e, sv, pv, a0, a1, a2, a3, a4, h5, h6⟩ := hqc j hj
      obtain rfl := Option.some.inj e
      refine ⟨(sv, pv), ?_, ?_, ?_, ?_, ?_, h5, h6⟩
      · rw [Addr.add_lit]; exact (hbw.cell (lt_of_cell a0)).trans a0
      · rw [Addr.add_lit, ← Nat.add_assoc]; exact (hbw.cell (lt_of_cell a1)).trans a1
      · rw [Addr.add_lit, ← Nat.add_assoc]; exact (hbw.cell (lt_of_cell a2)).trans a2
      · rw [Addr.add_lit, ← Nat.add_assoc]; exact (hbw.cell (lt_of_cell a3)).trans a3
      · rw [Addr.add_lit, ← Nat.add_assoc]; exact (hbw.cell (lt_of_cell a4)).trans a4
    obtain ⟨svs, hsl, hsv⟩ := list_choose each
    have hcc := cellsOfR_at svs qs hsl
    have hone : ∀ u ∈ cellsOfR svs qs, u.oneCell' = true := by
      intro u hu
      obtain ⟨i, hi⟩ := List.getElem?_of_mem hu
      have hil := (List.getElem?_eq_some_iff.1 hi).1
      rw [hcc.1] at hil
      obtain ⟨r, sp, e1, e2, e3⟩ := hcc.2 (i / 5) (i % 5) (by omega) (by omega)
      rw [show i / 5 * 5 + i % 5 = i by omega, hi] at e3
      obtain ⟨_, _, _, _, _, h5, h6⟩ := hsv _ _ e2
      have hm : i % 5 < 5 := Nat.mod_lt _ (by decide)
      obtain ⟨ad1, cap1, es, _⟩ := h5
      obtain ⟨ad2, cap2, ep, _⟩ := h6
      rcases (show i % 5 = 0 ∨ i % 5 = 1 ∨ i % 5 = 2 ∨ i % 5 = 3 ∨ i % 5 = 4 by omega) with e | e | e | e | e <;> rw [e] at e3 <;> simp only [List.getElem?_cons_zero, List.getElem?_cons_succ, Option.some.injEq] at e3 <;> rw [e3]
      · rfl
      · rw [es]; rfl
      · rfl
      · rw [ep]; rfl
      · rfl
    have hnews : ∀ j u, (cellsOfR svs qs)[j]? = some u → w.cell? (adr.add j) = some u := by
      intro i u hi
      have hil := (List.getElem?_eq_some_iff.1 hi).1
      rw [hcc.1] at hil
      obtain ⟨r, sp, e1, e2, e3⟩ := hcc.2 (i / 5) (i % 5) (by omega) (by omega)
      rw [show i / 5 * 5 + i % 5 = i by omega, hi] at e3
      obtain ⟨b0, b1, b2, b3, b4, _, _⟩ := hsv _ _ e2
      have er : qs.getD (i / 5) nilRule = r := by rw [List.getD_eq_getElem?_getD, e1]; rfl
      rw [er] at b0 b2 b4
      rcases (show i % 5 = 0 ∨ i % 5 = 1 ∨ i % 5 = 2 ∨ i % 5 = 3 ∨ i % 5 = 4 by omega) with e | e | e | e | e <;> rw [e] at e3 <;> simp only [List.getElem?_cons_zero, List.getElem?_cons_succ, Option.some.injEq] at e3 <;> rw [e3]
      · exact (congrArg (fun z => w.cell? (adr.add z)) (show i = i / 5 * 5 by omega)).trans b0
      · exact (congrArg (fun z => w.cell? (adr.add z)) (show i = i / 5 * 5 + 1 by omega)).trans b1
      · exact (congrArg (fun z => w.cell? (adr.add z)) (show i = i / 5 * 5 + 2 by omega)).trans b2
      · exact (congrArg (fun z => w.cell? (adr.add z)) (show i = i / 5 * 5 + 3 by omega)).trans b3
      · exact (congrArg (fun z => w.cell? (adr.add z)) (show i = i / 5 * 5 + 4 by omega)).trans b4
    obtain ⟨v', w', hr, h2, h3, _, h5⟩ := run_append_own_at (P := Tryz.prog) w B 30 ty 120 i0 _ 5 72 Tryz.underlying30 hi hz0 hz1 hz2 rfl (by decide) v rs.length cs ho1 adr qs.length cap (cellsOfR svs qs) hcc.1 hnews hone (by unfold maxLen; omega) (by omega) hB
    refine ⟨v', w', hr, ⟨cs ++ cellsOfR svs qs, by rw [List.length_append]; exact h2, fun j q hq => ?_⟩, h3, h5⟩
    have hoff : ∀ (u : Value) (xs : List Int), Row w u xs → Off u xs v → Row w' u xs ∧ Off u xs v' := by
      intro u xs hu hof
      refine ⟨row_kept hu h3 hof, ?_⟩
      rcases row_block hu with e | ⟨gb, e1, e2⟩
      · exact .inl e
      · rcases hof with e | e
        · exact .inl e
        · right
          rcases h5 with e3 | e3
          · rw [e3]; exact e
          · rw [e1, e3]
            simp only [ne_eq, Option.some.injEq]
            omega
    by_cases hj : j < rs.length
    · rw [List.getElem?_append_left hj] at hq
      obtain ⟨u, p, a0, a1, a2, a3, a4, h5, h6, h7, h8⟩ := hrs j q hq
      have k1 := hoff u _ h5 h7
      have k2 := hoff p _ h6 h8
      exact ⟨u, p, by rw [List.getElem?_append_left (by omega)]; exact a0, by rw [List.getElem?_append_left (by omega)]; exact a1, by rw [List.getElem?_append_left (by omega)]; exact a2, by rw [List.getElem?_append_left (by omega)]; exact a3, by rw [List.getElem?_append_left (by omega)]; exact a4, k1.1, k2.1, k1.2, k2.2⟩
    · rw [List.getElem?_append_right (by omega)] at hq
      have hjq := (List.getElem?_eq_some_iff.1 hq).1
      obtain ⟨r, sp, e1, e2, e3⟩ := hcc.2 (j - rs.length) 0 hjq (by decide)
      obtain rfl := Option.some.inj (e1.symm.trans hq)
      obtain ⟨_, _, _, _, _, h5, h6⟩ := hsv _ _ e2
      have er : qs.getD (j - rs.length) nilRule = r := by rw [List.getD_eq_getElem?_getD, e1]; rfl
      rw [er] at h5 h6
      have hof : ∀ (u : Value) (xs : List Int), Row w0 u xs → Off u xs v := by
        intro u xs hu
        rcases row_block hu with e | ⟨gb, e1, e2⟩
        · exact .inl e
        · right
          intro e
          have := hv gb (by rw [← e]; exact e1)
          omega
      have k1 := hoff sp.1 _ (h5.on hbw) (hof _ _ h5)
      have k2 := hoff sp.2 _ (h6.on hbw) (hof _ _ h6)
      have hx : ∀ k, k < 5 → (cs ++ cellsOfR svs qs)[j * 5 + k]? = [Value.int .i64 r.lhs, sp.1, .int .i64 r.op, sp.2, .int .i64 r.cost][k]? := by
        intro k hk
        obtain ⟨r', sp', f1, f2, f3⟩ := hcc.2 (j - rs.length) k hjq hk
        obtain rfl := Option.some.inj (f1.symm.trans e1)
        obtain rfl := Option.some.inj (f2.symm.trans e2)
        have e : j * 5 + k - cs.length = (j - rs.length) * 5 + k := by omega
        rw [List.getElem?_append_right (by omega), e, f3]
      exact ⟨sp.1, sp.2, hx 0 (by decide), hx 1 (by decide), hx 2 (by decide), hx 3 (by decide), hx 4 (by decide), k1.1, k2.1, k1.2, k2.2⟩

theorem step_append_rules (w0 w : World) (hbw : Below w0.heap.size w0 w) {ops : Array Oper} {o : Oper} {a : Act} {K : Act → World → Prop} {Q : Exit → Act → World → Prop} {E : Prop} (hgd : o.guard = none) (s x : Operand)
    (ho : o.op = .call { callee := .builtin .append, args := #[s, x], argTypes := #[30, 30] })
    (B : Nat) (v : Value) (rs : List Rule) (hs : a.eval s = v) (h : RulesNew w B v rs) (hv : ∀ g, v.ownBlock = some g → w0.heap.size ≤ g)
    (xv : Value) (qs : List Rule) (hx : a.eval x = xv) (hq : RulesAt w0 xv qs) (hnil : ∀ n c, xv = .slice none n c → c = 0) (hl : rs.length + qs.length ≤ 1000000) (hB : B ≤ w.heap.size)
    (hK : ∀ v' w', RulesNew w' B v' (rs ++ qs) → w.grownBy w' v.ownBlock → (v'.ownBlock = v.ownBlock ∨ v'.ownBlock = some w.heap.size) → K (a.put o.dst v') w') :
    if Region.wanted o (yielded ops a.tmps) = true then Oper.wp Tryz.prog o a w K Q else E := by
  have hw : Region.wanted o (yielded ops a.tmps) = true := by simp [Region.wanted, hgd]
  rw [if_pos hw]
  obtain ⟨v', w', hr, h2, h3, h4⟩ := run_append_rules w0 w hbw o.type B v rs h hv xv qs hq hnil hl hB
  unfold Oper.wp execOp
  simp only [ho, resolve, invoke, builtin, Sem.run_bind, Sem.run_pure, Result.andThen_ok, List.map_toArray, List.map_cons, List.map_nil, hs, hx, hr]
  exact hK v' w' h2 h3 h4

theorem off_later {w : World} {sv : Value} {xs : List Int} (h : Row w sv xs) {g : Nat} (hg : w.heap.size ≤ g) (o n c : Nat) : Off sv xs (.slice (some ⟨g, o, none⟩) n c) := by
  rcases row_block h with e | ⟨gb, e1, e2⟩
  · exact .inl e
  · right
    rw [e1]
    simp only [Value.ownBlock, ne_eq, Option.some.injEq]
    omega
theorem off_step {w : World} {sv v v1 : Value} {xs : List Int} (h : Row w sv xs) (ho : Off sv xs v) (hloc : v1.ownBlock = v.ownBlock ∨ v1.ownBlock = some w.heap.size) : Off sv xs v1 := by
  rcases row_block h with e | ⟨gb, e1, e2⟩
  · exact .inl e
  · rcases ho with e | e
    · exact .inl e
    · right
      rcases hloc with e3 | e3
      · rw [e3]; exact e
      · rw [e1, e3]
        simp only [ne_eq, Option.some.injEq]
        omega
theorem box_kept {w w' : World} {g g' : Nat} {v0 v1 v2 v3 v4 : Value} (h : Box w g v0 v1 v2 v3 v4) (hg : w.grownBy w' (some g')) (hne : g ≠ g') : Box w' g v0 v1 v2 v3 v4 := by
  have hn : some g ≠ some g' := by simpa using hne
  exact ⟨hg.cell h.1 hn, hg.cell h.2.1 hn, hg.cell h.2.2.1 hn, hg.cell h.2.2.2.1 hn, hg.cell h.2.2.2.2 hn⟩

end Go.Proofs.YtannndpamhgknaaGreatDoor.Gr
