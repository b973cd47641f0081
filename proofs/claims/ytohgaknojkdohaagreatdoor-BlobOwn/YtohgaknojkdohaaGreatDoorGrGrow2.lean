/- Rows of rules that the call itself makes: a whole row appended to another. -/
import Derived.Test.YtohgaknojkdohaaGreatDoorGrGrow
import Derived.Maps.AppendAt
namespace Go.Proofs.YtohgaknojkdohaaGreatDoor.Gr
open Go.RowKit

theorem RulesNew.shape {w : World} {B : Nat} {v : Value} {rs : List Rule} (h : RulesNew w B v rs) : ∃ ad cap, v = .slice ad rs.length cap := by
  obtain ⟨cs, ⟨_, ⟨rfl, h0⟩ | ⟨g, cap, cur, rfl, _⟩⟩, _⟩ := h
  · exact ⟨none, 0, by rw [h0]⟩
  · exact ⟨_, _, rfl⟩
theorem RulesNew.none_cap {w : World} {B : Nat} {v : Value} {rs : List Rule} (h : RulesNew w B v rs) : ∀ n c, v = .slice none n c → c = 0 := by
  obtain ⟨cs, ⟨_, ⟨rfl, h0⟩ | ⟨g, cap, cur, rfl, _⟩⟩, _⟩ := h
  · intro n c e; simp at e; exact e.2.symm
  · intro n c e; simp at e
theorem rulesNew_made (w : World) (B : Nat) (hB : B ≤ w.heap.size) (g : Nat) (hg : g = w.heap.size) : RulesNew (w.alloc (.cells #[] 56)) B (.slice (some ⟨g, 0, none⟩) 0 0) [] := by
  subst hg
  exact ⟨[], ⟨rfl, .inr ⟨w.heap.size, 0, #[], rfl, hB, row_new w _, Nat.le_refl _, by unfold maxLen; omega, rfl, rfl⟩⟩, fun j r h => by simp at h⟩

/-- The cells of rules, one behind the other. -/
def cellsOfR (svs : List (Value × Value)) (qs : List Rule) : List Value := (qs.zip svs).flatMap fun x => [.int .i64 x.1.lhs, x.2.1, .int .i64 x.1.op, x.2.2, .int .i64 x.1.cost]
theorem cellsOfR_at : ∀ (svs : List (Value × Value)) (qs : List Rule), svs.length = qs.length → (cellsOfR svs qs).length = qs.length * 5 ∧ ∀ j k, j < qs.length → k < 5 → ∃ r s, qs[j]? = some r ∧ svs[j]? = some s ∧ (cellsOfR svs qs)[j * 5 + k]? = [Value.int .i64 r.lhs, s.1, .int .i64 r.op, s.2, .int .i64 r.cost][k]?
  | [], [], _ => ⟨rfl, fun j k h => by simp at h⟩
  | [], q :: qs, h => by simp at h
  | s :: svs, [], h => by simp at h
  | s :: svs, q :: qs, h => by
    have ih := cellsOfR_at svs qs (by simpa using h)
    have e : cellsOfR (s :: svs) (q :: qs) = [.int .i64 q.lhs, s.1, .int .i64 q.op, s.2, .int .i64 q.cost] ++ cellsOfR svs qs := rfl
    refine ⟨by rw [e, List.length_append, ih.1]; simp; omega, fun j k hj hk => ?_⟩
    rw [e]
    cases j with
    | zero =>
      refine ⟨q, s, rfl, rfl, ?_⟩
      rw [List.getElem?_append_left (by simp; omega), Nat.zero_mul, Nat.zero_add]
    | succ j =>
      obtain ⟨r, t, h1, h2, h3⟩ := ih.2 j k (by simpa using hj) hk
      refine ⟨r, t, by simpa using h1, by simpa using h2, ?_⟩
      rw [List.getElem?_append_right (by simp; omega), ← h3]
      congr 1
      simp
      omega

theorem list_choose {α : Type} {n : Nat} {p : Nat → α → Prop} (h : ∀ j, j < n → ∃ x, p j x) : ∃ l : List α, l.length = n ∧ ∀ j x, l[j]? = some x → p j x := by
  induction n with
  | zero => exact ⟨[], rfl, fun j x h => by simp at h⟩
  | succ n ih =>
    obtain ⟨l, hl, hp⟩ := ih (fun j hj => h j (by omega))
    obtain ⟨y, hy⟩ := h n (by omega)
    refine ⟨l ++ [y], by simp [hl], fun j x hx => ?_⟩
    by_cases hj : j < n
    · rw [List.getElem?_append_left (by omega)] at hx
      exact hp j x hx
    · rw [List.getElem?_append_right (by omega)] at hx
      have hj2 := (List.getElem?_eq_some_iff.1 hx).1
      simp at hj2
      obtain rfl : j = n := by omega
      simp [hl] at hx
      exact hx ▸ hy

theorem wpList_append_rules (w0 w : World) (hbw : Below w0.heap.size w0 w) {ops : Array Oper} {rest : List Oper} {o : Oper} {a : Act} {Q : Exit → Act → World → Prop} (hgd : o.guard = none) (s x : Operand)
    (ho : o.op = .call { callee := .builtin .append, args := #[s, x], argTypes := #[41, 41] })
    (B : Nat) (v : Value) (rs : List Rule) (hs : a.eval s = v) (h : RulesNew w B v rs) (hv : ∀ g, v.ownBlock = some g → w0.heap.size ≤ g)
    (xv : Value) (qs : List Rule) (hx : a.eval x = xv) (hq : RulesAt w0 xv qs) (hnil : ∀ n c, xv = .slice none n c → c = 0) (hl : rs.length + qs.length ≤ 1000000) (hB : B ≤ w.heap.size)
    (hK : ∀ v' w', RulesNew w' B v' (rs ++ qs) → w.grownBy w' v.ownBlock → (v'.ownBlock = v.ownBlock ∨ v'.ownBlock = some w.heap.size) → wpList Tryz.prog ops Q rest (a.put o.dst v') w') : wpList Tryz.prog ops Q (o :: rest) a w := by
  obtain ⟨i0, hi, hz0, hz1, hz2⟩ := info_parts info_rule
  have hshape := h
  obtain ⟨cs, ho1, hrs⟩ := h
  have hcl := ho1.1
  obtain ⟨ad, cap, rfl, hql, hqc⟩ := hq
  cases ad with
  | none =>
    have hc := hnil _ _ rfl
    subst hc
    have hqs : qs = [] := by
      cases qs with
      | nil => rfl
      | cons q qs => obtain ⟨g, o, e, _⟩ := hqc 0 (by simp); cases e
    subst hqs
    refine wpList_plain hgd fun K hK' => ?_
    have hrun := run_append_owned_none (P := Tryz.prog) w B 41 o.type 56 i0 5 Tryz.underlying41 hi v rs.length cs ho1
    unfold Oper.wp
    rw [List.length_nil] at hx
    simp [execOp, ho, resolve, invoke, builtin, hs, hx, hrun, Result.andThen]
    exact hK' _ _ (hK v w (by simpa using hshape) (World.grownBy.refl _ _) (.inl rfl))
  | some adr =>
    have each : ∀ j, j < qs.length → ∃ sp : Value × Value, w.cell? (adr.add (j * 5)) = some (.int .i64 (qs.getD j nilRule).lhs) ∧ w.cell? (adr.add (j * 5 + 1)) = some sp.1 ∧ w.cell? (adr.add (j * 5 + 2)) = some (.int .i64 (qs.getD j nilRule).op) ∧ w.cell? (adr.add (j * 5 + 3)) = some sp.2 ∧ w.cell? (adr.add (j * 5 + 4)) = some (.int .i64 (qs.getD j nilRule).cost) ∧ Row w0 sp.1 (qs.getD j nilRule).rhs ∧ Row w0 sp.2 (qs.getD j nilRule).p := by
      intro j hj
      obtain ⟨g, o', e, sv, pv, a0, a1, a2, a3, a4, h5, h6⟩ := hqc j hj
      obtain rfl := Option.some.inj e
      refine ⟨(sv, pv), ?_, ?_, ?_, ?_, ?_, h5, h6⟩
      · rw [Addr.add_lit]; exact (hbw.cell (lt_of_cell a0)).trans a0
      · rw [Addr.add_lit, ← Nat.add_assoc]; exact (hbw.cell (lt_of_cell a1)).trans a1
      · rw [Addr.add_lit, ← Nat.add_assoc]; exact (hbw.cell (lt_of_cell a2)).trans a2
      · rw [Addr.add_lit, ← Nat.add_assoc]; exact (hbw.cell (lt_of_cell a3)).trans a3
      · rw [Addr.add_lit, ← Nat.add_assoc]; exact (hbw.cell (lt_of_cell a4)).trans a4
    obtain ⟨svs, hsl, hsv⟩ := list_choose each
    have hcc := cellsOfR_at svs qs hsl
    have hone : ∀ u ∈ cellsOfR svs qs, u.oneCell' = true := by
      intro u hu
      obtain ⟨i, hi⟩ := List.getElem?_of_mem hu
      have hil := (List.getElem?_eq_some_iff.1 hi).1
      rw [hcc.1] at hil
      obtain ⟨r, sp, e1, e2, e3⟩ := hcc.2 (i / 5) (i % 5) (by omega) (by omega)
      rw [show i / 5 * 5 + i % 5 = i by omega, hi] at e3
      obtain ⟨_, _, _, _, _, h5, h6⟩ := hsv _ _ e2
      have hm : i % 5 < 5 := Nat.mod_lt _ (by decide)
      obtain ⟨ad1, cap1, es, _⟩ := h5
      obtain ⟨ad2, cap2, ep, _⟩ := h6
      rcases (show i % 5 = 0 ∨ i % 5 = 1 ∨ i % 5 = 2 ∨ i % 5 = 3 ∨ i % 5 = 4 by omega) with e | e | e | e | e <;> rw [e] at e3 <;> simp only [List.getElem?_cons_zero, List.getElem?_cons_succ, Option.some.injEq] at e3 <;> rw [e3]
      · rfl
      · rw [es]; rfl
      · rfl
      · rw [ep]; rfl
      · rfl
    have hnews : ∀ j u, (cellsOfR svs qs)[j]? = some u → w.cell? (adr.add j) = some u := by
      intro i u hi
      have hil := (List.getElem?_eq_some_iff.1 hi).1
      rw [hcc.1] at hil
      obtain ⟨r, sp, e1, e2, e3⟩ := hcc.2 (i / 5) (i % 5) (by omega) (by omega)
      rw [show i / 5 * 5 + i % 5 = i by omega, hi] at e3
      obtain ⟨b0, b1, b2, b3, b4, _, _⟩ := hsv _ _ e2
      have er : qs.getD (i / 5) nilRule = r := by rw [List.getD_eq_getElem?_getD, e1]; rfl
      rw [er] at b0 b2 b4
      rcases (show i % 5 = 0 ∨ i % 5 = 1 ∨ i % 5 = 2 ∨ i % 5 = 3 ∨ i % 5 = 4 by omega) with e | e | e | e | e <;> rw [e] at e3 <;> simp only [List.getElem?_cons_zero, List.getElem?_cons_succ, Option.some.injEq] at e3 <;> rw [e3]
      · exact (congrArg (fun z => w.cell? (adr.add z)) (show i = i / 5 * 5 by omega)).trans b0
      · exact (congrArg (fun z => w.cell? (adr.add z)) (show i = i / 5 * 5 + 1 by omega)).trans b1
      · exact (congrArg (fun z => w.cell? (adr.add z)) (show i = i / 5 * 5 + 2 by omega)).trans b2
      · exact (congrArg (fun z => w.cell? (adr.add z)) (show i = i / 5 * 5 + 3 by omega)).trans b3
      · exact (congrArg (fun z => w.cell? (adr.add z)) (show i = i / 5 * 5 + 4 by omega)).trans b4
    refine wpList_plain hgd fun _ hK' => ?_
    obtain ⟨v', w', hr, h2, h3, _, h5⟩ := run_append_own_at (P := Tryz.prog) w B 41 o.type 56 i0 _ 5 72 Tryz.underlying41 hi hz0 hz1 hz2 rfl (by decide) v rs.length cs ho1 adr qs.length cap (cellsOfR svs qs) hcc.1 hnews hone (by unfold maxLen; omega) (by omega) hB
    unfold Oper.wp execOp
    simp only [ho, resolve, invoke, builtin, Sem.run_bind, Sem.run_pure, Result.andThen_ok, List.map_toArray, List.map_cons, List.map_nil, hs, hx, hr]
    refine hK' _ _ (hK v' w' ⟨cs ++ cellsOfR svs qs, by rw [List.length_append]; exact h2, fun j q hq => ?_⟩ h3 h5)
    have hoff : ∀ (u : Value) (xs : List Int), Row w u xs → Off u xs v → Row w' u xs ∧ Off u xs v' := by
      intro u xs hu hof
      refine ⟨row_kept hu h3 hof, ?_⟩
      rcases row_block hu with e | ⟨gb, e1, e2⟩
      · exact .inl e
      · rcases hof with e | e
        · exact .inl e
        · right
          rcases h5 with e3 | e3
          · rw [e3]; exact e
          · rw [e1, e3]
            simp only [ne_eq, Option.some.injEq]
            omega
    by_cases hj : j < rs.length
    · rw [List.getElem?_append_left hj] at hq
      obtain ⟨u, p, a0, a1, a2, a3, a4, h5, h6, h7, h8⟩ := hrs j q hq
      have k1 := hoff u _ h5 h7
      have k2 := hoff p _ h6 h8
      exact ⟨u, p, by rw [List.getElem?_append_left (by omega)]; exact a0, by rw [List.getElem?_append_left (by omega)]; exact a1, by rw [List.getElem?_append_left (by omega)]; exact a2, by rw [List.getElem?_append_left (by omega)]; exact a3, by rw [List.getElem?_append_left (by omega)]; exact a4, k1.1, k2.1, k1.2, k2.2⟩
    · rw [List.getElem?_append_right (by omega)] at hq
      have hjq := (List.getElem?_eq_some_iff.1 hq).1
      obtain ⟨r, sp, e1, e2, e3⟩ := hcc.2 (j - rs.length) 0 hjq (by decide)
      obtain rfl := Option.some.inj (e1.symm.trans hq)
      obtain ⟨_, _, _, _, _, h5, h6⟩ := hsv _ _ e2
      have er : qs.getD (j - rs.length) nilRule = r := by rw [List.getD_eq_getElem?_getD, e1]; rfl
      rw [er] at h5 h6
      have hof : ∀ (u : Value) (xs : List Int), Row w0 u xs → Off u xs v := by
        intro u xs hu
        rcases row_block hu with e | ⟨gb, e1, e2⟩
        · exact .inl e
        · right
          intro e
          have := hv gb (by rw [← e]; exact e1)
          omega
      have k1 := hoff sp.1 _ (h5.on hbw) (hof _ _ h5)
      have k2 := hoff sp.2 _ (h6.on hbw) (hof _ _ h6)
      have hx : ∀ k, k < 5 → (cs ++ cellsOfR svs qs)[j * 5 + k]? = [Value.int .i64 r.lhs, sp.1, .int .i64 r.op, sp.2, .int .i64 r.cost][k]? := by
        intro k hk
        obtain ⟨r', sp', f1, f2, f3⟩ := hcc.2 (j - rs.length) k hjq hk
        obtain rfl := Option.some.inj (f1.symm.trans e1)
        obtain rfl := Option.some.inj (f2.symm.trans e2)
        have e : j * 5 + k - cs.length = (j - rs.length) * 5 + k := by omega
        rw [List.getElem?_append_right (by omega), e, f3]
      exact ⟨sp.1, sp.2, hx 0 (by decide), hx 1 (by decide), hx 2 (by decide), hx 3 (by decide), hx 4 (by decide), k1.1, k2.1, k1.2, k2.2⟩

theorem app_one {w : World} {B : Nat} {v : Value} {rs : List Rule} (h : RulesNew w B v rs) (lhs op x z : Int) :
    Row (((w.alloc (.cells #[.int .i64 x] 3)).alloc (.cells #[.int .i64 z] 3)).alloc (.cells #[.int .i64 lhs, .slice (some ⟨w.heap.size, 0, none⟩) 1 1, .int .i64 op, .slice (some ⟨w.heap.size + 1, 0, none⟩) 1 1, .int .i64 0] 56)) (.slice (some ⟨w.heap.size, 0, none⟩) 1 1) [x] ∧ Row (((w.alloc (.cells #[.int .i64 x] 3)).alloc (.cells #[.int .i64 z] 3)).alloc (.cells #[.int .i64 lhs, .slice (some ⟨w.heap.size, 0, none⟩) 1 1, .int .i64 op, .slice (some ⟨w.heap.size + 1, 0, none⟩) 1 1, .int .i64 0] 56)) (.slice (some ⟨w.heap.size + 1, 0, none⟩) 1 1) [z] ∧ Box (((w.alloc (.cells #[.int .i64 x] 3)).alloc (.cells #[.int .i64 z] 3)).alloc (.cells #[.int .i64 lhs, .slice (some ⟨w.heap.size, 0, none⟩) 1 1, .int .i64 op, .slice (some ⟨w.heap.size + 1, 0, none⟩) 1 1, .int .i64 0] 56)) (w.heap.size + 1 + 1) (.int .i64 lhs) (.slice (some ⟨w.heap.size, 0, none⟩) 1 1) (.int .i64 op) (.slice (some ⟨w.heap.size + 1, 0, none⟩) 1 1) (.int .i64 0) ∧ RulesNew (((w.alloc (.cells #[.int .i64 x] 3)).alloc (.cells #[.int .i64 z] 3)).alloc (.cells #[.int .i64 lhs, .slice (some ⟨w.heap.size, 0, none⟩) 1 1, .int .i64 op, .slice (some ⟨w.heap.size + 1, 0, none⟩) 1 1, .int .i64 0] 56)) B v rs ∧ Off (.slice (some ⟨w.heap.size, 0, none⟩) 1 1) [x] v ∧ Off (.slice (some ⟨w.heap.size + 1, 0, none⟩) 1 1) [z] v :=
  ⟨(((row_one w x) _ rfl).on (up_alloc _ _)).on (up_alloc _ _), (row_one _ z (w.heap.size + 1) (by simp)).on (up_alloc _ _), box_new _ _ _ _ _ _ _ _ (by simp), ((h.on (up_alloc _ _)).on (up_alloc _ _)).on (up_alloc _ _), off_new h (Nat.le_refl _) _ _ _ _, off_new h (by omega) _ _ _ _⟩

theorem app_two {w : World} {B : Nat} {v : Value} {rs : List Rule} (h : RulesNew w B v rs) (lhs op x y z : Int) :
    Row (((w.alloc (.cells #[.int .i64 x, .int .i64 y] 3)).alloc (.cells #[.int .i64 z] 3)).alloc (.cells #[.int .i64 lhs, .slice (some ⟨w.heap.size, 0, none⟩) 2 2, .int .i64 op, .slice (some ⟨w.heap.size + 1, 0, none⟩) 1 1, .int .i64 0] 56)) (.slice (some ⟨w.heap.size, 0, none⟩) 2 2) [x, y] ∧ Row (((w.alloc (.cells #[.int .i64 x, .int .i64 y] 3)).alloc (.cells #[.int .i64 z] 3)).alloc (.cells #[.int .i64 lhs, .slice (some ⟨w.heap.size, 0, none⟩) 2 2, .int .i64 op, .slice (some ⟨w.heap.size + 1, 0, none⟩) 1 1, .int .i64 0] 56)) (.slice (some ⟨w.heap.size + 1, 0, none⟩) 1 1) [z] ∧ Box (((w.alloc (.cells #[.int .i64 x, .int .i64 y] 3)).alloc (.cells #[.int .i64 z] 3)).alloc (.cells #[.int .i64 lhs, .slice (some ⟨w.heap.size, 0, none⟩) 2 2, .int .i64 op, .slice (some ⟨w.heap.size + 1, 0, none⟩) 1 1, .int .i64 0] 56)) (w.heap.size + 1 + 1) (.int .i64 lhs) (.slice (some ⟨w.heap.size, 0, none⟩) 2 2) (.int .i64 op) (.slice (some ⟨w.heap.size + 1, 0, none⟩) 1 1) (.int .i64 0) ∧ RulesNew (((w.alloc (.cells #[.int .i64 x, .int .i64 y] 3)).alloc (.cells #[.int .i64 z] 3)).alloc (.cells #[.int .i64 lhs, .slice (some ⟨w.heap.size, 0, none⟩) 2 2, .int .i64 op, .slice (some ⟨w.heap.size + 1, 0, none⟩) 1 1, .int .i64 0] 56)) B v rs ∧ Off (.slice (some ⟨w.heap.size, 0, none⟩) 2 2) [x, y] v ∧ Off (.slice (some ⟨w.heap.size + 1, 0, none⟩) 1 1) [z] v :=
  ⟨(((row_two w x y) _ rfl).on (up_alloc _ _)).on (up_alloc _ _), (row_one _ z (w.heap.size + 1) (by simp)).on (up_alloc _ _), box_new _ _ _ _ _ _ _ _ (by simp), ((h.on (up_alloc _ _)).on (up_alloc _ _)).on (up_alloc _ _), off_new h (Nat.le_refl _) _ _ _ _, off_new h (by omega) _ _ _ _⟩

end Go.Proofs.YtohgaknojkdohaaGreatDoor.Gr
