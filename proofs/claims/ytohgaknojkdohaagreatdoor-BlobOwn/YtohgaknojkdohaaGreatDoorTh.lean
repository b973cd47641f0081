/- CpO, ResO, RsvO, OwnM: these texts, one behind the other. -/
import Derived.Test.YtohgaknojkdohaaGreatDoorTd
/- Rows copied, once more: the copies are the call's own. -/
namespace Go.Proofs.YtohgaknojkdohaaGreatDoor
open Go.RowKit Gr

/-- A row of numbers of the call's own, from block B on. -/
def RowO (B : Nat) (W : World) (v : Value) (xs : List Int) : Prop := xs.length ≤ 1000000 ∧ W.ownsRow B 3 1 v xs.length (xs.map (Value.int .i64))
theorem RowO.row {B : Nat} {W : World} {v : Value} {xs : List Int} (h : RowO B W v xs) : Row W v xs := own_int_row h.2 h.1
theorem RowO.shape {B : Nat} {W : World} {v : Value} {xs : List Int} (h : RowO B W v xs) : ∃ ad cap, v = .slice ad xs.length cap ∧ True := by
  obtain ⟨ad, cap, e, _⟩ := own_shape h.2
  exact ⟨ad, cap, e, trivial⟩
/-- A row of parts of the call's own. -/
def PartO (B : Nat) (W : World) (v : Value) (xs : List Part) : Prop := xs.length ≤ 1000000 ∧ ∃ cs, W.ownsRow B 48 5 v xs.length cs ∧ PartC W cs xs
theorem PartO.parts {B : Nat} {W : World} {v : Value} {xs : List Part} (h : PartO B W v xs) : PartsAt W v xs := by
  obtain ⟨h1, cs, h2, h3⟩ := h
  exact Parts_own h2 h3 h1
theorem PartO.shape {B : Nat} {W : World} {v : Value} {xs : List Part} (h : PartO B W v xs) : ∃ ad cap, v = .slice ad xs.length cap ∧ True := by
  obtain ⟨_, cs, h2, _⟩ := h
  obtain ⟨ad, cap, e, _⟩ := own_shape h2
  exact ⟨ad, cap, e, trivial⟩
def RuleO (B : Nat) (W : World) (cs : List Value) (xs : List Rule) : Prop := RuleC W cs xs ∧ ∀ j x, xs[j]? = some x → ∃ v0 v1, cs[j * 5 + 1]? = some v0 ∧ cs[j * 5 + 3]? = some v1 ∧ RowO B W v0 x.rhs ∧ RowO B W v1 x.p
theorem RuleO.nil (B : Nat) (W : World) : RuleO B W [] [] := ⟨RuleC.nil W, fun j x h => by simp at h⟩
theorem RuleO.append {B : Nat} {W : World} {cs ds : List Value} {xs ys : List Rule} (h : RuleO B W cs xs) (k : RuleO B W ds ys) : RuleO B W (cs ++ ds) (xs ++ ys) := by
  refine ⟨h.1.append k.1, fun j x hx => ?_⟩
  rcases append_at (ds := ds) h.1.1 hx with ⟨hh1, hh2⟩ | ⟨i, _, hh1, hh2⟩
  · obtain ⟨v0, v1, h1, h3, a0, a1⟩ := h.2 j x hh1
    exact ⟨v0, v1, (hh2 1 (by decide)).trans h1, (hh2 3 (by decide)).trans h3, a0, a1⟩
  · obtain ⟨v0, v1, h1, h3, a0, a1⟩ := k.2 i x hh1
    exact ⟨v0, v1, (hh2 1).trans h1, (hh2 3).trans h3, a0, a1⟩
theorem RuleO.one {B : Nat} (W : World) (x : Rule) (v0 v1 : Value) (a0 : RowO B W v0 x.rhs) (a1 : RowO B W v1 x.p) (b0 : v0.oneCell' = true) (b1 : v1.oneCell' = true) : RuleO B W [.int .i64 x.lhs, v0, .int .i64 x.op, v1, .int .i64 x.cost] [x] := ⟨RuleC.one W x v0 v1 a0.row a1.row b0 b1, fun j y h => by
  obtain ⟨rfl, rfl⟩ : j = 0 ∧ y = x := by
    cases j with
    | zero => simpa [eq_comm] using h
    | succ j => simp at h
  exact ⟨v0, v1, rfl, rfl, a0, a1⟩⟩
def StyleO (B : Nat) (W : World) (cs : List Value) (xs : List Style) : Prop := StyleC W cs xs ∧ ∀ j x, xs[j]? = some x → ∃ v0, cs[j * 2 + 1]? = some v0 ∧ PartO B W v0 x.parts
theorem StyleO.nil (B : Nat) (W : World) : StyleO B W [] [] := ⟨StyleC.nil W, fun j x h => by simp at h⟩
theorem StyleO.append {B : Nat} {W : World} {cs ds : List Value} {xs ys : List Style} (h : StyleO B W cs xs) (k : StyleO B W ds ys) : StyleO B W (cs ++ ds) (xs ++ ys) := by
  refine ⟨h.1.append k.1, fun j x hx => ?_⟩
  rcases append_at (ds := ds) h.1.1 hx with ⟨hh1, hh2⟩ | ⟨i, _, hh1, hh2⟩
  · obtain ⟨v0, h1, a0⟩ := h.2 j x hh1
    exact ⟨v0, (hh2 1 (by decide)).trans h1, a0⟩
  · obtain ⟨v0, h1, a0⟩ := k.2 i x hh1
    exact ⟨v0, (hh2 1).trans h1, a0⟩
theorem StyleO.one {B : Nat} (W : World) (x : Style) (v0 : Value) (a0 : PartO B W v0 x.parts) (b0 : v0.oneCell' = true) : StyleO B W [.int .i64 x.kind, v0] [x] := ⟨StyleC.one W x v0 a0.parts b0, fun j y h => by
  obtain ⟨rfl, rfl⟩ : j = 0 ∧ y = x := by
    cases j with
    | zero => simpa [eq_comm] using h
    | succ j => simp at h
  exact ⟨v0, rfl, a0⟩⟩

set_option maxRecDepth 8000 in
theorem clone_intO (B : Nat) (xs : List Int) (v : Value) (w : World) (h : Row w v xs) (hl : xs.length ≤ 100000) (hB : B ≤ w.heap.size) :
    Calls Tryz.prog 124 #[v] w fun e w' => ∃ v', e = .returned v' ∧ Stay w' (fun W => RowO B W v' xs) ∧ Below w.heap.size w w' := by
  obtain ⟨ad, cap, rfl, _, hc⟩ := id h
  cases ad with
  | none =>
    have hx : xs = [] := by
      cases xs with
      | nil => rfl
      | cons y ys => obtain ⟨a, e, _⟩ := hc 0 (by simp); cases e
    subst hx
    clear h hc
    have q1 := eqnil_int
    have q2 := eqsome_int
    go_enter Tryz.func124, Tryz.ntmps124
    go_wp2
    go_ret
    exact ⟨_, rfl, Stay.all fun W => ⟨by simp, World.ownsRow_nil _ _ _ _⟩, Below.refl _ _⟩
  | some a =>
    have HC := hid ((row_cells h (by simp)).on (up_alloc w (.cells #[] 3)))
    have HOM := hid (own_made w 3 1 w.heap.size w.heap.size (Nat.le_refl _) rfl)
    have HU := hid (up_alloc w (.cells #[] 3))
    clear h hc
    generalize hn : xs.length = n at *
    have HN := hid hn
    clear hn
    have q1 := eqnil_int
    have q2 := eqsome_int
    go_enter Tryz.func124, Tryz.ntmps124
    go_wp2_with (at_builtin; refine wpList_append_cells _ rfl (.tmp 5) (.tmp 6) 35 3 rfl (.int .i64 0) 1 8 Tryz.underlying35 info_int rfl (by decide) (by decide) w.heap.size _ 0 _ rfl HOM.out _ n _ rfl HC.out (by omega) (by simp) ?_; intro v' w' h1 h2 h3; have HO := hid (show w'.ownsRow w.heap.size 3 1 v' xs.length (xs.map (Value.int .i64)) from by rw [HN.out]; rw [Nat.zero_add] at h1; exact h1); have HB := hid (HU.out.grown h2 (by simp) (fun k e => Nat.le_of_eq (Option.some.inj e))); obtain ⟨adv, capv, ev, _⟩ := own_shape h1; rw [Nat.zero_add] at ev; subst ev; clear h1 h2 h3)
    go_ret
    exact ⟨_, rfl, fun W k => ⟨by rw [HN.out]; omega, own_base (own_keep HO.out (.inr rfl) k) hB⟩, HB.out⟩

set_option maxRecDepth 8000 in
theorem clone_PartO (B : Nat) (xs : List Part) (v : Value) (w : World) (h : PartsAt w v xs) (hl : xs.length ≤ 100000) (hB : B ≤ w.heap.size) :
    Calls Tryz.prog 123 #[v] w fun e w' => ∃ v', e = .returned v' ∧ Stay w' (fun W => PartO B W v' xs) ∧ Below w.heap.size w w' := by
  obtain ⟨cs, hcs, hcc⟩ := Parts_cells h
  obtain ⟨ad, cap, rfl, _, hc⟩ := id h
  cases ad with
  | none =>
    have hx : xs = [] := by
      cases xs with
      | nil => rfl
      | cons y ys => obtain ⟨a, o, e, _⟩ := hc.2 0 (by simp); cases e
    obtain rfl := hc.1.1 rfl
    subst hx
    clear h hc hcs hcc
    have q1 := eqnil_part
    have q2 := eqsome_part
    go_enter Tryz.func123, Tryz.ntmps123
    go_wp2
    go_ret
    exact ⟨_, rfl, Stay.all fun W => ⟨by simp, [], World.ownsRow_nil _ _ _ _, PartC.nil W⟩, Below.refl _ _⟩
  | some a =>
    have HC := hid (hcs.on (up_alloc w (.cells #[] 48)))
    have HOM := hid (own_made w 48 5 w.heap.size w.heap.size (Nat.le_refl _) rfl)
    have HU := hid (up_alloc w (.cells #[] 48))
    have HCC := hid hcc
    clear h hc hcs hcc
    generalize hn : xs.length = n at *
    have HN := hid hn
    clear hn
    have q1 := eqnil_part
    have q2 := eqsome_part
    go_enter Tryz.func123, Tryz.ntmps123
    go_wp2_with (at_builtin; refine wpList_append_cells _ rfl (.tmp 5) (.tmp 6) 50 48 rfl (.agg #[.int .i64 0, .string ⟨#[]⟩, .int .i64 0, .int .i64 0, .int .i64 0]) 5 48 Tryz.underlying50 info_Part rfl (by decide) (by decide) w.heap.size _ 0 _ rfl HOM.out _ n _ rfl HC.out (by omega) (by simp) ?_; intro v' w' h1 h2 h3; have HO := hid (show w'.ownsRow w.heap.size 48 5 v' xs.length cs from by rw [HN.out]; rw [Nat.zero_add] at h1; exact h1); have HB := hid (HU.out.grown h2 (by simp) (fun k e => Nat.le_of_eq (Option.some.inj e))); obtain ⟨adv, capv, ev, _⟩ := own_shape h1; rw [Nat.zero_add] at ev; subst ev; clear h1 h2 h3)
    go_ret
    exact ⟨_, rfl, fun W k => ⟨by rw [HN.out]; omega, _, own_base (own_keep HO.out (.inl rfl) k) hB, HCC.out.1, HCC.out.2⟩, HB.out⟩

set_option maxRecDepth 8000 in
theorem copyStyleO (B : Nat) (x : Style) (v0 : Value) (w : World) (h : PartsAt w v0 x.parts) (hl : x.parts.length ≤ 100000) (hB : B ≤ w.heap.size) :
    Calls Tryz.prog 85 #[styleV x v0] w fun e w' => ∃ v0', e = .returned (styleV x v0') ∧ Stay w' (fun W => PartO B W v0' x.parts) ∧ Below w.heap.size w w' := by
  obtain ⟨kind, parts⟩ := x
  dsimp only at h hl
  have HU := hid (((Below.refl w.heap.size w).alloc (Nat.le_refl _) (.cells #[.int .i64 kind, v0] 52)).alloc (by simp) (.cells #[.int .i64 0, .slice none 0 0] 52))
  have HC := hid (clone_PartO B parts v0 _ (h.on HU.out) hl (Nat.le_trans hB HU.out.size))
  have HX0 := hid (row_new w (.cells #[.int .i64 kind, v0] 52))
  have HX1 := hid (row_new' (w.alloc (.cells #[.int .i64 kind, v0] 52)) (.cells #[.int .i64 0, .slice none 0 0] 52) (w.heap.size + 1) (by simp))
  obtain ⟨ad, cap, ev, _⟩ := h.shape
  generalize parts.length = n at *
  subst ev
  unfold styleV
  clear h
  go_enter Tryz.func85, Tryz.ntmps85
  go_wp2_with fail
  refine HC.out.mono ?_
  rintro e w1 ⟨v', rfl, hS, hb⟩
  obtain ⟨adv, capv, ev, _⟩ := hS.now.shape
  generalize parts.length = m at ev
  subst ev
  have HS := hid hS
  have HB := hid (up_trans HU.out hb)
  have k0 := ((hb.block w.heap.size (by simp; omega)).trans (Below.heap_alloc _ _ _ (by simp))).trans HX0.out
  have k1 := (hb.block (w.heap.size + 1) (by simp)).trans HX1.out
  have HK0 := hid k0
  have HK1 := hid k1
  have c0 : w1.cell? ⟨w.heap.size, 0, none⟩ = some (.int .i64 kind) := by rw [cell_of_row _ _ _ _ _ _ k0]; rfl
  have c1 : w1.cell? ⟨w.heap.size, 1, none⟩ = some (.slice ad n cap) := by rw [cell_of_row _ _ _ _ _ _ k0]; rfl
  have f1 : w1.frozen? ⟨w.heap.size, 1, none⟩ = false := frozen_of_row _ _ _ _ _ k0
  have d0 : w1.cell? ⟨w.heap.size + 1, 0, none⟩ = some (.int .i64 0) := by rw [cell_of_row _ _ _ _ _ _ k1]; rfl
  have d1 : w1.cell? ⟨w.heap.size + 1, 1, none⟩ = some (.slice none 0 0) := by rw [cell_of_row _ _ _ _ _ _ k1]; rfl
  have g0 : w1.frozen? ⟨w.heap.size + 1, 0, none⟩ = false := frozen_of_row _ _ _ _ _ k1
  have g1 : w1.frozen? ⟨w.heap.size + 1, 1, none⟩ = false := frozen_of_row _ _ _ _ _ k1
  clear hS hb k0 k1 HC HX0 HX1
  go_wp2
  refine bodyPost_ret (v := styleV ⟨kind, parts⟩ (.slice adv m capv)) (results_cell_row rfl _ _ (w.heap.size + 1) 52 _ (0, 0) _ rfl (heap_setCell_same _ _ 1 _ _ _ (heap_setCell_same _ _ 0 _ _ _ ((Below.heap_setCell _ _ _ _ (by simp)).trans HK1.out))) Tryz.underlying52 rfl (by kernel_rfl)) rfl ?_
  refine ⟨_, rfl, HS.out.step ?_, ((HB.out.setCell (p := ⟨w.heap.size, 1, none⟩) (Nat.le_refl _) _).setCell (p := ⟨w.heap.size + 1, 0, none⟩) (Nat.le_succ _) _).setCell (p := ⟨w.heap.size + 1, 1, none⟩) (Nat.le_succ _) _⟩
  have h1 := (Below.heap_setCell w1 ⟨w.heap.size, 1, none⟩ (.slice adv m capv) (w.heap.size + 1) (by simp)).trans HK1.out
  exact ((Keep.set HK0.out (by decide) (by decide)).trans (Keep.set h1 (by decide) (by decide))).trans (Keep.set (heap_setCell_same _ _ 0 _ _ _ h1) (by decide) (by decide))

set_option maxRecDepth 8000 in
theorem copyRuleO (B : Nat) (x : Rule) (v0 v1 : Value) (w : World) (h0 : Row w v0 x.rhs) (h1 : Row w v1 x.p) (hl0 : x.rhs.length ≤ 100000) (hl1 : x.p.length ≤ 100000) (hB : B ≤ w.heap.size) :
    Calls Tryz.prog 86 #[ruleV x v0 v1] w fun e w' => ∃ v0' v1', e = .returned (ruleV x v0' v1') ∧ Stay w' (fun W => RowO B W v0' x.rhs) ∧ Stay w' (fun W => RowO B W v1' x.p) ∧ Below w.heap.size w w' := by
  obtain ⟨lhs, rhs, op, p, cost⟩ := x
  dsimp only at h0 h1 hl0 hl1
  have HU := hid (((Below.refl w.heap.size w).alloc (Nat.le_refl _) (.cells #[.int .i64 lhs, v0, .int .i64 op, v1, .int .i64 cost] 56)).alloc (by simp) (.cells #[.int .i64 0, .slice none 0 0, .int .i64 0, .slice none 0 0, .int .i64 0] 56))
  have HX0 := hid (row_new w (.cells #[.int .i64 lhs, v0, .int .i64 op, v1, .int .i64 cost] 56))
  have HX1 := hid (row_new' (w.alloc (.cells #[.int .i64 lhs, v0, .int .i64 op, v1, .int .i64 cost] 56)) (.cells #[.int .i64 0, .slice none 0 0, .int .i64 0, .slice none 0 0, .int .i64 0] 56) (w.heap.size + 1) (by simp))
  have HC0 := hid (fun W (b : Below w.heap.size w W) => clone_intO B rhs v0 W (h0.on b) hl0 (Nat.le_trans hB b.size))
  have HC1 := hid (fun W (b : Below w.heap.size w W) => clone_intO B p v1 W (h1.on b) hl1 (Nat.le_trans hB b.size))
  obtain ⟨ad0, cap0, e0, _⟩ := h0
  obtain ⟨ad1, cap1, e1, _⟩ := h1
  generalize rhs.length = n0 at *
  generalize p.length = n1 at *
  subst e0 e1
  unfold ruleV
  go_enter Tryz.func86, Tryz.ntmps86
  go_wp2
  obtain ⟨w0, hw0⟩ : ∃ w0, w0 = (w.alloc (.cells #[.int .i64 lhs, .slice ad0 n0 cap0, .int .i64 op, .slice ad1 n1 cap1, .int .i64 cost] 56)).alloc (.cells #[.int .i64 0, .slice none 0 0, .int .i64 0, .slice none 0 0, .int .i64 0] 56) := ⟨_, rfl⟩
  have hs0 : w0.heap.size = w.heap.size + 2 := by rw [hw0]; simp
  have k0 : w0.heap[w.heap.size]? = some (.cells #[.int .i64 lhs, .slice ad0 n0 cap0, .int .i64 op, .slice ad1 n1 cap1, .int .i64 cost] 56 (0, 0)) := by rw [hw0, Below.heap_alloc _ _ _ (by simp)]; exact HX0.out
  rw [← hw0] at HU HX1 ⊢
  have c1 : w0.cell? ⟨w.heap.size, 1, none⟩ = some (.slice ad0 n0 cap0) := by rw [cell_of_row _ _ _ _ _ _ k0]; rfl
  have c3 : w0.cell? ⟨w.heap.size, 3, none⟩ = some (.slice ad1 n1 cap1) := by rw [cell_of_row _ _ _ _ _ _ k0]; rfl
  have f1 : w0.frozen? ⟨w.heap.size, 1, none⟩ = false := frozen_of_row _ _ _ _ _ k0
  have f3 : w0.frozen? ⟨w.heap.size, 3, none⟩ = false := frozen_of_row _ _ _ _ _ k0
  have HK0 := hid k0
  have HD0 := hid (HU.out.drew)
  have HUD := hid ((Below.refl w0.heap.size w0).drew)
  clear hw0 k0 HX0
  go_region_law (first
    | (go_simp; go_at_call 124; refine (HC0.out _ HD0.out).mono ?_; rintro e wA ⟨va, rfl, sa, ba⟩; obtain ⟨adA, capA, eA, _⟩ := RowO.shape sa.now; generalize rhs.length = nA at eA; subst eA; have HSA := hid sa; have HBA := hid (HUD.out.trans ba); have cA1 := (HBA.out.cell (p := ⟨w.heap.size, 1, none⟩) (by simp; omega)).trans c1; have cA3 := (HBA.out.cell (p := ⟨w.heap.size, 3, none⟩) (by simp; omega)).trans c3; have fA1 := frozen_on HBA.out (by omega) f1; have fA3 := frozen_on HBA.out (by omega) f3; have hsA := HBA.out.size; clear sa ba HC0)
    | (go_simp; go_at_call 124; refine (HC1.out _ (up_trans HU.out HBA.out)).mono ?_; rintro e wB ⟨vb, rfl, sb, bb⟩; obtain ⟨adB, capB, eB, _⟩ := RowO.shape sb.now; generalize p.length = nB at eB; subst eB; have HSB := hid sb; have HBB := hid (HBA.out.trans (bb.mono hsA)); have HKB := hid (Keep.up bb); have cB1 := (HBB.out.cell (p := ⟨w.heap.size, 1, none⟩) (by simp; omega)).trans c1; have cB3 := (HBB.out.cell (p := ⟨w.heap.size, 3, none⟩) (by simp; omega)).trans c3; have fB1 := frozen_on HBB.out (by omega) f1; have fB3 := frozen_on HBB.out (by omega) f3; clear sb bb HC1))
  all_goals
    have hk0 := heap_setCell_same _ _ 3 _ _ (.slice adB nB capB) (heap_setCell_same _ _ 1 _ _ (.slice adA nA capA) ((HBB.out.block w.heap.size (by omega)).trans HK0.out))
    have hk1 := ((Below.heap_setCell (wB.setCell ⟨w.heap.size, 1, none⟩ (.slice adA nA capA)) ⟨w.heap.size, 3, none⟩ (.slice adB nB capB) (w.heap.size + 1) (by simp)).trans (Below.heap_setCell wB ⟨w.heap.size, 1, none⟩ (.slice adA nA capA) (w.heap.size + 1) (by simp))).trans ((HBB.out.block (w.heap.size + 1) (by omega)).trans HX1.out)
    have hkp := (Keep.set (c := 1) (u := .slice adA nA capA) ((HBB.out.block w.heap.size (by omega)).trans HK0.out) (by decide) (by decide)).trans (Keep.set (c := 3) (u := .slice adB nB capB) (heap_setCell_same _ _ 1 _ _ (.slice adA nA capA) ((HBB.out.block w.heap.size (by omega)).trans HK0.out)) (by decide) (by decide))
    have hbl := ((up_trans HU.out HBB.out).setCell (p := ⟨w.heap.size, 1, none⟩) (Nat.le_refl _) (.slice adA nA capA)).setCell (p := ⟨w.heap.size, 3, none⟩) (Nat.le_refl _) (.slice adB nB capB)
    obtain ⟨w2, hw2⟩ : ∃ w2, w2 = (wB.setCell ⟨w.heap.size, 1, none⟩ (.slice adA nA capA)).setCell ⟨w.heap.size, 3, none⟩ (.slice adB nB capB) := ⟨_, rfl⟩
    rw [← hw2] at hk0 hk1 hkp hbl ⊢
    have HSA2 := hid ((HSA.out.step HKB.out).step hkp)
    have HSB2 := hid (HSB.out.step hkp)
    have HBL := hid hbl
    have HK1 := hid hk1
    have b0 : w2.cell? ⟨w.heap.size, 0, none⟩ = some (.int .i64 lhs) := by rw [cell_of_row _ _ _ _ _ _ hk0]; rfl
    have b1 : w2.cell? ⟨w.heap.size, 1, none⟩ = some (.slice adA nA capA) := by rw [cell_of_row _ _ _ _ _ _ hk0]; rfl
    have b2 : w2.cell? ⟨w.heap.size, 2, none⟩ = some (.int .i64 op) := by rw [cell_of_row _ _ _ _ _ _ hk0]; rfl
    have b3 : w2.cell? ⟨w.heap.size, 3, none⟩ = some (.slice adB nB capB) := by rw [cell_of_row _ _ _ _ _ _ hk0]; rfl
    have b4 : w2.cell? ⟨w.heap.size, 4, none⟩ = some (.int .i64 cost) := by rw [cell_of_row _ _ _ _ _ _ hk0]; rfl
    have d0 : w2.cell? ⟨w.heap.size + 1, 0, none⟩ = some (.int .i64 0) := by rw [cell_of_row _ _ _ _ _ _ hk1]; rfl
    have d1 : w2.cell? ⟨w.heap.size + 1, 1, none⟩ = some (.slice none 0 0) := by rw [cell_of_row _ _ _ _ _ _ hk1]; rfl
    have d2 : w2.cell? ⟨w.heap.size + 1, 2, none⟩ = some (.int .i64 0) := by rw [cell_of_row _ _ _ _ _ _ hk1]; rfl
    have d3 : w2.cell? ⟨w.heap.size + 1, 3, none⟩ = some (.slice none 0 0) := by rw [cell_of_row _ _ _ _ _ _ hk1]; rfl
    have d4 : w2.cell? ⟨w.heap.size + 1, 4, none⟩ = some (.int .i64 0) := by rw [cell_of_row _ _ _ _ _ _ hk1]; rfl
    have g0 : w2.frozen? ⟨w.heap.size + 1, 0, none⟩ = false := frozen_of_row _ _ _ _ _ hk1
    have g1 : w2.frozen? ⟨w.heap.size + 1, 1, none⟩ = false := frozen_of_row _ _ _ _ _ hk1
    have g2 : w2.frozen? ⟨w.heap.size + 1, 2, none⟩ = false := frozen_of_row _ _ _ _ _ hk1
    have g3 : w2.frozen? ⟨w.heap.size + 1, 3, none⟩ = false := frozen_of_row _ _ _ _ _ hk1
    have g4 : w2.frozen? ⟨w.heap.size + 1, 4, none⟩ = false := frozen_of_row _ _ _ _ _ hk1
    clear hw2 hk0 hk1 hkp hbl c1 c3 f1 f3 cA1 cA3 fA1 fA3 cB1 cB3 fB1 fB3 HSA HSB HKB HBA HBB
    go_wp2
    refine bodyPost_ret (v := ruleV ⟨lhs, rhs, op, p, cost⟩ (.slice adA nA capA) (.slice adB nB capB)) (results_cell_row rfl _ _ (w.heap.size + 1) 56 _ (0, 0) _ rfl (heap_setCell_same _ _ 4 _ _ _ (heap_setCell_same _ _ 3 _ _ _ (heap_setCell_same _ _ 2 _ _ _ (heap_setCell_same _ _ 1 _ _ _ (heap_setCell_same _ _ 0 _ _ _ HK1.out))))) Tryz.underlying56 rfl (by kernel_rfl)) rfl ?_
    have hg := grown_all [.int .i64 lhs, .slice adA nA capA, .int .i64 op, .slice adB nB capB, .int .i64 cost] w2 (w.heap.size + 1) 0
    have hk := keep_by HK1.out hg (by decide) (by decide)
    exact ⟨_, _, rfl, HSA2.out.step hk, HSB2.out.step hk, HBL.out.trans ⟨hg.os, hg.tape, hg.output, hg.size, fun q hq => by
      by_cases hl : q < w2.heap.size
      · exact hg.block q hl (fun e => by injection e with e; omega)
      · have := HBL.out.size; omega⟩⟩

end Go.Proofs.YtohgaknojkdohaaGreatDoor

/- A name, resolved, once more: whose the rows are. -/
namespace Go.Proofs.YtohgaknojkdohaaGreatDoor
open Go.RowKit Gr

/-- A locale all of whose rows are the call's own, from block B on. -/
def LocaleO (B : Nat) (W : World) (x : Locale) (v0 v1 v2 : Value) : Prop :=
  (∃ cl, W.ownsRow B 46 3 v0 x.lex.length cl ∧ EntryC W cl x.lex) ∧ (∃ cr, W.ownsRow B 56 5 v1 x.rules.length cr ∧ RuleO B W cr x.rules) ∧ (∃ cs, W.ownsRow B 52 2 v2 x.styles.length cs ∧ StyleO B W cs x.styles)
/-- What resolve has made so far: its answer's place gR, the whole at gW. -/
def ResAtO (w : World) (B B3 gR gW : Nat) (id : ByteArray) (pa di : Int) (lx : List Entry) (rl : List Rule) (st : List Style) (vl vr vs : Value) : Prop :=
  gR ≠ gW ∧ w.heap[gR]? = some (.cells #[.string ⟨#[]⟩, .int .i64 0, .int .i64 0, .slice none 0 0, .slice none 0 0, .slice none 0 0] 44 (0, 0)) ∧
  w.heap[gW]? = some (.cells #[.string id, .int .i64 pa, .int .i64 di, vl, vr, vs] 44 (0, 0)) ∧
  (∃ cl, w.ownsRow B 46 3 vl lx.length cl ∧ EntryC w cl lx) ∧
  (∃ cr, w.ownsRow B3 56 5 vr rl.length cr ∧ Stay w (fun W => RuleO B W cr rl)) ∧
  (∃ cs, w.ownsRow B 52 2 vs st.length cs ∧ Stay w (fun W => StyleO B W cs st))
theorem ResAtO.on {w w' : World} {B B3 gR gW : Nat} {id : ByteArray} {pa di : Int} {lx : List Entry} {rl : List Rule} {st : List Style} {vl vr vs : Value} (h : ResAtO w B B3 gR gW id pa di lx rl st vl vr vs) (hb : Below w.heap.size w w') : ResAtO w' B B3 gR gW id pa di lx rl st vl vr vs := by
  obtain ⟨h0, h1, h2, ⟨cl, a1, a2⟩, ⟨cr, b1, b2⟩, ⟨cs, c1, c2⟩⟩ := h
  exact ⟨h0, (hb.block _ (Array.getElem?_eq_some_iff.1 h1).1).trans h1, (hb.block _ (Array.getElem?_eq_some_iff.1 h2).1).trans h2, ⟨cl, owns_below a1 hb, a2.on hb⟩, ⟨cr, owns_below b1 hb, b2.step (Keep.up hb)⟩, ⟨cs, owns_below c1 hb, c2.step (Keep.up hb)⟩⟩
theorem ResAtO.lex {w : World} {B B3 gR gW : Nat} {id : ByteArray} {pa di : Int} {lx : List Entry} {rl : List Rule} {st : List Style} {vl vr vs : Value} (h : ResAtO w B B3 gR gW id pa di lx rl st vl vr vs) :
    ∃ cl, w.ownsRow B 46 3 vl lx.length cl ∧ ∀ (w1 w2 : World) (v' : Value) (ds : List Value) (xs : List Entry), Below w.heap.size w w1 → w2.ownsRow B 46 3 v' (lx.length + xs.length) (cl ++ ds) → w1.grownBy w2 vl.ownBlock → EntryC w2 ds xs →
      ResAtO (w2.setCell ⟨gW, 3, none⟩ v') B B3 gR gW id pa di (lx ++ xs) rl st v' vr vs ∧ Keep w (w2.setCell ⟨gW, 3, none⟩ v') := by
  obtain ⟨h0, h1, h2, ⟨cl, a1, a2⟩, ⟨cr, b1, b2⟩, ⟨cs, c1, c2⟩⟩ := h
  refine ⟨cl, a1, fun w1 w2 v' ds xs hb ho hg hds => ?_⟩
  have o1 := owns_below a1 hb
  have k1 := kind_grown o1 hg (by decide) ((hb.block _ (Array.getElem?_eq_some_iff.1 h1).1).trans h1)
  have k2 := kind_grown o1 hg (by decide) ((hb.block _ (Array.getElem?_eq_some_iff.1 h2).1).trans h2)
  have kp := ((Keep.up hb).trans (Keep.grown o1 hg (by decide) (by decide))).trans (Keep.set (c := 3) (u := v') k2 (by decide) (by decide))
  exact ⟨⟨h0, (Below.heap_setCell _ _ _ _ h0).trans k1, heap_setCell_same _ _ 3 _ _ _ k2, ⟨_, own_set (by rw [List.length_append]; exact ho) k2 (by decide), ⟨(a2.append ⟨hds.1, hds.2⟩).1, (a2.append ⟨hds.1, hds.2⟩).2⟩⟩, ⟨cr, own_set (own_kind o1 hg (by decide) (owns_below b1 hb)) k2 (by decide), b2.step kp⟩, ⟨cs, own_set (own_kind o1 hg (by decide) (owns_below c1 hb)) k2 (by decide), c2.step kp⟩⟩, kp⟩
theorem ResAtO.sty {w : World} {B B3 gR gW : Nat} {id : ByteArray} {pa di : Int} {lx : List Entry} {rl : List Rule} {st : List Style} {vl vr vs : Value} (h : ResAtO w B B3 gR gW id pa di lx rl st vl vr vs) :
    ∃ cs, w.ownsRow B 52 2 vs st.length cs ∧ ∀ (w1 w2 : World) (v' : Value) (ds : List Value) (xs : List Style), Below w.heap.size w w1 → w2.ownsRow B 52 2 v' (st.length + xs.length) (cs ++ ds) → w1.grownBy w2 vs.ownBlock → Stay w1 (fun W => StyleO B W ds xs) →
      ResAtO (w2.setCell ⟨gW, 5, none⟩ v') B B3 gR gW id pa di lx rl (st ++ xs) vl vr v' ∧ Keep w (w2.setCell ⟨gW, 5, none⟩ v') := by
  obtain ⟨h0, h1, h2, ⟨cl, a1, a2⟩, ⟨cr, b1, b2⟩, ⟨cs, c1, c2⟩⟩ := h
  refine ⟨cs, c1, fun w1 w2 v' ds xs hb ho hg hds => ?_⟩
  have o1 := owns_below c1 hb
  have k1 := kind_grown o1 hg (by decide) ((hb.block _ (Array.getElem?_eq_some_iff.1 h1).1).trans h1)
  have k2 := kind_grown o1 hg (by decide) ((hb.block _ (Array.getElem?_eq_some_iff.1 h2).1).trans h2)
  have kq := (Keep.grown o1 hg (by decide) (by decide)).trans (Keep.set (c := 5) (u := v') k2 (by decide) (by decide))
  have kp := (Keep.up hb).trans kq
  exact ⟨⟨h0, (Below.heap_setCell _ _ _ _ h0).trans k1, heap_setCell_same _ _ 5 _ _ _ k2, ⟨cl, own_set (own_kind o1 hg (by decide) (owns_below a1 hb)) k2 (by decide), ⟨a2.1, a2.2⟩⟩, ⟨cr, own_set (own_kind o1 hg (by decide) (owns_below b1 hb)) k2 (by decide), b2.step kp⟩, ⟨_, own_set (by rw [List.length_append]; exact ho) k2 (by decide), fun W k => (c2 W (kp.trans k)).append (hds W (kq.trans k))⟩⟩, kp⟩
theorem ResAtO.rul {w : World} {B B3 gR gW : Nat} {id : ByteArray} {pa di : Int} {lx : List Entry} {rl : List Rule} {st : List Style} {vl vr vs : Value} (h : ResAtO w B B3 gR gW id pa di lx rl st vl vr vs) :
    ∃ cr, w.ownsRow B3 56 5 vr rl.length cr ∧ ∀ (w1 w2 : World) (v' : Value) (ds : List Value) (xs : List Rule), Below w.heap.size w w1 → w2.ownsRow B3 56 5 v' (rl.length + xs.length) (cr ++ ds) → w1.grownBy w2 vr.ownBlock → Stay w1 (fun W => RuleO B W ds xs) →
      ResAtO (w2.setCell ⟨gW, 4, none⟩ v') B B3 gR gW id pa di lx (rl ++ xs) st vl v' vs ∧ Keep w (w2.setCell ⟨gW, 4, none⟩ v') := by
  obtain ⟨h0, h1, h2, ⟨cl, a1, a2⟩, ⟨cr, b1, b2⟩, ⟨cs, c1, c2⟩⟩ := h
  refine ⟨cr, b1, fun w1 w2 v' ds xs hb ho hg hds => ?_⟩
  have o1 := owns_below b1 hb
  have k1 := kind_grown o1 hg (by decide) ((hb.block _ (Array.getElem?_eq_some_iff.1 h1).1).trans h1)
  have k2 := kind_grown o1 hg (by decide) ((hb.block _ (Array.getElem?_eq_some_iff.1 h2).1).trans h2)
  have kq := (Keep.grown o1 hg (by decide) (by decide)).trans (Keep.set (c := 4) (u := v') k2 (by decide) (by decide))
  have kp := (Keep.up hb).trans kq
  exact ⟨⟨h0, (Below.heap_setCell _ _ _ _ h0).trans k1, heap_setCell_same _ _ 4 _ _ _ k2, ⟨cl, own_set (own_kind o1 hg (by decide) (owns_below a1 hb)) k2 (by decide), ⟨a2.1, a2.2⟩⟩, ⟨_, own_set (by rw [List.length_append]; exact ho) k2 (by decide), fun W k => (b2 W (kp.trans k)).append (hds W (kq.trans k))⟩, ⟨cs, own_set (own_kind o1 hg (by decide) (owns_below c1 hb)) k2 (by decide), c2.step kp⟩⟩, kp⟩
theorem ResAtO.box {w : World} {B B3 gR gW : Nat} {id : ByteArray} {pa di : Int} {lx : List Entry} {rl : List Rule} {st : List Style} {vl vr vs : Value} (h : ResAtO w B B3 gR gW id pa di lx rl st vl vr vs) (c : Nat) : w.cell? ⟨gW, c, none⟩ = #[.string id, .int .i64 pa, .int .i64 di, vl, vr, vs][c]? ∧ w.frozen? ⟨gW, c, none⟩ = false ∧ gW < w.heap.size := by
  obtain ⟨h0, h1, h2, _⟩ := h
  exact ⟨cell_of_row _ _ _ _ _ _ h2, frozen_of_row _ _ _ _ _ h2, (Array.getElem?_eq_some_iff.1 h2).1⟩

set_option maxRecDepth 8000 in
set_option maxHeartbeats 8000000 in
theorem resolveO_any (ls : List Locale) (v : Value) (i : Nat) (w : World) (hl : LocalesAt w v ls) (hi : i < ls.length) (hi10 : i < 10) (hp : Par ls i) (hS : Small ls) (hX : ∀ x ∈ ls, (∀ s ∈ x.styles, s.parts.length ≤ 100000) ∧ (∀ r ∈ x.rules, r.rhs.length ≤ 100000 ∧ r.p.length ≤ 100000)) :
    Calls Tryz.prog 46 #[v, .int .i64 i] w fun e w' => ∃ v0 v1 v2, e = .returned (localeV (resOf ls i) v0 v1 v2) ∧ Stl w' (fun W => LocaleO w.heap.size W (resOf ls i) v0 v1 v2) ∧ Below w.heap.size w w' := by
  have HL := hid hl
  have HCH := hid (fun W (b : Below w.heap.size w W) => chain_any ls v i W (hl.on b) hi hp)
  have HRU := hid (fun W (b : Below w.heap.size w W) => rulesC_any ls v i w W hl b hi hi10 hp hS)
  obtain ⟨ad, cap, rfl, hm, hnc, hc⟩ := hl
  obtain ⟨g, o, rfl, hx⟩ := hc i hi
  obtain ⟨_, _, _, c0, c1, c2, _⟩ := hx
  have HC := hid hc
  have HP := hid hp
  have HS := hid hS
  have HXX := hid hX
  have k0 := lt_of_cell c0
  dsimp only at k0
  have e0 := ((up_alloc w (.cells #[.string ⟨#[]⟩, .int .i64 0, .int .i64 0, .slice none 0 0, .slice none 0 0, .slice none 0 0] 44)).cell (p := ⟨g, o + i * 6, none⟩) k0).trans c0
  have e1 := ((up_alloc w (.cells #[.string ⟨#[]⟩, .int .i64 0, .int .i64 0, .slice none 0 0, .slice none 0 0, .slice none 0 0] 44)).cell (p := ⟨g, o + i * 6 + 1, none⟩) k0).trans c1
  have e2 := ((up_alloc w (.cells #[.string ⟨#[]⟩, .int .i64 0, .int .i64 0, .slice none 0 0, .slice none 0 0, .slice none 0 0] 44)).cell (p := ⟨g, o + i * 6 + 2, none⟩) k0).trans c2
  have hi2 : (i : Int) < (ls.length : Int) := by omega
  have HR0 := hid (row_new w (.cells #[.string ⟨#[]⟩, .int .i64 0, .int .i64 0, .slice none 0 0, .slice none 0 0, .slice none 0 0] 44))
  have HU0 := hid (up_alloc w (.cells #[.string ⟨#[]⟩, .int .i64 0, .int .i64 0, .slice none 0 0, .slice none 0 0, .slice none 0 0] 44))
  have HRES : Hid (resOf ls i = ⟨(ls.getD i nilLocale).id, (ls.getD i nilLocale).parent, (ls.getD i nilLocale).digits, lexUp ls (chainOf ls i), rulesOf ls i, stylesUp ls (chainOf ls i)⟩) := hid rfl
  generalize (ls.getD i nilLocale).id = id at *
  generalize (ls.getD i nilLocale).parent = pa at *
  generalize (ls.getD i nilLocale).digits = di at *
  generalize hn : ls.length = n at *
  have HN := hid hn
  have HPP := hid hp
  clear hn hc hp hS hX c0 c1 c2 HP
  go_enter Tryz.func46, Tryz.ntmps46
  go_wp2
  obtain ⟨wa, hwa⟩ : ∃ wa, wa = w.alloc (.cells #[.string ⟨#[]⟩, .int .i64 0, .int .i64 0, .slice none 0 0, .slice none 0 0, .slice none 0 0] 44) := ⟨_, rfl⟩
  have hsa : wa.heap.size = w.heap.size + 1 := by rw [hwa]; simp
  rw [← hwa] at e0 e1 e2 HR0 HU0 ⊢
  clear hwa
  apply key_cut
  case rest =>
    intro key
    go_region
    all_goals exact key
  have HA1 : Hid (ResAtO (wa.alloc (.cells #[.string id, .int .i64 pa, .int .i64 di, .slice none 0 0, .slice none 0 0, .slice none 0 0] 44)).drew w.heap.size 0 w.heap.size (w.heap.size + 1) id pa di [] [] [] (.slice none 0 0) (.slice none 0 0) (.slice none 0 0)) := hid
    ⟨by omega, (Below.heap_alloc wa _ _ (by omega)).trans HR0.out, row_new' wa _ _ hsa.symm, ⟨[], World.ownsRow_nil _ _ _ _, EntryC.nil _⟩, ⟨[], World.ownsRow_nil _ _ _ _, Stay.all fun W => RuleO.nil _ W⟩, ⟨[], World.ownsRow_nil _ _ _ _, Stay.all fun W => StyleO.nil _ W⟩⟩
  have HB1 : Hid (Below w.heap.size w (wa.alloc (.cells #[.string id, .int .i64 pa, .int .i64 di, .slice none 0 0, .slice none 0 0, .slice none 0 0] 44)).drew) := hid ((HU0.out.alloc (by omega) _).drew)
  obtain ⟨w1, hw1⟩ : ∃ w1, w1 = (wa.alloc (.cells #[.string id, .int .i64 pa, .int .i64 di, .slice none 0 0, .slice none 0 0, .slice none 0 0] 44)).drew := ⟨_, rfl⟩
  rw [← hw1] at HA1 HB1 ⊢
  clear hw1 e0 e1 e2 HR0 HU0 hsa
  have HQM : Hid (∀ k ∈ chainOf ls i, 0 ≤ k ∧ k ≤ i) := hid (fun k h => chainOf_mem ls i HPP.out h)
  have hcl := chainOf_length ls i
  go_wp2_with fail
  refine (HCH.out w1 HB1.out).mono ?_
  rintro e w2 ⟨cv, rfl, hr, hb⟩
  have HA2 := hid (HA1.out.on hb)
  have HB2 := hid (HB1.out.trans (hb.mono HB1.out.size))
  have HRW : Hid (Stay w2 (fun W => Row W cv (chainOf ls i))) := hid (fun W k => RowNew.row (own_keep hr (.inr rfl) k) (by unfold maxLen; omega))
  generalize hch : chainOf ls i = ch at *
  generalize hq : ch.length = q at *
  have HQ := hid hq
  obtain ⟨adc, capc, ec⟩ := hr.shape
  rw [hq] at ec
  subst ec
  clear hr hb hch hq HCH HA1 HB1
  go_wp2
  go_loopw [32] (fun v32 wr => ∃ j : Nat, j ≤ q ∧ v32 = .int .i64 j ∧ (∃ vl vs, ResAtO wr w.heap.size 0 w.heap.size (w.heap.size + 1) id pa di (lexUp ls (ch.take j)) [] (stylesUp ls (ch.take j)) vl (.slice none 0 0) vs) ∧ Stay wr (fun W => Row W (.slice adc q capc) ch) ∧ Below w.heap.size w wr) (fun v _ => q - (intOf v).toNat)
  case atStart => exact ⟨0, by omega, rfl, ⟨_, _, HA2.out⟩, HRW.out, HB2.out⟩
  case round =>
    obtain ⟨j, hj, rfl, ⟨vl, vs, hA⟩, hrw, hb⟩ := hrel
    by_cases hlt : j < q
    · have hlt2 : (j : Int) < (q : Int) := by omega
      have HX : Hid (ch[j]? = some (ch.getD j 0)) := hid (getD_at (by rw [HQ.out]; exact hlt))
      obtain ⟨ad', cap', e', _, hcc⟩ := hrw.now
      injection e' with e1 e2 e3
      subst e1
      clear e2 e3
      obtain ⟨a, rfl, hcj⟩ := hcc j (by rw [HQ.out]; exact hlt)
      have hkk := HQM.out _ (List.mem_of_getElem? HX.out)
      have HTL : Hid (∀ k : Nat, ch.getD j 0 = (k : Int) → lexUp ls (ch.take (j + 1)) = lexUp ls (ch.take j) ++ (ls.getD k nilLocale).lex ∧ stylesUp ls (ch.take (j + 1)) = stylesUp ls (ch.take j) ++ (ls.getD k nilLocale).styles) := hid (fun k e => by rw [List.take_add_one, HX.out, e]; constructor <;> simp [lexUp, stylesUp])
      generalize ch.getD j 0 = kz at *
      obtain ⟨k, rfl⟩ : ∃ k : Nat, kz = (k : Int) := ⟨kz.toNat, by omega⟩
      have HTK := hid (HTL.out k rfl)
      clear HTL
      have hkn : k < n := by omega
      have hkn2 : (k : Int) < (n : Int) := by omega
      obtain ⟨g2, o2, eg, hx⟩ := HC.out k hkn
      injection eg with eg
      injection eg with eg1 eg2
      subst eg1 eg2
      obtain ⟨x0, x1, x2, c0, c1, c2, c3, c4, c5, q0, q1, q2⟩ := hx
      have d3 := (hb.cell (lt_of_cell c3)).trans c3
      have d5 := (hb.cell (lt_of_cell c5)).trans c5
      have hlb := resOf_length ls HS.out (ch.take j)
      rw [List.length_take, HQ.out] at hlb
      have hsk := HS.out.at k
      obtain ⟨ds, hds, hdc⟩ := Entries_cells q0
      have HDS := hid ((hds.on hb).on (Below.refl _ _).drew)
      have HDC := hid hdc
      have HQ2 := hid q2
      have HC5 := hid c5
      obtain ⟨adx, capx, ex, _⟩ := q0.shape
      obtain ⟨ads, caps, es, _⟩ := q2.shape
      obtain ⟨cl, hol, hnext⟩ := hA.lex
      obtain ⟨b3, f3, hgw⟩ := hA.box 3
      have HBX : Hid (wr.drew.heap[w.heap.size + 1]? = _) := hid hA.2.2.1
      obtain ⟨adl, capl, el, _⟩ := own_shape hol
      have HNX := hid hnext
      have HOL := hid (owns_below hol (Below.refl _ _).drew)
      have HB := hid hb
      have HRJ := hid hrw
      have hszb := hb.size
      generalize hlx : (lexUp ls (ch.take j)).length = nl at *
      generalize hlk : (ls.getD k nilLocale).lex.length = nx at *
      generalize hls : (ls.getD k nilLocale).styles.length = ns at *
      have HLN := hid (And.intro hlx (And.intro hlk hls))
      subst ex es el
      have b3' : wr.cell? ⟨w.heap.size + 1, 3, none⟩ = some (.slice adl nl capl) := b3
      clear b3 c0 c1 c2 c3 c4 c5 q0 q1 q2 hds hdc hnext hol hA hb hrw hlx hlk hls hcc
      go_wp2
      apply key_cut3 (F := fun (adB : Option Addr) (capB : Nat) (wB : World) => wB.ownsRow w.heap.size 46 3 (.slice adB (nl + nx) capB) (nl + nx) (cl ++ ds) ∧ wr.drew.grownBy wB (Value.slice adl nl capl).ownBlock)
      case rest =>
        intro key
        go_region_law (refine step_append_cells _ rfl (.tmp 37) (.tmp 42) 40 46 rfl (.agg #[.string ⟨#[]⟩, .int .i64 0, .int .i64 0]) 3 32 Tryz.underlying40 info_Entry rfl (by decide) (by decide) w.heap.size (.slice adl nl capl) nl cl (by simp [Act.eval]) HOL.out (.slice adx nx capx) nx ds (by simp [Act.eval]) HDS.out (by omega) hszb ?_; intro v' wB h1 h2 h3; have hk := kind_grown HOL.out h2 (by decide) HBX.out; have cB : wB.cell? ⟨w.heap.size + 1, 3, none⟩ = some (.slice adl nl capl) := (by rw [cell_of_row _ _ _ _ _ _ hk]; rfl); have fB : wB.frozen? ⟨w.heap.size + 1, 3, none⟩ = false := frozen_of_row _ _ _ _ _ hk; obtain ⟨adB, capB, eB, _⟩ := own_shape h1; subst eB; have HF := hid (And.intro h1 h2); clear h1 h2 h3 hk)
        all_goals exact key adB capB wB HF.out
      intro adB capB wB hF
      have hn3 := HNX.out wr.drew wB (.slice adB (nl + nx) capB) ds (ls.getD k nilLocale).lex (Below.refl _ _).drew (by rw [HLN.out.2.1]; exact hF.1) hF.2 ⟨HDC.out.1, HDC.out.2⟩
      have HA3 := hid hn3.1
      have HRJ3 := hid (HRJ.out.step hn3.2)
      have HB3 : Hid (Below w.heap.size w (wB.setCell ⟨w.heap.size + 1, 3, none⟩ (.slice adB (nl + nx) capB))) := hid ((HB.out.drew.grown hF.2 hszb (fun q e => (World.ownsRow.lt HOL.out q e).1)).setCell (p := ⟨w.heap.size + 1, 3, none⟩) (Nat.le_succ _) _)
      obtain ⟨w3, hw3⟩ : ∃ w3, w3 = wB.setCell ⟨w.heap.size + 1, 3, none⟩ (.slice adB (nl + nx) capB) := ⟨_, rfl⟩
      rw [← hw3] at HA3 HRJ3 HB3 ⊢
      have d5' := (HB3.out.cell (lt_of_cell HC5.out)).trans HC5.out
      clear hF hn3 hw3 HNX HOL HDS HDC HBX HRJ b3' f3 hgw d3 d5 hcj
      go_wp2
      go_loopw [51] (fun v51 ws => ∃ t : Nat, t ≤ ns ∧ v51 = .int .i64 t ∧ (∃ vs, ResAtO ws w.heap.size 0 w.heap.size (w.heap.size + 1) id pa di (lexUp ls (ch.take j) ++ (ls.getD k nilLocale).lex) [] (stylesUp ls (ch.take j) ++ (ls.getD k nilLocale).styles.take t) (.slice adB (nl + nx) capB) (.slice none 0 0) vs) ∧ Stay ws (fun W => Row W (.slice (some a) q capc) ch) ∧ Below w.heap.size w ws) (fun v _ => ns - (intOf v).toNat)
      case atStart => exact ⟨0, by omega, rfl, ⟨_, by rw [List.take_zero, List.append_nil]; exact HA3.out⟩, HRJ3.out, HB3.out⟩
      case round =>
        obtain ⟨t, ht, rfl, ⟨vs2, hA⟩, hrw, hb⟩ := hrel
        by_cases hts : t < ns
        · have hts2 : (t : Int) < (ns : Int) := by omega
          have HXS : Hid ((ls.getD k nilLocale).styles[t]? = some ((ls.getD k nilLocale).styles.getD t nilStyle)) := hid (Style_at (by rw [HLN.out.2.2]; exact hts))
          have hpl := (HXX.out (ls.getD k nilLocale) (List.mem_of_getElem? (Locale_at (by rw [HN.out]; exact hkn)))).1 _ (List.mem_of_getElem? HXS.out)
          obtain ⟨ads', caps', es', _, _, hcs⟩ := HQ2.out
          injection es' with es1 es2 es3
          subst es1
          clear es2 es3
          obtain ⟨gs, os, rfl, hx⟩ := hcs t (by rw [HLN.out.2.2]; exact hts)
          have HTS : Hid ((ls.getD k nilLocale).styles.take (t + 1) = (ls.getD k nilLocale).styles.take t ++ [(ls.getD k nilLocale).styles.getD t nilStyle]) := hid (by rw [List.take_add_one, HXS.out]; rfl)
          have hx2 := hx.on hb
          generalize (ls.getD k nilLocale).styles.getD t nilStyle = x at *
          obtain ⟨kind, parts⟩ := x
          obtain ⟨y0, m0, m1, hpa⟩ := hx2
          dsimp only at m0 m1 hpa hpl
          have HUB := hid ((up_alloc wr (.cells #[.int .i64 kind, y0] 52)).drew)
          have HCP := hid (copyStyleO w.heap.size ⟨kind, parts⟩ y0 _ (hpa.on HUB.out) hpl (Nat.le_trans hb.size HUB.out.size))
          obtain ⟨ady, capy, ey, _⟩ := hpa.shape
          generalize parts.length = ny at *
          subst ey
          unfold styleV at HCP
          obtain ⟨cs, hos, hnext⟩ := hA.sty
          obtain ⟨b5, f5, hgw⟩ := hA.box 5
          obtain ⟨adz, capz, ez, _⟩ := own_shape hos
          have hst : (stylesUp ls (ch.take j) ++ (ls.getD k nilLocale).styles.take t).length ≤ 200000 := by
            rw [List.length_append, List.length_take, HLN.out.2.2]
            omega
          have HNX := hid hnext
          have HOS := hid hos
          have HBX := hid hA.2.2.1
          have HRJ := hid hrw
          have HB := hid hb
          have hszb := hb.size
          generalize hnz : (stylesUp ls (ch.take j) ++ (ls.getD k nilLocale).styles.take t).length = nz at *
          have HNZ := hid hnz
          subst ez
          have b5' : wr.cell? ⟨w.heap.size + 1, 5, none⟩ = some (.slice adz nz capz) := b5
          have b5a := (HUB.out.cell (p := ⟨w.heap.size + 1, 5, none⟩) hgw).trans b5'
          clear b5 hx hcs hnext hos hA hb hrw hnz hpa
          go_wp2
          go_region_law (first
              | (refine step_append_cells _ rfl (.tmp 56) (.tmp 59) 42 52 rfl (.agg #[.int .i64 0, .slice none 0 0]) 2 32 Tryz.underlying42 info_Style rfl (by decide) (by decide) w.heap.size (.slice adz nz capz) nz cs (by simp [Act.eval]) HOA.out (.slice (some ⟨wA.heap.size, 0, none⟩) 1 1) 1 [.int .i64 kind, .slice adq nq capq] (by simp [Act.eval]) HLIT.out (by omega) hszA ?_; intro v' wB h1 h2 h3; have hk := kind_grown HOA.out h2 (by decide) HBXA.out; have cB : wB.cell? ⟨w.heap.size + 1, 5, none⟩ = some (.slice adz nz capz) := (by rw [cell_of_row _ _ _ _ _ _ hk]; rfl); have fB : wB.frozen? ⟨w.heap.size + 1, 5, none⟩ = false := frozen_of_row _ _ _ _ _ hk; obtain ⟨adB, capB, eB, _⟩ := own_shape h1; subst eB; have HF := hid (And.intro h1 h2); clear h1 h2 h3 hk)
              | (go_simp; go_at_call 85; refine HCP.out.mono ?_; rintro e wA ⟨v', rfl, hSA, hbA⟩; obtain ⟨adq, capq, eq, _⟩ := hSA.now.shape; generalize parts.length = nq at eq; subst eq; have HBA := hid (up_trans HUB.out hbA); have b5b := (HBA.out.cell (p := ⟨w.heap.size + 1, 5, none⟩) hgw).trans b5'; have HUA := hid (up_trans HBA.out (up_alloc wA (.cells #[.int .i64 kind, .slice adq nq capq] 52))); have b5c := (HUA.out.cell (p := ⟨w.heap.size + 1, 5, none⟩) hgw).trans b5'; have HSA := hid (hSA.step (Keep.up (up_alloc wA (.cells #[.int .i64 kind, .slice adq nq capq] 52)))); have HOA := hid (owns_below HOS.out HUA.out); have HBXA := hid ((HUA.out.block _ hgw).trans HBX.out); have HLIT := hid (cells_lit wA 52 [.int .i64 kind, .slice adq nq capq] #[.int .i64 kind, .slice adq nq capq] rfl _ 1 2 rfl rfl (by intro u hu; simp at hu; rcases hu with rfl | rfl <;> rfl)); have hszA : w.heap.size ≤ (wA.alloc (.cells #[.int .i64 kind, .slice adq nq capq] 52)).heap.size := (by have := HUA.out.size; omega); clear hSA hbA))
          all_goals
            have hn3 := HNX.out _ wB (.slice adB (nz + 1) capB) [.int .i64 kind, .slice adq nq capq] [⟨kind, parts⟩] HUA.out HF.out.1 HF.out.2 (fun W kk => StyleO.one W ⟨kind, parts⟩ (.slice adq nq capq) (HSA.out W kk) rfl)
            have HA4 := hid hn3.1
            have HRJ4 := hid (HRJ.out.step hn3.2)
            have HB4 : Hid (Below w.heap.size w (wB.setCell ⟨w.heap.size + 1, 5, none⟩ (.slice adB (nz + 1) capB))) := hid (((up_trans HB.out HUA.out).grown HF.out.2 hszA (fun q e => (World.ownsRow.lt HOS.out q e).1)).setCell (p := ⟨w.heap.size + 1, 5, none⟩) (Nat.le_succ _) _)
            obtain ⟨w4, hw4⟩ : ∃ w4, w4 = wB.setCell ⟨w.heap.size + 1, 5, none⟩ (.slice adB (nz + 1) capB) := ⟨_, rfl⟩
            rw [← hw4] at HA4 HRJ4 HB4 ⊢
            clear hn3 hw4 HNX HOS HBX HRJ HB HCP HUB b5' b5a f5 hgw b5b b5c HSA HOA HBXA HLIT HF cB fB
            go_wp2
            go_roundw
            case rel => exact ⟨t + 1, by omega, by simp, ⟨_, by rw [HTS.out, ← List.append_assoc]; exact HA4.out⟩, HRJ4.out, HB4.out⟩
            case measure => simp [intOf]; omega
        · obtain rfl : t = ns := by omega
          have hT : (ls.getD k nilLocale).styles.take t = (ls.getD k nilLocale).styles := List.take_of_length_le (by rw [HLN.out.2.2]; exact Nat.le_refl _)
          rw [hT] at hA
          have HA5 := hid hA
          have HRJ5 := hid hrw
          have HB5 := hid hb
          clear hA hrw hb
          go_wp2
          go_roundw
          case rel => exact ⟨j + 1, by omega, by simp, ⟨_, _, by rw [HTK.out.1, HTK.out.2]; exact HA5.out⟩, HRJ5.out, HB5.out⟩
          case measure => simp [intOf]; omega
    · obtain rfl : j = q := by omega
      rw [List.take_of_length_le (by rw [HQ.out]; exact Nat.le_refl _)] at hA
      have HA := hid hA
      have HB := hid hb
      clear hA hb hrw
      go_wp2_with fail
      refine (HRU.out wr HB.out).mono ?_
      rintro e w5 ⟨rv, cR, rfl, hRV, hRC, hnr, hb5⟩
      obtain ⟨B5, hB5⟩ : ∃ B5, B5 = wr.heap.size := ⟨_, rfl⟩
      rw [← hB5] at hRV
      clear hB5
      have HRC := hid hRC
      have hsz5 := hb5.size
      have HB5 := hid (up_trans HB.out hb5)
      have hw5 := HB5.out.size
      have HA5 : Hid (ResAtO w5 w.heap.size w5.heap.size w.heap.size (w.heap.size + 1) id pa di (lexUp ls ch) [] (stylesUp ls ch) vl (.slice none 0 0) vs) := hid (by
        obtain ⟨p0, p1, p2, p3, _, p5⟩ := HA.out.on hb5
        exact ⟨p0, p1, p2, p3, ⟨[], World.ownsRow_nil _ _ _ _, Stay.all fun W => RuleO.nil _ W⟩, p5⟩)
      have HRV := hid hRV
      have HRX := hid (fun r (hr : r ∈ rulesOf ls i) => (show r.rhs.length ≤ 100000 ∧ r.p.length ≤ 100000 from by
        obtain ⟨kz, hk1, hk2⟩ := List.mem_flatMap.1 hr
        by_cases hlt' : kz.toNat < ls.length
        · exact (HXX.out _ (List.mem_of_getElem? (Locale_at hlt'))).2 r hk2
        · rw [List.getD_eq_getElem?_getD, List.getElem?_eq_none (by omega)] at hk2
          cases hk2))
      generalize rulesOf ls i = rs at *
      obtain ⟨adr, capr, er, _⟩ := own_shape hRV
      generalize hrn : rs.length = nr at *
      have HNR := hid hrn
      subst er
      clear hRV hRC hb5 hrn HA HB HRU
      go_wp2
      go_loopw [68] (fun v68 ws => ∃ t : Nat, t ≤ nr ∧ v68 = .int .i64 t ∧ (∃ vr, ResAtO ws w.heap.size w5.heap.size w.heap.size (w.heap.size + 1) id pa di (lexUp ls ch) (rs.take t) (stylesUp ls ch) vl vr vs) ∧ ws.ownsRow B5 56 5 (.slice adr nr capr) nr cR ∧ Below w.heap.size w ws ∧ w5.heap.size ≤ ws.heap.size) (fun v _ => nr - (intOf v).toNat)
      case atStart => exact ⟨0, by omega, rfl, ⟨_, by rw [List.take_zero]; exact HA5.out⟩, HRV.out, HB5.out, Nat.le_refl _⟩
      case round =>
        obtain ⟨t, ht, rfl, ⟨vr, hA⟩, hrv, hb, hsz⟩ := hrel
        by_cases hts : t < nr
        · have hts2 : (t : Int) < (nr : Int) := by omega
          have HXS : Hid (rs[t]? = some (rs.getD t nilRule)) := hid (rule_at (by rw [HNR.out]; exact hts))
          have hpl := HRX.out _ (List.mem_of_getElem? HXS.out)
          have hx := HRC.out.2 t _ HXS.out
          have HTS : Hid (rs.take (t + 1) = rs.take t ++ [rs.getD t nilRule]) := hid (by rw [List.take_add_one, HXS.out]; rfl)
          generalize rs.getD t nilRule = x at *
          obtain ⟨lhs, rhs, op, pp, cost⟩ := x
          obtain ⟨y0, y1, m0, m1, m2, m3, m4, hr0, hr1, _, _⟩ := hx
          dsimp only at m0 m1 m2 m3 m4 hr0 hr1 hpl
          have hr0' := hr0.on hb
          have hr1' := hr1.on hb
          have HRV3 := hid hrv
          obtain ⟨gq, capq0, eq, hwq, _, hcq⟩ := own_at hrv (by omega)
          injection eq with eq1 eq2 eq3
          subst eq1 eq3
          clear eq2
          have n0 := hcq _ _ m0
          have n1 := hcq _ _ m1
          have n2 := hcq _ _ m2
          have n3 := hcq _ _ m3
          have n4 := hcq _ _ m4
          rw [Nat.add_zero] at n0
          have HUB := hid ((up_alloc wr (.cells #[.int .i64 lhs, y0, .int .i64 op, y1, .int .i64 cost] 56)).drew)
          have HCP := hid (copyRuleO w.heap.size ⟨lhs, rhs, op, pp, cost⟩ y0 y1 _ (hr0'.on HUB.out) (hr1'.on HUB.out) hpl.1 hpl.2 (Nat.le_trans hb.size HUB.out.size))
          obtain ⟨ady0, capy0, ey0, _⟩ := hr0'
          obtain ⟨ady1, capy1, ey1, _⟩ := hr1'
          generalize rhs.length = ny0 at *
          generalize pp.length = ny1 at *
          subst ey0 ey1
          unfold ruleV at HCP
          obtain ⟨cr, hos, hnext⟩ := hA.rul
          obtain ⟨b4, f4, hgw⟩ := hA.box 4
          obtain ⟨adz, capz, ez, _⟩ := own_shape hos
          have hst : (rs.take t).length ≤ 100000 := by
            rw [List.length_take, HNR.out]
            omega
          have HNX := hid hnext
          have HOS := hid hos
          have HBX := hid hA.2.2.1
          have HB := hid hb
          have hszb := hb.size
          have hqlt := (World.ownsRow.lt HRV.out gq rfl).2
          have HNE : Hid (∀ kk, (Value.slice adz (rs.take t).length capz).ownBlock = some kk → w5.heap.size ≤ kk) := hid (fun kk e => by subst ez; exact (World.ownsRow.lt hos kk e).1)
          generalize hnz : (rs.take t).length = nz at *
          have HNZ := hid hnz
          subst ez
          have b4' : wr.cell? ⟨w.heap.size + 1, 4, none⟩ = some (.slice adz nz capz) := b4
          have b4a := (HUB.out.cell (p := ⟨w.heap.size + 1, 4, none⟩) hgw).trans b4'
          clear b4 hcq hnext hos hA hb hnz hr0 hr1 m0 m1 m2 m3 m4 hrv
          go_wp2
          go_region_law (first
              | (refine step_append_cells _ rfl (.tmp 73) (.tmp 76) 41 56 rfl (.agg #[.int .i64 0, .slice none 0 0, .int .i64 0, .slice none 0 0, .int .i64 0]) 5 72 Tryz.underlying41 info_Rule rfl (by decide) (by decide) w5.heap.size (.slice adz nz capz) nz cr (by simp [Act.eval]) HOA.out (.slice (some ⟨wA.heap.size, 0, none⟩) 1 1) 1 [.int .i64 lhs, .slice adq0 nq0 capq0, .int .i64 op, .slice adq1 nq1 capq1, .int .i64 cost] (by simp [Act.eval]) HLIT.out (by omega) hszA ?_; intro v' wB h1 h2 h3; have hk := kind_grown HOA.out h2 (by decide) HBXA.out; have cB : wB.cell? ⟨w.heap.size + 1, 4, none⟩ = some (.slice adz nz capz) := (by rw [cell_of_row _ _ _ _ _ _ hk]; rfl); have fB : wB.frozen? ⟨w.heap.size + 1, 4, none⟩ = false := frozen_of_row _ _ _ _ _ hk; obtain ⟨adB, capB, eB, _⟩ := own_shape h1; subst eB; have HF := hid (And.intro h1 (And.intro h2 hk)); clear h1 h2 h3 hk)
              | (go_simp; go_at_call 86; refine HCP.out.mono ?_; rintro e wA ⟨v', v'', rfl, hSA, hSB, hbA⟩; obtain ⟨adq0, capq0, eq0, _⟩ := RowO.shape hSA.now; obtain ⟨adq1, capq1, eq1, _⟩ := RowO.shape hSB.now; generalize rhs.length = nq0 at eq0; generalize pp.length = nq1 at eq1; subst eq0 eq1; have HBA := hid (up_trans HUB.out hbA); have b4b := (HBA.out.cell (p := ⟨w.heap.size + 1, 4, none⟩) hgw).trans b4'; have HUA := hid (up_trans HBA.out (up_alloc wA (.cells #[.int .i64 lhs, .slice adq0 nq0 capq0, .int .i64 op, .slice adq1 nq1 capq1, .int .i64 cost] 56))); have b4c := (HUA.out.cell (p := ⟨w.heap.size + 1, 4, none⟩) hgw).trans b4'; have HSA := hid (hSA.step (Keep.up (up_alloc wA (.cells #[.int .i64 lhs, .slice adq0 nq0 capq0, .int .i64 op, .slice adq1 nq1 capq1, .int .i64 cost] 56)))); have HSB := hid (hSB.step (Keep.up (up_alloc wA (.cells #[.int .i64 lhs, .slice adq0 nq0 capq0, .int .i64 op, .slice adq1 nq1 capq1, .int .i64 cost] 56)))); have HOA := hid (owns_below HOS.out HUA.out); have HBXA := hid ((HUA.out.block _ hgw).trans HBX.out); have HLIT := hid (cells_lit wA 56 [.int .i64 lhs, .slice adq0 nq0 capq0, .int .i64 op, .slice adq1 nq1 capq1, .int .i64 cost] #[.int .i64 lhs, .slice adq0 nq0 capq0, .int .i64 op, .slice adq1 nq1 capq1, .int .i64 cost] rfl _ 1 5 rfl rfl (by intro u hu; simp at hu; rcases hu with rfl | rfl | rfl | rfl | rfl <;> rfl)); have hszA : w5.heap.size ≤ (wA.alloc (.cells #[.int .i64 lhs, .slice adq0 nq0 capq0, .int .i64 op, .slice adq1 nq1 capq1, .int .i64 cost] 56)).heap.size := Nat.le_trans hsz HUA.out.size; clear hSA hSB hbA))
          all_goals
            have hn3 := HNX.out _ wB (.slice adB (nz + 1) capB) [.int .i64 lhs, .slice adq0 nq0 capq0, .int .i64 op, .slice adq1 nq1 capq1, .int .i64 cost] [⟨lhs, rhs, op, pp, cost⟩] HUA.out HF.out.1 HF.out.2.1 (fun W kk => RuleO.one W ⟨lhs, rhs, op, pp, cost⟩ (.slice adq0 nq0 capq0) (.slice adq1 nq1 capq1) (HSA.out W kk) (HSB.out W kk) rfl rfl)
            have HA4 := hid hn3.1
            have HRV4 : Hid ((wB.setCell ⟨w.heap.size + 1, 4, none⟩ (.slice adB (nz + 1) capB)).ownsRow B5 56 5 (.slice (some ⟨gq, 0, none⟩) nr capr) nr cR) := hid (own_set ((owns_below HRV3.out HUA.out).kept HF.out.2.1 (.inr (fun e => by have := HNE.out gq e.symm; omega))) HF.out.2.2 (by decide))
            have HB4 : Hid (Below w.heap.size w (wB.setCell ⟨w.heap.size + 1, 4, none⟩ (.slice adB (nz + 1) capB))) := hid (((up_trans HB.out HUA.out).grown HF.out.2.1 (Nat.le_trans hw5 hszA) (fun q e => Nat.le_trans hw5 (HNE.out q e))).setCell (p := ⟨w.heap.size + 1, 4, none⟩) (Nat.le_succ _) _)
            have hsz4 : w5.heap.size ≤ (wB.setCell ⟨w.heap.size + 1, 4, none⟩ (.slice adB (nz + 1) capB)).heap.size := by have := HF.out.2.1.size; simp [World.setCell] at this ⊢; simp at hszA; omega
            obtain ⟨w4, hw4⟩ : ∃ w4, w4 = wB.setCell ⟨w.heap.size + 1, 4, none⟩ (.slice adB (nz + 1) capB) := ⟨_, rfl⟩
            rw [← hw4] at HA4 HRV4 HB4 hsz4 ⊢
            clear hn3 hw4 HNX HOS HBX HB HCP HUB b4' b4a f4 hgw b4b b4c HSA HSB HOA HBXA HLIT HF cB fB n0 n1 n2 n3 n4
            go_wp2
            go_roundw
            case rel => exact ⟨t + 1, by omega, by simp, ⟨_, by rw [HTS.out]; exact HA4.out⟩, HRV4.out, HB4.out, hsz4⟩
            case measure => simp [intOf]; omega
        · obtain rfl : t = nr := by omega
          have hT : rs.take t = rs := List.take_of_length_le (by rw [HNR.out]; exact Nat.le_refl _)
          rw [hT] at hA
          have hlb := resOf_length ls HS.out ch
          rw [HQ.out] at hlb
          have HLB : Hid ((lexUp ls ch).length ≤ 1000000 ∧ (stylesUp ls ch).length ≤ 1000000) := hid ⟨by omega, by omega⟩
          obtain ⟨p0, p1, p2, ⟨cl, p3, p3'⟩, ⟨cr, p4, p4'⟩, ⟨cs, p5, p5'⟩⟩ := hA
          have hz0 := (own_shape p3)
          have hz1 := (own_shape p4)
          have hz2 := (own_shape p5)
          obtain ⟨ada, capa, ea, _⟩ := hz0
          obtain ⟨adb, capb, eb, _⟩ := hz1
          obtain ⟨adc2, capc2, ec2, _⟩ := hz2
          have HK1 := hid p1
          have HK := hid (And.intro p3 (And.intro p4 (And.intro p5 (And.intro p3' (And.intro p4' p5')))))
          have HB := hid hb
          have hgne : w.heap.size ≠ w.heap.size + 1 := by omega
          generalize hn0 : (lexUp ls ch).length = l0 at ea
          generalize hn1 : rs.length = l1 at eb
          generalize hn2 : (stylesUp ls ch).length = l2 at ec2
          subst ea eb ec2
          have b0 : wr.cell? ⟨w.heap.size + 1, 0, none⟩ = some (.string id) := by rw [cell_of_row _ _ _ _ _ _ p2]; rfl
          have b1 : wr.cell? ⟨w.heap.size + 1, 1, none⟩ = some (.int .i64 pa) := by rw [cell_of_row _ _ _ _ _ _ p2]; rfl
          have b2 : wr.cell? ⟨w.heap.size + 1, 2, none⟩ = some (.int .i64 di) := by rw [cell_of_row _ _ _ _ _ _ p2]; rfl
          have b3 : wr.cell? ⟨w.heap.size + 1, 3, none⟩ = some (.slice ada l0 capa) := by rw [cell_of_row _ _ _ _ _ _ p2]; rfl
          have b4 : wr.cell? ⟨w.heap.size + 1, 4, none⟩ = some (.slice adb l1 capb) := by rw [cell_of_row _ _ _ _ _ _ p2]; rfl
          have b5 : wr.cell? ⟨w.heap.size + 1, 5, none⟩ = some (.slice adc2 l2 capc2) := by rw [cell_of_row _ _ _ _ _ _ p2]; rfl
          have z0 : wr.cell? ⟨w.heap.size, 0, none⟩ = some (.string ⟨#[]⟩) := by rw [cell_of_row _ _ _ _ _ _ p1]; rfl
          have z1 : wr.cell? ⟨w.heap.size, 1, none⟩ = some (.int .i64 0) := by rw [cell_of_row _ _ _ _ _ _ p1]; rfl
          have z2 : wr.cell? ⟨w.heap.size, 2, none⟩ = some (.int .i64 0) := by rw [cell_of_row _ _ _ _ _ _ p1]; rfl
          have z3 : wr.cell? ⟨w.heap.size, 3, none⟩ = some (.slice none 0 0) := by rw [cell_of_row _ _ _ _ _ _ p1]; rfl
          have z4 : wr.cell? ⟨w.heap.size, 4, none⟩ = some (.slice none 0 0) := by rw [cell_of_row _ _ _ _ _ _ p1]; rfl
          have z5 : wr.cell? ⟨w.heap.size, 5, none⟩ = some (.slice none 0 0) := by rw [cell_of_row _ _ _ _ _ _ p1]; rfl
          have y0 : wr.frozen? ⟨w.heap.size, 0, none⟩ = false := frozen_of_row _ _ _ _ _ p1
          have y1 : wr.frozen? ⟨w.heap.size, 1, none⟩ = false := frozen_of_row _ _ _ _ _ p1
          have y2 : wr.frozen? ⟨w.heap.size, 2, none⟩ = false := frozen_of_row _ _ _ _ _ p1
          have y3 : wr.frozen? ⟨w.heap.size, 3, none⟩ = false := frozen_of_row _ _ _ _ _ p1
          have y4 : wr.frozen? ⟨w.heap.size, 4, none⟩ = false := frozen_of_row _ _ _ _ _ p1
          have y5 : wr.frozen? ⟨w.heap.size, 5, none⟩ = false := frozen_of_row _ _ _ _ _ p1
          clear p0 p1 p2 p3 p3' p4 p4' p5 p5' hb hrv hT hn0 hn1 hn2
          go_wp2
          refine bodyPost_ret (v := localeV ⟨id, pa, di, lexUp ls ch, rs, stylesUp ls ch⟩ (.slice ada l0 capa) (.slice adb l1 capb) (.slice adc2 l2 capc2)) (results_cell_row rfl _ _ w.heap.size 44 _ (0, 0) _ rfl (set6_heap HK1.out _ _ _ _ _ _) Tryz.underlying44 rfl (by kernel_rfl)) rfl ?_
          have hg := grown_all [.string id, .int .i64 pa, .int .i64 di, .slice ada l0 capa, .slice adb l1 capb, .slice adc2 l2 capc2] wr w.heap.size 0
          have hk := KeepL.put HK1.out hg
          refine ⟨_, _, _, by rw [HRES.out], fun W kW => ?_, below_set6 HB.out (Nat.le_refl _) _ _ _ _ _ _⟩
          have hW := hk.trans kW
          rw [HRES.out]
          exact ⟨⟨_, own_keepL HK.out.1 (by decide) hW, HK.out.2.2.2.1.1, HK.out.2.2.2.1.2⟩, ⟨_, own_base (own_keepL HK.out.2.1 (by decide) hW) hw5, HK.out.2.2.2.2.1 _ hW.keep⟩, ⟨_, own_keepL HK.out.2.2.1 (by decide) hW, HK.out.2.2.2.2.2 _ hW.keep⟩⟩

end Go.Proofs.YtohgaknojkdohaaGreatDoor

/- A name, resolved: what blob's Resolve answers, once more: whose the rows are. -/
namespace Go.Proofs.YtohgaknojkdohaaGreatDoor
open Go.RowKit Gr

theorem RowO.base {B B' : Nat} {W : World} {v : Value} {xs : List Int} (h : RowO B W v xs) (hb : B' ≤ B) : RowO B' W v xs := ⟨h.1, own_base h.2 hb⟩
theorem PartO.base {B B' : Nat} {W : World} {v : Value} {xs : List Part} (h : PartO B W v xs) (hb : B' ≤ B) : PartO B' W v xs := by
  obtain ⟨h1, cs, h2, h3⟩ := h
  exact ⟨h1, cs, own_base h2 hb, h3⟩
theorem LocaleO.base {B B' : Nat} {W : World} {x : Locale} {v0 v1 v2 : Value} (h : LocaleO B W x v0 v1 v2) (hb : B' ≤ B) : LocaleO B' W x v0 v1 v2 := by
  obtain ⟨⟨cl, h1, h2⟩, ⟨cr, h3, h4, h5⟩, ⟨cs, h6, h7, h8⟩⟩ := h
  refine ⟨⟨cl, own_base h1 hb, h2⟩, ⟨cr, own_base h3 hb, h4, fun j x hx => ?_⟩, ⟨cs, own_base h6 hb, h7, fun j x hx => ?_⟩⟩
  · obtain ⟨v0, v1, a, b, c, d⟩ := h5 j x hx
    exact ⟨v0, v1, a, b, c.base hb, d.base hb⟩
  · obtain ⟨v0, a, b⟩ := h8 j x hx
    exact ⟨v0, a, b.base hb⟩

/-- What Resolve leaves. -/
def ResolvedO (w : World) (ls : List Locale) (id : ByteArray) (e : Ending) (w' : World) : Prop :=
  Below w.heap.size w w' ∧ ((rightL ls = true ∧ ∃ i, i < ls.length ∧ (ls.getD i nilLocale).id = id ∧ (∀ j, j < i → (ls.getD j nilLocale).id ≠ id) ∧ ∃ v0 v1 v2, e = .returned (.tuple #[localeV (resOf ls i) v0 v1 v2, .bool true]) ∧ Stl w' (fun W => LocaleO w.heap.size W (resOf ls i) v0 v1 v2)) ∨
    ((rightL ls = false ∨ ∀ x ∈ ls, x.id ≠ id) ∧ e = .returned (.tuple #[localeV nilLocale (.slice none 0 0) (.slice none 0 0) (.slice none 0 0), .bool false])))

set_option maxRecDepth 8000 in
theorem ResolveO_any (ls : List Locale) (id : ByteArray) (v : Value) (w : World) (hl : LocalesAt w v ls) (hS : Small ls) (hT : Tabs w) (hX : ∀ x ∈ ls, (∀ s ∈ x.styles, s.parts.length ≤ 100000) ∧ (∀ r ∈ x.rules, r.rhs.length ≤ 100000 ∧ r.p.length ≤ 100000)) :
    Calls Tryz.prog 23 #[v, .string id] w (ResolvedO w ls id) := by
  have HL := hid hl
  have HU := hid (((Below.refl w.heap.size w).alloc (Nat.le_refl _) (.cells #[.string id] 9)).alloc (by simp) (.cells #[.string ⟨#[]⟩, .int .i64 0, .int .i64 0, .slice none 0 0, .slice none 0 0, .slice none 0 0] 44))
  have HR := hid (bright_any ls v _ (hl.on HU.out) hS (hT.on HU.out))
  have HX0 := hid (row_new w (.cells #[.string id] 9))
  have HX1 := hid (row_new' (w.alloc (.cells #[.string id] 9)) (.cells #[.string ⟨#[]⟩, .int .i64 0, .int .i64 0, .slice none 0 0, .slice none 0 0, .slice none 0 0] 44) (w.heap.size + 1) (by simp))
  have HS := hid hS
  have HXX := hid hX
  have hmf : ∀ (fn : Fn) (first cap : Array Value) (w : World), (Instr.makeFunc fn first cap).run Tryz.prog w = .ok (.func fn first cap) w := fun _ _ _ _ => rfl
  obtain ⟨ad, cap, ev, hm⟩ := hl.shape
  generalize hn : ls.length = n at *
  have HN := hid hn
  subst ev
  clear hl hS hT hX hn
  go_enter Tryz.func23, Tryz.ntmps23
  go_wp2_with fail
  refine HR.out.mono ?_
  rintro e w1 ⟨rfl, hb⟩
  have HB1 := hid (up_trans HU.out hb)
  have k0 := ((hb.block w.heap.size (by simp; omega)).trans (Below.heap_alloc _ _ _ (by simp))).trans HX0.out
  have k1 := (hb.block (w.heap.size + 1) (by simp)).trans HX1.out
  have HK0 := hid k0
  have HK1 := hid k1
  have hs1 : w.heap.size + 1 < w1.heap.size := (Array.getElem?_eq_some_iff.1 k1).1
  have a0 : w1.cell? ⟨w.heap.size, 0, none⟩ = some (.string id) := by rw [cell_of_row _ _ _ _ _ _ k0]; rfl
  clear hb k0 k1 HR HX0 HX1
  cases hi : rightL ls with
  | false =>
    have d0 : w1.cell? ⟨w.heap.size + 1, 0, none⟩ = some (.string ⟨#[]⟩) := by rw [cell_of_row _ _ _ _ _ _ HK1.out]; rfl
    have d1 : w1.cell? ⟨w.heap.size + 1, 1, none⟩ = some (.int .i64 0) := by rw [cell_of_row _ _ _ _ _ _ HK1.out]; rfl
    have d2 : w1.cell? ⟨w.heap.size + 1, 2, none⟩ = some (.int .i64 0) := by rw [cell_of_row _ _ _ _ _ _ HK1.out]; rfl
    have d3 : w1.cell? ⟨w.heap.size + 1, 3, none⟩ = some (.slice none 0 0) := by rw [cell_of_row _ _ _ _ _ _ HK1.out]; rfl
    have d4 : w1.cell? ⟨w.heap.size + 1, 4, none⟩ = some (.slice none 0 0) := by rw [cell_of_row _ _ _ _ _ _ HK1.out]; rfl
    have d5 : w1.cell? ⟨w.heap.size + 1, 5, none⟩ = some (.slice none 0 0) := by rw [cell_of_row _ _ _ _ _ _ HK1.out]; rfl
    have g0 : ∀ c, w1.frozen? ⟨w.heap.size + 1, c, none⟩ = false := fun c => frozen_of_row _ _ _ _ _ HK1.out
    go_wp2
    refine bodyPost_ret (results_cell_tmp rfl _ _ (w.heap.size + 1) _ rfl (run_loadVar_row _ _ 44 44 _ (0, 0) _ (set6_heap HK1.out _ _ _ _ _ _) Tryz.underlying44 rfl (by kernel_rfl))) rfl ?_
    exact ⟨below_set6 HB1.out (Nat.le_succ _) _ _ _ _ _ _, .inr ⟨.inl hi, rfl⟩⟩
  | true =>
    have hl10 := rightL_length hi
    have hpar := rightL_par hi
    have HI := hid (index_id w.heap.size id ls _ w1 a0 (HL.out.on HB1.out))
    go_wp2_with fail
    refine HI.out.mono ?_
    rintro e w2 ⟨k, rfl, hF, hb⟩
    have HB2 := hid (up_trans HB1.out hb)
    have HK2 := hid ((hb.block _ hs1).trans HK1.out)
    clear hb HI
    rcases hF with ⟨rfl, hno⟩ | ⟨i, rfl, hin, hid', hfirst⟩
    · have d0 : w2.cell? ⟨w.heap.size + 1, 0, none⟩ = some (.string ⟨#[]⟩) := by rw [cell_of_row _ _ _ _ _ _ HK2.out]; rfl
      have d1 : w2.cell? ⟨w.heap.size + 1, 1, none⟩ = some (.int .i64 0) := by rw [cell_of_row _ _ _ _ _ _ HK2.out]; rfl
      have d2 : w2.cell? ⟨w.heap.size + 1, 2, none⟩ = some (.int .i64 0) := by rw [cell_of_row _ _ _ _ _ _ HK2.out]; rfl
      have d3 : w2.cell? ⟨w.heap.size + 1, 3, none⟩ = some (.slice none 0 0) := by rw [cell_of_row _ _ _ _ _ _ HK2.out]; rfl
      have d4 : w2.cell? ⟨w.heap.size + 1, 4, none⟩ = some (.slice none 0 0) := by rw [cell_of_row _ _ _ _ _ _ HK2.out]; rfl
      have d5 : w2.cell? ⟨w.heap.size + 1, 5, none⟩ = some (.slice none 0 0) := by rw [cell_of_row _ _ _ _ _ _ HK2.out]; rfl
      have g0 : ∀ c, w2.frozen? ⟨w.heap.size + 1, c, none⟩ = false := fun c => frozen_of_row _ _ _ _ _ HK2.out
      have HNO := hid hno
      clear hno
      go_wp2
      refine bodyPost_ret (results_cell_tmp rfl _ _ (w.heap.size + 1) _ rfl (run_loadVar_row _ _ 44 44 _ (0, 0) _ (set6_heap HK2.out _ _ _ _ _ _) Tryz.underlying44 rfl (by kernel_rfl))) rfl ?_
      exact ⟨below_set6 HB2.out (Nat.le_succ _) _ _ _ _ _ _, .inr ⟨.inr HNO.out, rfl⟩⟩
    · have hpi : Par ls i := fun j hj => hpar j (by omega)
      have HF := hid (And.intro hin (And.intro hid' hfirst))
      have HRE := hid (resolveO_any ls _ i w2 (HL.out.on HB2.out) hin (by omega) hpi HS.out HXX.out)
      have HRI := hid hi
      clear hin hid' hfirst hpi hpar hi
      go_wp2_with fail
      refine HRE.out.mono ?_
      rintro e w3 ⟨v0, v1, v2, rfl, hA, hb⟩
      have HB3 := hid (up_trans HB2.out hb)
      have hs2 : w.heap.size + 1 < w2.heap.size := (Array.getElem?_eq_some_iff.1 HK2.out).1
      have HK3 := hid ((hb.block _ hs2).trans HK2.out)
      replace hA : Stl w3 (fun W => LocaleO w.heap.size W (resOf ls i) v0 v1 v2) := fun W k => (hA W k).base (HB2.out.size)
      have HA := hid hA
      obtain ⟨ad0, cap0, e0, _⟩ := own_shape hA.now.1.choose_spec.1
      obtain ⟨ad1, cap1, e1, _⟩ := own_shape hA.now.2.1.choose_spec.1
      obtain ⟨ad2, cap2, e2, _⟩ := own_shape hA.now.2.2.choose_spec.1
      have d0 : w3.cell? ⟨w.heap.size + 1, 0, none⟩ = some (.string ⟨#[]⟩) := by rw [cell_of_row _ _ _ _ _ _ HK3.out]; rfl
      have d1 : w3.cell? ⟨w.heap.size + 1, 1, none⟩ = some (.int .i64 0) := by rw [cell_of_row _ _ _ _ _ _ HK3.out]; rfl
      have d2 : w3.cell? ⟨w.heap.size + 1, 2, none⟩ = some (.int .i64 0) := by rw [cell_of_row _ _ _ _ _ _ HK3.out]; rfl
      have d3 : w3.cell? ⟨w.heap.size + 1, 3, none⟩ = some (.slice none 0 0) := by rw [cell_of_row _ _ _ _ _ _ HK3.out]; rfl
      have d4 : w3.cell? ⟨w.heap.size + 1, 4, none⟩ = some (.slice none 0 0) := by rw [cell_of_row _ _ _ _ _ _ HK3.out]; rfl
      have d5 : w3.cell? ⟨w.heap.size + 1, 5, none⟩ = some (.slice none 0 0) := by rw [cell_of_row _ _ _ _ _ _ HK3.out]; rfl
      have g0 : ∀ c, w3.frozen? ⟨w.heap.size + 1, c, none⟩ = false := fun c => frozen_of_row _ _ _ _ _ HK3.out
      obtain ⟨y, hy⟩ : ∃ y, y = resOf ls i := ⟨_, rfl⟩
      have HY := hid hy
      rw [← hy] at HA e0 e1 e2 ⊢
      obtain ⟨yid, ypa, ydi, ylx, yrl, yst⟩ := y
      dsimp only at e0 e1 e2
      unfold localeV
      dsimp only
      generalize ylx.length = l0 at e0
      generalize yrl.length = l1 at e1
      generalize yst.length = l2 at e2
      subst e0 e1 e2
      clear hy hA hb
      go_wp2
      refine bodyPost_ret (results_cell_tmp rfl _ _ (w.heap.size + 1) _ rfl (run_loadVar_row _ _ 44 44 _ (0, 0) _ (set6_heap HK3.out _ _ _ _ _ _) Tryz.underlying44 rfl (by kernel_rfl))) rfl ?_
      have hg := grown_all [.string yid, .int .i64 ypa, .int .i64 ydi, .slice ad0 l0 cap0, .slice ad1 l1 cap1, .slice ad2 l2 cap2] w3 (w.heap.size + 1) 0
      exact ⟨below_set6 HB3.out (Nat.le_succ _) _ _ _ _ _ _, .inl ⟨HRI.out, i, HF.out.1, HF.out.2.1, HF.out.2.2, .slice ad0 l0 cap0, .slice ad1 l1 cap1, .slice ad2 l2 cap2, by rw [← HY.out]; rfl, by rw [← HY.out]; exact HA.out.step (KeepL.put HK3.out hg)⟩⟩

end Go.Proofs.YtohgaknojkdohaaGreatDoor

/- What may be written of what was resolved: rows of the call's own; where their cells lie. -/
namespace Go.Proofs.YtohgaknojkdohaaGreatDoor
open Go.RowKit Gr

/-- Cells that are written: all of words, numbers, parts; of rules the costs. -/
def Touch (t : TypeId) (q : Nat) : Prop := t = 46 ∨ (t = 56 ∧ q % 5 = 4) ∨ t = 3 ∨ t = 48
/-- Below B nothing has turned; above, only such cells. -/
structure Rel (B : Nat) (w W : World) : Prop where
  below : Below B w W
  row : ∀ (k : Nat) (cs : Array Value) (t : TypeId), w.heap[k]? = some (Obj.cells cs t (0, 0)) → ∃ cs', W.heap[k]? = some (Obj.cells cs' t (0, 0)) ∧ cs'.size = cs.size ∧ ∀ q, ¬ Touch t q → cs'[q]? = cs[q]?
theorem Rel.refl (B : Nat) (w : World) : Rel B w w := ⟨Below.refl _ _, fun _ cs _ h => ⟨cs, h, rfl, fun _ _ => rfl⟩⟩
theorem Rel.set {B : Nat} {w W : World} (h : Rel B w W) {k q : Nat} {cs : Array Value} {t : TypeId} (hk : w.heap[k]? = some (Obj.cells cs t (0, 0))) (hB : B ≤ k) (hT : Touch t q) (u : Value) : Rel B w (W.setCell ⟨k, q, none⟩ u) := by
  refine ⟨h.below.setCell (p := ⟨k, q, none⟩) hB u, fun k' cs1 t1 hk1 => ?_⟩
  obtain ⟨cs', h1, h2, h3⟩ := h.row k' cs1 t1 hk1
  by_cases e : k' = k
  · subst e
    rw [hk] at hk1
    injection hk1 with hk1
    injection hk1 with e1 e2 _
    subst e1 e2
    refine ⟨_, heap_setCell_same W k' q cs' t u h1, by simpa using h2, fun r hr => ?_⟩
    have hne : q ≠ r := fun e => hr (by rw [← e]; exact hT)
    rw [Array.getElem?_setIfInBounds_ne hne]
    exact h3 r hr
  · exact ⟨cs', (Below.heap_setCell _ _ _ _ e).trans h1, h2, h3⟩
theorem Rel.same {B : Nat} {w W : World} (h : Rel B w W) {k q : Nat} {cs : Array Value} {t : TypeId} {u : Value} (hk : w.heap[k]? = some (Obj.cells cs t (0, 0))) (hq : cs[q]? = some u) (hT : ¬ Touch t q) : W.cell? ⟨k, q, none⟩ = some u := by
  obtain ⟨cs', h1, h2, h3⟩ := h.row k cs t hk
  rw [cell_of_row _ _ _ _ _ _ h1, h3 q hT, hq]
theorem Rel.some {B : Nat} {w W : World} (h : Rel B w W) {k q : Nat} {cs : Array Value} {t : TypeId} (hk : w.heap[k]? = some (Obj.cells cs t (0, 0))) (hq : q < cs.size) : (∃ u, W.cell? ⟨k, q, none⟩ = some u) ∧ W.frozen? ⟨k, q, none⟩ = false := by
  obtain ⟨cs', h1, h2, h3⟩ := h.row k cs t hk
  exact ⟨⟨cs'[q]'(by omega), by rw [cell_of_row _ _ _ _ _ _ h1]; exact Array.getElem?_eq_getElem _⟩, frozen_of_row _ _ _ _ _ h1⟩
/-- A row of the call's own: its block. -/
theorem own_block {w : World} {B n size : Nat} {e : TypeId} {v : Value} {cs : List Value} (h : w.ownsRow B e size v n cs) (hn : 0 < n) : ∃ g cap cur, v = .slice (some ⟨g, 0, none⟩) n cap ∧ B ≤ g ∧ w.heap[g]? = some (Obj.cells cur e (0, 0)) ∧ n * size ≤ cur.size ∧ ∀ (q : Nat) u, cs[q]? = some u → cur[q]? = some u := by
  obtain ⟨h1, ⟨_, h0⟩ | ⟨g, cap, cur, rfl, hB, hg, hc, _, hs, ht⟩⟩ := h
  · omega
  · refine ⟨g, cap, cur, rfl, hB, hg, by rw [hs]; exact Nat.mul_le_mul_right _ hc, fun q u hq => ?_⟩
    have hl := (List.getElem?_eq_some_iff.1 hq).1
    rw [← ht, List.getElem?_take_of_lt (by omega), Array.getElem?_toList] at hq
    exact hq
theorem own_len {w : World} {B n size : Nat} {e : TypeId} {v : Value} {cs : List Value} (h : w.ownsRow B e size v n cs) : n ≤ 9223372036854775807 := by
  obtain ⟨h1, ⟨_, h0⟩ | ⟨g, cap, cur, rfl, hB, hg, hc, hm, _⟩⟩ := h
  · omega
  · unfold maxLen at hm; omega
theorem touch_entry (q : Nat) : Touch 46 q := .inl rfl
theorem touch_cost (j : Nat) : Touch 56 (j * 5 + 4) := .inr (.inl ⟨rfl, by omega⟩)
theorem touch_int (q : Nat) : Touch 3 q := .inr (.inr (.inl rfl))
theorem touch_part (q : Nat) : Touch 48 q := .inr (.inr (.inr rfl))
theorem not_locale (q : Nat) : ¬ Touch 44 q := by rintro (h | ⟨h, _⟩ | h | h) <;> exact absurd h (by decide)
theorem not_style (q : Nat) : ¬ Touch 52 q := by rintro (h | ⟨h, _⟩ | h | h) <;> exact absurd h (by decide)
theorem not_rule (j r : Nat) (hr : r < 4) : ¬ Touch 56 (j * 5 + r) := by
  rintro (h | ⟨_, h⟩ | h | h)
  · exact absurd h (by decide)
  · omega
  · exact absurd h (by decide)
  · exact absurd h (by decide)
/-- The facts that the loops ask for. -/
theorem lex_round {B : Nat} {w W : World} (R : Rel B w W) {v : Value} {n : Nat} {cs : List Value} (h : w.ownsRow B 46 3 v n cs) {i : Nat} (hi : i < n) : ∃ g cap, v = .slice (some ⟨g, 0, none⟩) n cap ∧ (∃ u, W.cell? ⟨g, i * 3 + 2, none⟩ = some u) ∧ W.frozen? ⟨g, i * 3 + 2, none⟩ = false ∧ ∀ u, Rel B w (W.setCell ⟨g, i * 3 + 2, none⟩ u) := by
  obtain ⟨g, cap, cur, rfl, hB, hg, hs, _⟩ := own_block h (by omega)
  have := R.some (q := i * 3 + 2) hg (by omega)
  exact ⟨g, cap, rfl, this.1, this.2, fun u => R.set hg hB (touch_entry _) u⟩
theorem rule_round {B : Nat} {w W : World} (R : Rel B w W) {v : Value} {rs : List Rule} {cs : List Value} (h : w.ownsRow B 56 5 v rs.length cs) (ho : RuleO B w cs rs) {i : Nat} (hi : i < rs.length) : ∃ g cap, v = .slice (some ⟨g, 0, none⟩) rs.length cap ∧ (∃ u, W.cell? ⟨g, i * 5 + 4, none⟩ = some u) ∧ W.frozen? ⟨g, i * 5 + 4, none⟩ = false ∧ (∀ u, Rel B w (W.setCell ⟨g, i * 5 + 4, none⟩ u)) ∧
    ∃ sv xs, RowO B w sv xs ∧ ∀ W, Rel B w W → W.cell? ⟨g, i * 5 + 1, none⟩ = some sv := by
  obtain ⟨g, cap, cur, rfl, hB, hg, hs, hc⟩ := own_block h (by omega)
  have := R.some (q := i * 5 + 4) hg (by omega)
  obtain ⟨v0, v1, h1, _, a0, _⟩ := ho.2 i _ (List.getElem?_eq_getElem hi)
  exact ⟨g, cap, rfl, this.1, this.2, fun u => R.set hg hB (touch_cost _) u, v0, _, a0, fun W RW => RW.same hg (hc _ _ h1) (not_rule i 1 (by decide))⟩
theorem int_round {B : Nat} {w W : World} (R : Rel B w W) {v : Value} {xs : List Int} (h : RowO B w v xs) {i : Nat} (hi : i < xs.length) : ∃ g cap, v = .slice (some ⟨g, 0, none⟩) xs.length cap ∧ (∃ u, W.cell? ⟨g, i, none⟩ = some u) ∧ W.frozen? ⟨g, i, none⟩ = false ∧ ∀ u, Rel B w (W.setCell ⟨g, i, none⟩ u) := by
  obtain ⟨g, cap, cur, rfl, hB, hg, hs, _⟩ := own_block h.2 (by omega)
  have := R.some (q := i) hg (by omega)
  exact ⟨g, cap, rfl, this.1, this.2, fun u => R.set hg hB (touch_int _) u⟩
theorem style_round {B : Nat} {w : World} {v : Value} {ss : List Style} {cs : List Value} (h : w.ownsRow B 52 2 v ss.length cs) (ho : StyleO B w cs ss) {i : Nat} (hi : i < ss.length) : ∃ g cap, v = .slice (some ⟨g, 0, none⟩) ss.length cap ∧
    ∃ sv xs, PartO B w sv xs ∧ ∀ W, Rel B w W → W.cell? ⟨g, i * 2 + 1, none⟩ = some sv := by
  obtain ⟨g, cap, cur, rfl, hB, hg, hs, hc⟩ := own_block h (by omega)
  obtain ⟨v0, h1, a0⟩ := ho.2 i _ (List.getElem?_eq_getElem hi)
  exact ⟨g, cap, rfl, v0, _, a0, fun W RW => RW.same hg (hc _ _ h1) (not_style _)⟩
theorem part_round {B : Nat} {w W : World} (R : Rel B w W) {v : Value} {xs : List Part} (h : PartO B w v xs) {i : Nat} (hi : i < xs.length) : ∃ g cap, v = .slice (some ⟨g, 0, none⟩) xs.length cap ∧ (∃ u, W.cell? ⟨g, i * 5 + 2, none⟩ = some u) ∧ W.frozen? ⟨g, i * 5 + 2, none⟩ = false ∧ ∀ u, Rel B w (W.setCell ⟨g, i * 5 + 2, none⟩ u) := by
  obtain ⟨_, cs, h2, _⟩ := h
  obtain ⟨g, cap, cur, rfl, hB, hg, hs, _⟩ := own_block h2 (by omega)
  have := R.some (q := i * 5 + 2) hg (by omega)
  exact ⟨g, cap, rfl, this.1, this.2, fun u => R.set hg hB (touch_part _) u⟩

end Go.Proofs.YtohgaknojkdohaaGreatDoor
