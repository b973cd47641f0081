/- What a Shape makes: the sample; perhaps a locale of raw rules behind. -/
import Derived.Test.YtannndpamhgknaaGreatDoorXBl6
import Derived.Deep.RegionHeld
namespace Go.Proofs.YtannndpamhgknaaGreatDoor.Bl
open Go.RowKit Gr

section
variable {P : Program} {l : List Oper} {Q : Exit → Act → World → Prop} {md : Region.Mode} {S S' : World → Prop}
/-- A condition may be made stronger on the way. -/
theorem held_weaken {ops : Array Oper} (hS : ∀ w, S' w → S w) : ∀ (fuel : Nat) (listed : Array Bool) (a : Act) (w : World), wpAnyH P md ops Q S' fuel listed a w → wpAnyH P md ops Q S fuel listed a w
  | 0, _, _, _, h => h
  | fuel + 1, _, _, _, h => ⟨h.1, fun i hi => wpOp_mono (fun a' w' h' => ⟨hS _ h'.1, held_weaken hS fuel _ a' w' h'.2⟩) (h.2 i hi)⟩
theorem held_take {i : Nat} {oi : Oper} {v : Value} {fuel : Nat} {listed : Array Bool} {a : Act} {w : World} (hi : l[i]? = some oi)
    (hs : Region.noSelect l.toArray = true) (hf : Region.free md l.toArray listed i = true) (hr : (Region.ready md l.toArray listed).contains i = true)
    (hQ : ∀ c a w, Q (.panic c) (a.put oi.dst v) w → Q (.panic c) a w) (hwt : Region.wanted oi (yielded l.toArray a.tmps) = true) (hy : ∀ w, S w → (execOp a.eval oi).run P w = .ok (.value v) w) (hS : S w)
    (h : wpAnyH P md l.toArray Q S fuel (listed.setIfInBounds i true) (a.put oi.dst v) w) : wpAnyH P md l.toArray Q S (fuel + 1) listed a w :=
  wpAnyH_take (by rw [List.getElem?_toArray]; exact hi) hs hf hr hQ (.inl ⟨hwt, hy⟩) hS h
theorem held_cons {fuel : Nat} {listed : Array Bool} {a : Act} {w : World} {i : Nat} {o : Oper} {rs : List Nat} (ho : l[i]? = some o)
    (h : ∀ K' : Act → World → Prop, (Shut (∀ a w, S w → (S w → wpAnyH P md l.toArray Q S fuel (listed.setIfInBounds i true) a w) → K' a w)) → if Region.wanted o (yielded l.toArray a.tmps) = true then Oper.wp P o a w K' Q else K' (a.put o.dst undef) w)
    (hs : AllReadyH P md l.toArray Q S fuel listed a w rs) : AllReadyH P md l.toArray Q S fuel listed a w (i :: rs) :=
  AllReadyH.cons (by rw [List.getElem?_toArray]; exact ho) h hs
end

/-- What holds all through the region: the shape's box; what stood ahead; X besides. -/
def HM (B : World) (g : Nat) (c1 c2 c3 c4 : Value) (X : World → Prop) (W : World) : Prop :=
  Below B.heap.size B W ∧ W.cell? ⟨g, 1, none⟩ = some c1 ∧ W.cell? ⟨g, 2, none⟩ = some c2 ∧ W.cell? ⟨g, 3, none⟩ = some c3 ∧ W.cell? ⟨g, 4, none⟩ = some c4 ∧ X W
section
variable {B W W' : World} {g : Nat} {c1 c2 c3 c4 : Value} {X Y : World → Prop}
theorem HM.on (h : HM B g c1 c2 c3 c4 X W) (b : Below W.heap.size W W') (x : X W') : HM B g c1 c2 c3 c4 X W' := by
  obtain ⟨h0, h1, h2, h3, h4, _⟩ := h
  exact ⟨up_trans h0 b, (b.cell (lt_of_cell h1)).trans h1, (b.cell (lt_of_cell h2)).trans h2, (b.cell (lt_of_cell h3)).trans h3, (b.cell (lt_of_cell h4)).trans h4, x⟩
theorem HM.more (h : HM B g c1 c2 c3 c4 X W) (y : Y W) : HM B g c1 c2 c3 c4 Y W := ⟨h.1, h.2.1, h.2.2.1, h.2.2.2.1, h.2.2.2.2.1, y⟩
theorem HM.less (h : HM B g c1 c2 c3 c4 X W) : HM B g c1 c2 c3 c4 (fun _ => True) W := h.more trivial
end

/-- Onto a row that is full: a new row. -/
theorem step_append_full (w : World) {ops : Array Oper} {o : Oper} {a : Act} {K : Act → World → Prop} {Q : Exit → Act → World → Prop} {E : Prop} (hgd : o.guard = none) (s x : Operand) (t e : TypeId)
    (ho : o.op = .call { callee := .builtin .append, args := #[s, x], argTypes := #[t, t] }) (z : Value) (size bytes : Nat) (ht : Tryz.prog.underlying t = some (.slice e)) (hi : (Tryz.prog.info? e).map (fun i => (i.zero, i.size, i.bytes)) = some (some z, size, bytes)) (hzs : z.cells.size = size) (hsz : 0 < size) (hby : bytes ≤ 1000)
    (B g n : Nat) (cs : List Value) (hs : a.eval s = .slice (some ⟨g, 0, none⟩) n n) (h : w.ownsRow B e size (.slice (some ⟨g, 0, none⟩) n n) n cs) (xv : Value) (m : Nat) (ds : List Value) (hx : a.eval x = xv) (hq : CellsAt w xv m size ds) (nm : Nat) (hnm : n + m = nm) (hm : 0 < m) (hl : nm ≤ 1000000) (hB : B ≤ w.heap.size)
    (hK : ∀ cap w', w'.ownsRow B e size (.slice (some ⟨w.heap.size, 0, none⟩) nm cap) nm (cs ++ ds) → Below w.heap.size w w' → K (a.put o.dst (.slice (some ⟨w.heap.size, 0, none⟩) nm cap)) w') :
    if Region.wanted o (yielded ops a.tmps) = true then Oper.wp Tryz.prog o a w K Q else E := by
  subst hnm
  have hw : Region.wanted o (yielded ops a.tmps) = true := by simp [Region.wanted, hgd]
  rw [if_pos hw]
  obtain ⟨v', w', hr, h2, h3, h4⟩ := run_append_cells w t e o.type z size bytes ht hi hzs hsz hby B _ n cs h xv m ds hq hl hB
  have hk : ∃ cap, v' = .slice (some ⟨w.heap.size, 0, none⟩) (n + m) cap ∧ Below w.heap.size w w' := by
    obtain ⟨i0, hi0, hz0, hz1, hz2⟩ := info_parts hi
    obtain ⟨ad, cap, rfl, hdl, hnil, hone, hqc⟩ := hq
    cases ad with
    | none => have := (hnil rfl).2; omega
    | some adr =>
      subst hz1 hz2
      have hg := run_append_grow (P := Tryz.prog) w t o.type e i0 z ht hi0 hz0 ⟨g, 0, none⟩ n n cs h.1 (h.cells (g := g) rfl) adr m cap ds hdl (fun j u hj => by
        obtain ⟨a, e, h4⟩ := hqc j u hj
        obtain rfl := Option.some.inj e
        exact h4) (by omega) (by omega) (growslice_fits (by omega) (by
          have : (n + m) * i0.bytes ≤ 1000000 * 1000 := Nat.mul_le_mul hl hby
          omega))
      rw [hr] at hg
      injection hg with e1 e2
      subst e1 e2
      exact ⟨_, rfl, ((Below.refl _ w).drew).alloc (Nat.le_refl _) _⟩
  obtain ⟨cap, rfl, hb⟩ := hk
  unfold Oper.wp execOp
  simp only [ho, resolve, invoke, builtin, Sem.run_bind, Sem.run_pure, Result.andThen_ok, List.map_toArray, List.map_cons, List.map_nil, hs, hx, hr]
  exact hK cap w' h2 hb

set_option maxRecDepth 8000 in
set_option maxHeartbeats 4000000 in
theorem make_any (o d wd vl : Int) (rv : Value) (raws : List Raw) (m : Bool) (w : World) (h : RawsAt w rv raws) : Calls Tryz.prog 28 #[shapeV o d wd vl rv m] w fun e w' => ∃ g cap cs, e = .returned (.slice (some ⟨g, 0, none⟩) (makeL o d wd vl raws m).length cap) ∧ w'.ownsRow w.heap.size 33 6 (.slice (some ⟨g, 0, none⟩) (makeL o d wd vl raws m).length cap) (makeL o d wd vl raws m).length cs ∧ Low w w' g (fun W => LocaleC W cs (makeL o d wd vl raws m)) ∧ Below w.heap.size w w' := by
  have HH := hid h
  obtain ⟨adr, capr, er, _⟩ := id h
  generalize hrn : raws.length = nr at er
  clear hrn
  subst er
  have HW := hid (fun (a n : Int) (w : World) (h : 0 < n ∧ n ≤ 100000000) => swithin_any a n w h.1 h.2)
  have HX0 := hid (row_new w (.cells #[.int .i64 o, .int .i64 d, .int .i64 wd, .int .i64 vl, .slice adr nr capr, .bool m] 24))
  have HU0 := hid (up_alloc w (.cells #[.int .i64 o, .int .i64 d, .int .i64 wd, .int .i64 vl, .slice adr nr capr, .bool m] 24))
  clear h
  unfold shapeV
  go_enter Tryz.func28, Tryz.ntmps28
  go_wp2_with fail
  refine (sample_any o d _).mono ?_
  rintro e w1 ⟨gl, cs, rfl, ho, hc, hb⟩
  have hbx := (hb.block w.heap.size (by simp)).trans HX0.out
  have HB1 := hid (up_trans HU0.out hb)
  have HO1 := hid (own_base ho (by simp : w.heap.size ≤ _))
  have HC1 : Hid (Low w w1 gl (fun W => LocaleC W cs (sampleL o d))) := hid (by
    obtain ⟨w0, p0, pb, p1, p2⟩ := hc
    exact ⟨w0, p0, up_trans HU0.out pb, p1, p2⟩)
  have b1 : w1.cell? ⟨w.heap.size, 1, none⟩ = some (.int .i64 d) := by rw [cell_of_row _ _ _ _ _ _ hbx]; rfl
  have b2 : w1.cell? ⟨w.heap.size, 2, none⟩ = some (.int .i64 wd) := by rw [cell_of_row _ _ _ _ _ _ hbx]; rfl
  have b3 : w1.cell? ⟨w.heap.size, 3, none⟩ = some (.int .i64 vl) := by rw [cell_of_row _ _ _ _ _ _ hbx]; rfl
  have b4 : w1.cell? ⟨w.heap.size, 4, none⟩ = some (.slice adr nr capr) := by rw [cell_of_row _ _ _ _ _ _ hbx]; rfl
  have b5 : w1.cell? ⟨w.heap.size, 5, none⟩ = some (.bool m) := by rw [cell_of_row _ _ _ _ _ _ hbx]; rfl
  have hw1 : w.heap.size ≤ w1.heap.size := HB1.out.size
  clear ho hc hb hbx HX0 HU0
  cases m with
  | false =>
    go_wp2
    go_ret
    have hml : makeL o d wd vl raws false = sampleL o d := List.append_nil _
    rw [hml]
    exact ⟨gl, 3, cs, rfl, HO1.out, HC1.out, HB1.out⟩
  | true =>
    have HST : Hid (∀ W : World, (W.alloc (.cells #[.string ⟨#[111, 110, 101]⟩, .string ⟨#[120, 32, 121]⟩, .string ⟨#[195, 164]⟩, .string ⟨#[55, 117, 112]⟩, .string ⟨#[45]⟩] 9)).cell? ⟨W.heap.size, (wd % 5).toNat, none⟩ = some (.string (wordX (wd % 5).toNat))) := hid (fun W => by
      rw [new_cell]
      have h5 : wd % 5 = 0 ∨ wd % 5 = 1 ∨ wd % 5 = 2 ∨ wd % 5 = 3 ∨ wd % 5 = 4 := by omega
      rcases h5 with h | h | h | h | h <;> rw [h] <;> rfl)
    have HMD : Hid (makeL o d wd vl raws true = sampleL o d ++ [⟨⟨#[120]⟩, -1, d % 4, [⟨wordX (wd % 5).toNat, 1 + vl % 3, vl % 100 - 5⟩, ⟨⟨#[116, 119, 111]⟩, 2, 2⟩], lrules raws 6, []⟩]) := hid rfl
    have hw5 : 0 ≤ wd % 5 ∧ wd % 5 < 5 := by omega
    obtain ⟨kn, hkn⟩ : ∃ kn : Nat, wd % 5 = (kn : Int) := ⟨(wd % 5).toNat, by omega⟩
    rw [hkn, Int.toNat_natCast] at HST HMD
    have hk5 : (kn : Int) < 5 := by omega
    have hk0 : (0 : Int) ≤ (kn : Int) := by omega
    clear hw5
    have HKN := hid hkn
    have HRL : Hid (∀ W : World, Below w1.heap.size w1 W → Calls Tryz.prog 49 #[.slice adr nr capr, .int .i64 6] W fun e w' => ∃ adu nu capu, e = .returned (.slice adu nu capu) ∧ RulesOk w' (.slice adu nu capu) (lrules raws 6) ∧ Below W.heap.size W w') := hid (fun W hW => (lrules_any raws _ 6 (by decide) W ((HH.out.on HB1.out).on hW)).mono (by
      rintro e wR ⟨u, rfl, hRN, ba⟩
      have hok := rulesNew_ok hRN (by have := lrules_length raws 6; omega)
      obtain ⟨adu, capu, eu, _⟩ := hok.shape
      subst eu
      exact ⟨adu, _, capu, rfl, hok, ba⟩))
    have HFIN : Hid (∀ (wL : World) (gE : Nat) (adu : Option Addr) (nu capu : Nat), Below w1.heap.size w1 wL → RulesOk wL (.slice adu nu capu) (lrules raws 6) → wL.ownsRow gE 49 3 (.slice (some ⟨gE, 0, none⟩) 2 2) 2 [.string (wordX kn), .int .i64 (1 + vl % 3), .int .i64 (vl % 100 - 5), .string ⟨#[116, 119, 111]⟩, .int .i64 2, .int .i64 2] →
        ∀ (capB : Nat) (wB : World), wB.ownsRow w.heap.size 33 6 (.slice (some ⟨wL.heap.size, 0, none⟩) 4 capB) 4 (cs ++ [.string ⟨#[120]⟩, .int .i64 (-1), .int .i64 (d % 4), .slice (some ⟨gE, 0, none⟩) 2 2, .slice adu nu capu, .slice none 0 0]) → Below wL.heap.size wL wB →
        ∃ g cap cs, Ending.returned (.slice (some ⟨wL.heap.size, 0, none⟩) 4 capB) = .returned (.slice (some ⟨g, 0, none⟩) (makeL o d wd vl raws true).length cap) ∧ wB.ownsRow w.heap.size 33 6 (.slice (some ⟨g, 0, none⟩) (makeL o d wd vl raws true).length cap) (makeL o d wd vl raws true).length cs ∧ Low w wB g (fun W => LocaleC W cs (makeL o d wd vl raws true)) ∧ Below w.heap.size w wB) := hid (fun wL gE adu nu capu hb hr he capB wB h1 h2 => by
      obtain ⟨w0, p0, _, p1, p2⟩ := HC1.out
      refine ⟨wL.heap.size, capB, _, rfl, h1, ⟨wL, ?_, up_trans HB1.out hb, Nat.le_refl _, h2⟩, up_trans (up_trans HB1.out hb) h2⟩
      rw [HMD.out]
      refine (p0.on (up_trans p2 hb)).append (LocaleC.one wL ⟨⟨#[120]⟩, -1, d % 4, [⟨wordX kn, 1 + vl % 3, vl % 100 - 5⟩, ⟨⟨#[116, 119, 111]⟩, 2, 2⟩], lrules raws 6, []⟩ _ _ _ ?_ hr (StylesAt.nil _) rfl rfl rfl)
      exact Entries_own he ((EntryC.one wL ⟨wordX kn, 1 + vl % 3, vl % 100 - 5⟩).append (EntryC.one wL ⟨⟨#[116, 119, 111]⟩, 2, 2⟩)) (by simp))
    clear hkn
    have hkn := HKN.out
    have e16 : IntKind.i64.wrap (1 + vl % 3) = 1 + vl % 3 := by rw [IntKind.wrap_i64]; omega
    have e20 : IntKind.i64.wrap (vl % 100 - 5) = vl % 100 - 5 := by rw [IntKind.wrap_i64]; omega
    go_wp2
    refine wp_region_held_drew (S := HM w1 w.heap.size (.int .i64 d) (.int .i64 wd) (.int .i64 vl) (.slice adr nr capr) (fun _ => True)) (by kernel_rfl) ⟨(Below.refl w1.heap.size w1).drew, b1, b2, b3, b4, trivial⟩ (fun hHeld => ?_)
    clear b1 b2 b3 b4 b5 HKN
    generalize w1.drew = w0 at hHeld ⊢
    refine held_take (i := 0) (v := ?_) rfl (by kernel_rfl) (by kernel_rfl) (by kernel_rfl) (fun _ _ _ h => h) (by rfl) (fun W hW => ?_) hHeld ?_
    rotate_left
    · (obtain ⟨_, c1, c2, c3, c4, cx⟩ := hW; go_simp; try with_reducible rfl)
    try simp only [Act.put, List.setIfInBounds_toArray, List.set_cons_zero, List.set_cons_succ]
    refine held_take (i := 1) (v := ?_) rfl (by kernel_rfl) (by kernel_rfl) (by kernel_rfl) (fun _ _ _ h => h) (by rfl) (fun W hW => ?_) hHeld ?_
    rotate_left
    · (obtain ⟨_, c1, c2, c3, c4, cx⟩ := hW; go_simp; try with_reducible rfl)
    try simp only [Act.put, List.setIfInBounds_toArray, List.set_cons_zero, List.set_cons_succ]
    refine held_take (i := 2) (v := ?_) rfl (by kernel_rfl) (by kernel_rfl) (by kernel_rfl) (fun _ _ _ h => h) (by rfl) (fun W hW => ?_) hHeld ?_
    rotate_left
    · (obtain ⟨_, c1, c2, c3, c4, cx⟩ := hW; go_simp; try with_reducible rfl)
    try simp only [Act.put, List.setIfInBounds_toArray, List.set_cons_zero, List.set_cons_succ]
    refine held_take (i := 4) (v := ?_) rfl (by kernel_rfl) (by kernel_rfl) (by kernel_rfl) (fun _ _ _ h => h) (by rfl) (fun W hW => ?_) hHeld ?_
    rotate_left
    · (obtain ⟨_, c1, c2, c3, c4, cx⟩ := hW; go_simp; try with_reducible rfl)
    try simp only [Act.put, List.setIfInBounds_toArray, List.set_cons_zero, List.set_cons_succ]
    refine held_take (i := 5) (v := ?_) rfl (by kernel_rfl) (by kernel_rfl) (by kernel_rfl) (fun _ _ _ h => h) (by rfl) (fun W hW => ?_) hHeld ?_
    rotate_left
    · (obtain ⟨_, c1, c2, c3, c4, cx⟩ := hW; go_simp; try with_reducible rfl)
    try simp only [Act.put, List.setIfInBounds_toArray, List.set_cons_zero, List.set_cons_succ]
    refine held_take (i := 8) (v := ?_) rfl (by kernel_rfl) (by kernel_rfl) (by kernel_rfl) (fun _ _ _ h => h) (by rfl) (fun W hW => ?_) hHeld ?_
    rotate_left
    · (obtain ⟨_, c1, c2, c3, c4, cx⟩ := hW; go_simp; try with_reducible rfl)
    try simp only [Act.put, List.setIfInBounds_toArray, List.set_cons_zero, List.set_cons_succ]
    refine held_take (i := 9) (v := ?_) rfl (by kernel_rfl) (by kernel_rfl) (by kernel_rfl) (fun _ _ _ h => h) (by rfl) (fun W hW => ?_) hHeld ?_
    rotate_left
    · (obtain ⟨_, c1, c2, c3, c4, cx⟩ := hW; go_simp; try with_reducible rfl)
    try simp only [Act.put, List.setIfInBounds_toArray, List.set_cons_zero, List.set_cons_succ]
    refine held_take (i := 13) (v := ?_) rfl (by kernel_rfl) (by kernel_rfl) (by kernel_rfl) (fun _ _ _ h => h) (by rfl) (fun W hW => ?_) hHeld ?_
    rotate_left
    · (obtain ⟨_, c1, c2, c3, c4, cx⟩ := hW; go_simp; try with_reducible rfl)
    try simp only [Act.put, List.setIfInBounds_toArray, List.set_cons_zero, List.set_cons_succ]
    refine held_take (i := 14) (v := ?_) rfl (by kernel_rfl) (by kernel_rfl) (by kernel_rfl) (fun _ _ _ h => h) (by rfl) (fun W hW => ?_) hHeld ?_
    rotate_left
    · (obtain ⟨_, c1, c2, c3, c4, cx⟩ := hW; go_simp; try with_reducible rfl)
    try simp only [Act.put, List.setIfInBounds_toArray, List.set_cons_zero, List.set_cons_succ]
    refine held_take (i := 17) (v := ?_) rfl (by kernel_rfl) (by kernel_rfl) (by kernel_rfl) (fun _ _ _ h => h) (by rfl) (fun W hW => ?_) hHeld ?_
    rotate_left
    · (obtain ⟨_, c1, c2, c3, c4, cx⟩ := hW; go_simp; try with_reducible rfl)
    try simp only [Act.put, List.setIfInBounds_toArray, List.set_cons_zero, List.set_cons_succ]
    refine held_take (i := 18) (v := ?_) rfl (by kernel_rfl) (by kernel_rfl) (by kernel_rfl) (fun _ _ _ h => h) (by rfl) (fun W hW => ?_) hHeld ?_
    rotate_left
    · (obtain ⟨_, c1, c2, c3, c4, cx⟩ := hW; go_simp; try with_reducible rfl)
    try simp only [Act.put, List.setIfInBounds_toArray, List.set_cons_zero, List.set_cons_succ]
    refine held_take (i := 22) (v := ?_) rfl (by kernel_rfl) (by kernel_rfl) (by kernel_rfl) (fun _ _ _ h => h) (by rfl) (fun W hW => ?_) hHeld ?_
    rotate_left
    · (obtain ⟨_, c1, c2, c3, c4, cx⟩ := hW; go_simp; try with_reducible rfl)
    try simp only [Act.put, List.setIfInBounds_toArray, List.set_cons_zero, List.set_cons_succ]
    refine wpAnyH_ready (rs := [3, 7]) (by kernel_rfl) (by simp) ?_
    refine held_cons rfl (fun K hK => ?_) ?_
    · skip
      go_simp
      go_at_call 48
      refine (HW.out _ _ _ (by decide)).mono ?_
      rintro e wx ⟨rfl, hwx⟩
      rw [hwx]
      clear hwx wx
      refine hK.out _ _ hHeld (fun _ => ?_)
      clear hK K
      try simp only [Act.put, List.setIfInBounds_toArray, List.set_cons_zero, List.set_cons_succ]
      refine wpAnyH_ready (rs := [6, 7]) (by kernel_rfl) (by simp) ?_
      refine held_cons rfl (fun K hK => ?_) ?_
      · skip
        go_simp
        go_at_call 49
        refine (HRL.out _ hHeld.1).mono ?_
        rintro e wR ⟨adu, nu, capu, rfl, hRN, ba⟩
        have HRN := hid hRN
        clear hRN
        have hHeld := hHeld.on ba trivial
        refine hK.out _ _ hHeld (fun _ => ?_)
        clear hK K ba
        try simp only [Act.put, List.setIfInBounds_toArray, List.set_cons_zero, List.set_cons_succ]
        refine wpAnyH_ready (rs := [7, 10]) (by kernel_rfl) (by simp) ?_
        refine held_cons rfl (fun K hK => ?_) ?_
        · skip
          go_simp
          have cS := HST.out wR
          have hHeld := hHeld.on (up_alloc wR (.cells #[.string ⟨#[111, 110, 101]⟩, .string ⟨#[120, 32, 121]⟩, .string ⟨#[195, 164]⟩, .string ⟨#[55, 117, 112]⟩, .string ⟨#[45]⟩] 9)) trivial
          have hHeld := hHeld.more (Y := fun W => W.cell? ⟨wR.heap.size, kn, none⟩ = some (.string (wordX kn))) cS
          refine hK.out _ _ (hHeld.less) (fun _ => ?_)
          clear hK K
          have HRN := hid (HRN.out.on (up_alloc wR (.cells #[.string ⟨#[111, 110, 101]⟩, .string ⟨#[120, 32, 121]⟩, .string ⟨#[195, 164]⟩, .string ⟨#[55, 117, 112]⟩, .string ⟨#[45]⟩] 9)))
          clear cS
          generalize wR.alloc (.cells #[.string ⟨#[111, 110, 101]⟩, .string ⟨#[120, 32, 121]⟩, .string ⟨#[195, 164]⟩, .string ⟨#[55, 117, 112]⟩, .string ⟨#[45]⟩] 9) = wS at *
          obtain ⟨gS, hgS⟩ : ∃ gS, gS = wR.heap.size := ⟨_, rfl⟩
          rw [← hgS] at hHeld ⊢
          clear hgS
          refine held_weaken (S' := HM w1 w.heap.size (.int .i64 d) (.int .i64 wd) (.int .i64 vl) (.slice adr nr capr) (fun W => W.cell? ⟨gS, kn, none⟩ = some (.string (wordX kn)))) (fun _ h => h.less) _ _ _ _ ?_
          try simp only [Act.put, List.setIfInBounds_toArray, List.set_cons_zero, List.set_cons_succ]
          refine wpAnyH_ready (rs := [10]) (by kernel_rfl) (by simp) ?_
          refine held_cons rfl (fun K hK => ?_) AllReadyH.nil
          go_simp
          go_at_call 48
          refine (HW.out _ _ _ (by decide)).mono ?_
          rintro e wx ⟨rfl, hwx⟩
          rw [hwx]
          clear hwx wx
          rw [hkn]
          refine hK.out _ _ hHeld (fun _ => ?_)
          clear hK K
          try simp only [Act.put, List.setIfInBounds_toArray, List.set_cons_zero, List.set_cons_succ]
          refine held_take (i := 11) (v := ?_) rfl (by kernel_rfl) (by kernel_rfl) (by kernel_rfl) (fun _ _ _ h => h) (by rfl) (fun W hW => ?_) hHeld ?_
          rotate_left
          · (obtain ⟨_, c1, c2, c3, c4, cx⟩ := hW; go_simp; try with_reducible rfl)
          try simp only [Act.put, List.setIfInBounds_toArray, List.set_cons_zero, List.set_cons_succ]
          refine held_take (i := 12) (v := ?_) rfl (by kernel_rfl) (by kernel_rfl) (by kernel_rfl) (fun _ _ _ h => h) (by rfl) (fun W hW => ?_) hHeld ?_
          rotate_left
          · (obtain ⟨_, c1, c2, c3, c4, cx⟩ := hW; go_simp; try with_reducible rfl)
          try simp only [Act.put, List.setIfInBounds_toArray, List.set_cons_zero, List.set_cons_succ]
          refine wpAnyH_ready (rs := [15]) (by kernel_rfl) (by simp) ?_
          refine held_cons rfl (fun K hK => ?_) AllReadyH.nil
          go_simp
          go_at_call 48
          refine (HW.out _ _ _ (by decide)).mono ?_
          rintro e wx ⟨rfl, hwx⟩
          rw [hwx]
          clear hwx wx
          refine hK.out _ _ hHeld (fun _ => ?_)
          clear hK K
          try simp only [Act.put, List.setIfInBounds_toArray, List.set_cons_zero, List.set_cons_succ]
          refine held_take (i := 16) (v := ?_) rfl (by kernel_rfl) (by kernel_rfl) (by kernel_rfl) (fun _ _ _ h => h) (by rfl) (fun W hW => ?_) hHeld ?_
          rotate_left
          · (obtain ⟨_, c1, c2, c3, c4, cx⟩ := hW; go_simp; try with_reducible rfl)
          try simp only [Act.put, List.setIfInBounds_toArray, List.set_cons_zero, List.set_cons_succ]
          refine wpAnyH_ready (rs := [19]) (by kernel_rfl) (by simp) ?_
          refine held_cons rfl (fun K hK => ?_) AllReadyH.nil
          go_simp
          go_at_call 48
          refine (HW.out _ _ _ (by decide)).mono ?_
          rintro e wx ⟨rfl, hwx⟩
          rw [hwx]
          clear hwx wx
          refine hK.out _ _ hHeld (fun _ => ?_)
          clear hK K
          try simp only [Act.put, List.setIfInBounds_toArray, List.set_cons_zero, List.set_cons_succ]
          refine held_take (i := 20) (v := ?_) rfl (by kernel_rfl) (by kernel_rfl) (by kernel_rfl) (fun _ _ _ h => h) (by rfl) (fun W hW => ?_) hHeld ?_
          rotate_left
          · (obtain ⟨_, c1, c2, c3, c4, cx⟩ := hW; go_simp; try with_reducible rfl)
          try simp only [Act.put, List.setIfInBounds_toArray, List.set_cons_zero, List.set_cons_succ]
          refine held_take (i := 21) (v := ?_) rfl (by kernel_rfl) (by kernel_rfl) (by kernel_rfl) (fun _ _ _ h => h) (by rfl) (fun W hW => ?_) hHeld ?_
          rotate_left
          · (obtain ⟨_, c1, c2, c3, c4, cx⟩ := hW; go_simp; try with_reducible rfl)
          try simp only [Act.put, List.setIfInBounds_toArray, List.set_cons_zero, List.set_cons_succ]
          refine wpAnyH_ready (rs := [23]) (by kernel_rfl) (by simp) ?_
          refine held_cons rfl (fun K hK => ?_) AllReadyH.nil
          go_simp
          have HOE := hid (own_lit wS 49 3 2 wS.heap.size #[.string (wordX kn), .int .i64 (1 + vl % 3), .int .i64 (vl % 100 - 5), .string ⟨#[116, 119, 111]⟩, .int .i64 2, .int .i64 2] [.string (wordX kn), .int .i64 (1 + vl % 3), .int .i64 (vl % 100 - 5), .string ⟨#[116, 119, 111]⟩, .int .i64 2, .int .i64 2] rfl rfl rfl (by decide))
          have hHeld := hHeld.on (up_alloc wS (.cells #[.string (wordX kn), .int .i64 (1 + vl % 3), .int .i64 (vl % 100 - 5), .string ⟨#[116, 119, 111]⟩, .int .i64 2, .int .i64 2] 49)) (((up_alloc wS (.cells #[.string (wordX kn), .int .i64 (1 + vl % 3), .int .i64 (vl % 100 - 5), .string ⟨#[116, 119, 111]⟩, .int .i64 2, .int .i64 2] 49)).cell (p := ⟨gS, kn, none⟩) (lt_of_cell hHeld.2.2.2.2.2)).trans hHeld.2.2.2.2.2)
          have HRN := hid (HRN.out.on (up_alloc wS (.cells #[.string (wordX kn), .int .i64 (1 + vl % 3), .int .i64 (vl % 100 - 5), .string ⟨#[116, 119, 111]⟩, .int .i64 2, .int .i64 2] 49)))
          refine hK.out _ _ hHeld (fun _ => ?_)
          clear hK K
          generalize wS.alloc (.cells #[.string (wordX kn), .int .i64 (1 + vl % 3), .int .i64 (vl % 100 - 5), .string ⟨#[116, 119, 111]⟩, .int .i64 2, .int .i64 2] 49) = wE at *
          obtain ⟨gE, hgE⟩ : ∃ gE, gE = wS.heap.size := ⟨_, rfl⟩
          rw [← hgE] at HOE ⊢
          clear hgE
          try simp only [Act.put, List.setIfInBounds_toArray, List.set_cons_zero, List.set_cons_succ]
          refine held_take (i := 24) (v := ?_) rfl (by kernel_rfl) (by kernel_rfl) (by kernel_rfl) (fun _ _ _ h => h) (by rfl) (fun W hW => ?_) hHeld ?_
          rotate_left
          · (obtain ⟨_, c1, c2, c3, c4, cx⟩ := hW; go_simp; try with_reducible rfl)
          try simp only [Act.put, List.setIfInBounds_toArray, List.set_cons_zero, List.set_cons_succ]
          refine wpAnyH_ready (rs := [25]) (by kernel_rfl) (by simp) ?_
          refine held_cons rfl (fun K hK => ?_) AllReadyH.nil
          go_simp
          have HLA := hid (cells_lit wE 33 [.string ⟨#[120]⟩, .int .i64 (-1), .int .i64 (d % 4), .slice (some ⟨gE, 0, none⟩) 2 2, .slice adu nu capu, .slice none 0 0] #[.string ⟨#[120]⟩, .int .i64 (-1), .int .i64 (d % 4), .slice (some ⟨gE, 0, none⟩) 2 2, .slice adu nu capu, .slice none 0 0] rfl wE.heap.size 1 6 rfl rfl (by intro u hu; simp at hu; rcases hu with rfl | rfl | rfl | rfl | rfl | rfl <;> rfl))
          have hHeld := hHeld.on (up_alloc wE (.cells #[.string ⟨#[120]⟩, .int .i64 (-1), .int .i64 (d % 4), .slice (some ⟨gE, 0, none⟩) 2 2, .slice adu nu capu, .slice none 0 0] 33)) (((up_alloc wE (.cells #[.string ⟨#[120]⟩, .int .i64 (-1), .int .i64 (d % 4), .slice (some ⟨gE, 0, none⟩) 2 2, .slice adu nu capu, .slice none 0 0] 33)).cell (p := ⟨gS, kn, none⟩) (lt_of_cell hHeld.2.2.2.2.2)).trans hHeld.2.2.2.2.2)
          have HRN := hid (HRN.out.on (up_alloc wE (.cells #[.string ⟨#[120]⟩, .int .i64 (-1), .int .i64 (d % 4), .slice (some ⟨gE, 0, none⟩) 2 2, .slice adu nu capu, .slice none 0 0] 33)))
          have HOE := hid (owns_below HOE.out (up_alloc wE (.cells #[.string ⟨#[120]⟩, .int .i64 (-1), .int .i64 (d % 4), .slice (some ⟨gE, 0, none⟩) 2 2, .slice adu nu capu, .slice none 0 0] 33)))
          refine hK.out _ _ hHeld (fun _ => ?_)
          clear hK K
          generalize wE.alloc (.cells #[.string ⟨#[120]⟩, .int .i64 (-1), .int .i64 (d % 4), .slice (some ⟨gE, 0, none⟩) 2 2, .slice adu nu capu, .slice none 0 0] 33) = wL at *
          obtain ⟨gL, hgL⟩ : ∃ gL, gL = wE.heap.size := ⟨_, rfl⟩
          rw [← hgL] at HLA ⊢
          clear hgL
          have HF := hid (HFIN.out wL gE adu nu capu hHeld.1 HRN.out HOE.out)
          try simp only [Act.put, List.setIfInBounds_toArray, List.set_cons_zero, List.set_cons_succ]
          refine wpAnyH_ready (rs := [26]) (by kernel_rfl) (by simp) ?_
          refine held_cons rfl (fun K hK => ?_) AllReadyH.nil
          refine step_append_full _ rfl (.tmp 11) (.tmp 36) 67 33 rfl (.agg #[.string ⟨#[]⟩, .int .i64 0, .int .i64 0, .slice none 0 0, .slice none 0 0, .slice none 0 0]) 6 104 Tryz.underlying67 info_Locale rfl (by decide) (by decide) w.heap.size gl 3 cs rfl (owns_below HO1.out hHeld.1) (.slice (some ⟨gL, 0, none⟩) 1 1) 1 [.string ⟨#[120]⟩, .int .i64 (-1), .int .i64 (d % 4), .slice (some ⟨gE, 0, none⟩) 2 2, .slice adu nu capu, .slice none 0 0] rfl HLA.out 4 rfl (by decide) (by decide) (Nat.le_trans hw1 hHeld.1.size) ?_
          intro capB wB h1 h2
          have HF := hid (HF.out capB wB h1 h2)
          have hHeld := hHeld.on h2 ((h2.cell (p := ⟨gS, kn, none⟩) (lt_of_cell hHeld.2.2.2.2.2)).trans hHeld.2.2.2.2.2)
          refine hK.out _ _ hHeld (fun _ => ?_)
          clear hK K h1 h2
          try simp only [Act.put, List.setIfInBounds_toArray, List.set_cons_zero, List.set_cons_succ]
          refine held_take (i := 27) (v := ?_) rfl (by kernel_rfl) (by kernel_rfl) (by kernel_rfl) (fun _ _ _ h => h) (by rfl) (fun W hW => ?_) hHeld ?_
          rotate_left
          · (obtain ⟨_, c1, c2, c3, c4, cx⟩ := hW; go_simp; try with_reducible rfl)
          try simp only [Act.put, List.setIfInBounds_toArray, List.set_cons_zero, List.set_cons_succ]
          refine wpAnyH_done (by kernel_rfl) ?_ _
          go_wp2
          go_ret
          exact HF.out
        refine held_cons rfl (fun K hK => ?_) AllReadyH.nil
        go_simp
        go_at_call 48
        refine (HW.out _ _ _ (by decide)).mono ?_
        rintro e wx ⟨rfl, hwx⟩
        rw [hwx]
        clear hwx wx
        rw [hkn]
        refine hK.out _ _ hHeld (fun _ => ?_)
        clear hK K
        try simp only [Act.put, List.setIfInBounds_toArray, List.set_cons_zero, List.set_cons_succ]
        refine wpAnyH_ready (rs := [7, 15]) (by kernel_rfl) (by simp) ?_
        refine held_cons rfl (fun K hK => ?_) ?_
        · skip
          go_simp
          have cS := HST.out wR
          have hHeld := hHeld.on (up_alloc wR (.cells #[.string ⟨#[111, 110, 101]⟩, .string ⟨#[120, 32, 121]⟩, .string ⟨#[195, 164]⟩, .string ⟨#[55, 117, 112]⟩, .string ⟨#[45]⟩] 9)) trivial
          have hHeld := hHeld.more (Y := fun W => W.cell? ⟨wR.heap.size, kn, none⟩ = some (.string (wordX kn))) cS
          refine hK.out _ _ (hHeld.less) (fun _ => ?_)
          clear hK K
          have HRN := hid (HRN.out.on (up_alloc wR (.cells #[.string ⟨#[111, 110, 101]⟩, .string ⟨#[120, 32, 121]⟩, .string ⟨#[195, 164]⟩, .string ⟨#[55, 117, 112]⟩, .string ⟨#[45]⟩] 9)))
          clear cS
          generalize wR.alloc (.cells #[.string ⟨#[111, 110, 101]⟩, .string ⟨#[120, 32, 121]⟩, .string ⟨#[195, 164]⟩, .string ⟨#[55, 117, 112]⟩, .string ⟨#[45]⟩] 9) = wS at *
          obtain ⟨gS, hgS⟩ : ∃ gS, gS = wR.heap.size := ⟨_, rfl⟩
          rw [← hgS] at hHeld ⊢
          clear hgS
          refine held_weaken (S' := HM w1 w.heap.size (.int .i64 d) (.int .i64 wd) (.int .i64 vl) (.slice adr nr capr) (fun W => W.cell? ⟨gS, kn, none⟩ = some (.string (wordX kn)))) (fun _ h => h.less) _ _ _ _ ?_
          try simp only [Act.put, List.setIfInBounds_toArray, List.set_cons_zero, List.set_cons_succ]
          refine held_take (i := 11) (v := ?_) rfl (by kernel_rfl) (by kernel_rfl) (by kernel_rfl) (fun _ _ _ h => h) (by rfl) (fun W hW => ?_) hHeld ?_
          rotate_left
          · (obtain ⟨_, c1, c2, c3, c4, cx⟩ := hW; go_simp; try with_reducible rfl)
          try simp only [Act.put, List.setIfInBounds_toArray, List.set_cons_zero, List.set_cons_succ]
          refine held_take (i := 12) (v := ?_) rfl (by kernel_rfl) (by kernel_rfl) (by kernel_rfl) (fun _ _ _ h => h) (by rfl) (fun W hW => ?_) hHeld ?_
          rotate_left
          · (obtain ⟨_, c1, c2, c3, c4, cx⟩ := hW; go_simp; try with_reducible rfl)
          try simp only [Act.put, List.setIfInBounds_toArray, List.set_cons_zero, List.set_cons_succ]
          refine wpAnyH_ready (rs := [15]) (by kernel_rfl) (by simp) ?_
          refine held_cons rfl (fun K hK => ?_) AllReadyH.nil
          go_simp
          go_at_call 48
          refine (HW.out _ _ _ (by decide)).mono ?_
          rintro e wx ⟨rfl, hwx⟩
          rw [hwx]
          clear hwx wx
          refine hK.out _ _ hHeld (fun _ => ?_)
          clear hK K
          try simp only [Act.put, List.setIfInBounds_toArray, List.set_cons_zero, List.set_cons_succ]
          refine held_take (i := 16) (v := ?_) rfl (by kernel_rfl) (by kernel_rfl) (by kernel_rfl) (fun _ _ _ h => h) (by rfl) (fun W hW => ?_) hHeld ?_
          rotate_left
          · (obtain ⟨_, c1, c2, c3, c4, cx⟩ := hW; go_simp; try with_reducible rfl)
          try simp only [Act.put, List.setIfInBounds_toArray, List.set_cons_zero, List.set_cons_succ]
          refine wpAnyH_ready (rs := [19]) (by kernel_rfl) (by simp) ?_
          refine held_cons rfl (fun K hK => ?_) AllReadyH.nil
          go_simp
          go_at_call 48
          refine (HW.out _ _ _ (by decide)).mono ?_
          rintro e wx ⟨rfl, hwx⟩
          rw [hwx]
          clear hwx wx
          refine hK.out _ _ hHeld (fun _ => ?_)
          clear hK K
          try simp only [Act.put, List.setIfInBounds_toArray, List.set_cons_zero, List.set_cons_succ]
          refine held_take (i := 20) (v := ?_) rfl (by kernel_rfl) (by kernel_rfl) (by kernel_rfl) (fun _ _ _ h => h) (by rfl) (fun W hW => ?_) hHeld ?_
          rotate_left
          · (obtain ⟨_, c1, c2, c3, c4, cx⟩ := hW; go_simp; try with_reducible rfl)
          try simp only [Act.put, List.setIfInBounds_toArray, List.set_cons_zero, List.set_cons_succ]
          refine held_take (i := 21) (v := ?_) rfl (by kernel_rfl) (by kernel_rfl) (by kernel_rfl) (fun _ _ _ h => h) (by rfl) (fun W hW => ?_) hHeld ?_
          rotate_left
          · (obtain ⟨_, c1, c2, c3, c4, cx⟩ := hW; go_simp; try with_reducible rfl)
          try simp only [Act.put, List.setIfInBounds_toArray, List.set_cons_zero, List.set_cons_succ]
          refine wpAnyH_ready (rs := [23]) (by kernel_rfl) (by simp) ?_
          refine held_cons rfl (fun K hK => ?_) AllReadyH.nil
          go_simp
          have HOE := hid (own_lit wS 49 3 2 wS.heap.size #[.string (wordX kn), .int .i64 (1 + vl % 3), .int .i64 (vl % 100 - 5), .string ⟨#[116, 119, 111]⟩, .int .i64 2, .int .i64 2] [.string (wordX kn), .int .i64 (1 + vl % 3), .int .i64 (vl % 100 - 5), .string ⟨#[116, 119, 111]⟩, .int .i64 2, .int .i64 2] rfl rfl rfl (by decide))
          have hHeld := hHeld.on (up_alloc wS (.cells #[.string (wordX kn), .int .i64 (1 + vl % 3), .int .i64 (vl % 100 - 5), .string ⟨#[116, 119, 111]⟩, .int .i64 2, .int .i64 2] 49)) (((up_alloc wS (.cells #[.string (wordX kn), .int .i64 (1 + vl % 3), .int .i64 (vl % 100 - 5), .string ⟨#[116, 119, 111]⟩, .int .i64 2, .int .i64 2] 49)).cell (p := ⟨gS, kn, none⟩) (lt_of_cell hHeld.2.2.2.2.2)).trans hHeld.2.2.2.2.2)
          have HRN := hid (HRN.out.on (up_alloc wS (.cells #[.string (wordX kn), .int .i64 (1 + vl % 3), .int .i64 (vl % 100 - 5), .string ⟨#[116, 119, 111]⟩, .int .i64 2, .int .i64 2] 49)))
          refine hK.out _ _ hHeld (fun _ => ?_)
          clear hK K
          generalize wS.alloc (.cells #[.string (wordX kn), .int .i64 (1 + vl % 3), .int .i64 (vl % 100 - 5), .string ⟨#[116, 119, 111]⟩, .int .i64 2, .int .i64 2] 49) = wE at *
          obtain ⟨gE, hgE⟩ : ∃ gE, gE = wS.heap.size := ⟨_, rfl⟩
          rw [← hgE] at HOE ⊢
          clear hgE
          try simp only [Act.put, List.setIfInBounds_toArray, List.set_cons_zero, List.set_cons_succ]
          refine held_take (i := 24) (v := ?_) rfl (by kernel_rfl) (by kernel_rfl) (by kernel_rfl) (fun _ _ _ h => h) (by rfl) (fun W hW => ?_) hHeld ?_
          rotate_left
          · (obtain ⟨_, c1, c2, c3, c4, cx⟩ := hW; go_simp; try with_reducible rfl)
          try simp only [Act.put, List.setIfInBounds_toArray, List.set_cons_zero, List.set_cons_succ]
          refine wpAnyH_ready (rs := [25]) (by kernel_rfl) (by simp) ?_
          refine held_cons rfl (fun K hK => ?_) AllReadyH.nil
          go_simp
          have HLA := hid (cells_lit wE 33 [.string ⟨#[120]⟩, .int .i64 (-1), .int .i64 (d % 4), .slice (some ⟨gE, 0, none⟩) 2 2, .slice adu nu capu, .slice none 0 0] #[.string ⟨#[120]⟩, .int .i64 (-1), .int .i64 (d % 4), .slice (some ⟨gE, 0, none⟩) 2 2, .slice adu nu capu, .slice none 0 0] rfl wE.heap.size 1 6 rfl rfl (by intro u hu; simp at hu; rcases hu with rfl | rfl | rfl | rfl | rfl | rfl <;> rfl))
          have hHeld := hHeld.on (up_alloc wE (.cells #[.string ⟨#[120]⟩, .int .i64 (-1), .int .i64 (d % 4), .slice (some ⟨gE, 0, none⟩) 2 2, .slice adu nu capu, .slice none 0 0] 33)) (((up_alloc wE (.cells #[.string ⟨#[120]⟩, .int .i64 (-1), .int .i64 (d % 4), .slice (some ⟨gE, 0, none⟩) 2 2, .slice adu nu capu, .slice none 0 0] 33)).cell (p := ⟨gS, kn, none⟩) (lt_of_cell hHeld.2.2.2.2.2)).trans hHeld.2.2.2.2.2)
          have HRN := hid (HRN.out.on (up_alloc wE (.cells #[.string ⟨#[120]⟩, .int .i64 (-1), .int .i64 (d % 4), .slice (some ⟨gE, 0, none⟩) 2 2, .slice adu nu capu, .slice none 0 0] 33)))
          have HOE := hid (owns_below HOE.out (up_alloc wE (.cells #[.string ⟨#[120]⟩, .int .i64 (-1), .int .i64 (d % 4), .slice (some ⟨gE, 0, none⟩) 2 2, .slice adu nu capu, .slice none 0 0] 33)))
          refine hK.out _ _ hHeld (fun _ => ?_)
          clear hK K
          generalize wE.alloc (.cells #[.string ⟨#[120]⟩, .int .i64 (-1), .int .i64 (d % 4), .slice (some ⟨gE, 0, none⟩) 2 2, .slice adu nu capu, .slice none 0 0] 33) = wL at *
          obtain ⟨gL, hgL⟩ : ∃ gL, gL = wE.heap.size := ⟨_, rfl⟩
          rw [← hgL] at HLA ⊢
          clear hgL
          have HF := hid (HFIN.out wL gE adu nu capu hHeld.1 HRN.out HOE.out)
          try simp only [Act.put, List.setIfInBounds_toArray, List.set_cons_zero, List.set_cons_succ]
          refine wpAnyH_ready (rs := [26]) (by kernel_rfl) (by simp) ?_
          refine held_cons rfl (fun K hK => ?_) AllReadyH.nil
          refine step_append_full _ rfl (.tmp 11) (.tmp 36) 67 33 rfl (.agg #[.string ⟨#[]⟩, .int .i64 0, .int .i64 0, .slice none 0 0, .slice none 0 0, .slice none 0 0]) 6 104 Tryz.underlying67 info_Locale rfl (by decide) (by decide) w.heap.size gl 3 cs rfl (owns_below HO1.out hHeld.1) (.slice (some ⟨gL, 0, none⟩) 1 1) 1 [.string ⟨#[120]⟩, .int .i64 (-1), .int .i64 (d % 4), .slice (some ⟨gE, 0, none⟩) 2 2, .slice adu nu capu, .slice none 0 0] rfl HLA.out 4 rfl (by decide) (by decide) (Nat.le_trans hw1 hHeld.1.size) ?_
          intro capB wB h1 h2
          have HF := hid (HF.out capB wB h1 h2)
          have hHeld := hHeld.on h2 ((h2.cell (p := ⟨gS, kn, none⟩) (lt_of_cell hHeld.2.2.2.2.2)).trans hHeld.2.2.2.2.2)
          refine hK.out _ _ hHeld (fun _ => ?_)
          clear hK K h1 h2
          try simp only [Act.put, List.setIfInBounds_toArray, List.set_cons_zero, List.set_cons_succ]
          refine held_take (i := 27) (v := ?_) rfl (by kernel_rfl) (by kernel_rfl) (by kernel_rfl) (fun _ _ _ h => h) (by rfl) (fun W hW => ?_) hHeld ?_
          rotate_left
          · (obtain ⟨_, c1, c2, c3, c4, cx⟩ := hW; go_simp; try with_reducible rfl)
          try simp only [Act.put, List.setIfInBounds_toArray, List.set_cons_zero, List.set_cons_succ]
          refine wpAnyH_done (by kernel_rfl) ?_ _
          go_wp2
          go_ret
          exact HF.out
        refine held_cons rfl (fun K hK => ?_) AllReadyH.nil
        go_simp
        go_at_call 48
        refine (HW.out _ _ _ (by decide)).mono ?_
        rintro e wx ⟨rfl, hwx⟩
        rw [hwx]
        clear hwx wx
        refine hK.out _ _ hHeld (fun _ => ?_)
        clear hK K
        try simp only [Act.put, List.setIfInBounds_toArray, List.set_cons_zero, List.set_cons_succ]
        refine held_take (i := 16) (v := ?_) rfl (by kernel_rfl) (by kernel_rfl) (by kernel_rfl) (fun _ _ _ h => h) (by rfl) (fun W hW => ?_) hHeld ?_
        rotate_left
        · (obtain ⟨_, c1, c2, c3, c4, cx⟩ := hW; go_simp; try with_reducible rfl)
        try simp only [Act.put, List.setIfInBounds_toArray, List.set_cons_zero, List.set_cons_succ]
        refine wpAnyH_ready (rs := [7, 19]) (by kernel_rfl) (by simp) ?_
        refine held_cons rfl (fun K hK => ?_) ?_
        · skip
          go_simp
          have cS := HST.out wR
          have hHeld := hHeld.on (up_alloc wR (.cells #[.string ⟨#[111, 110, 101]⟩, .string ⟨#[120, 32, 121]⟩, .string ⟨#[195, 164]⟩, .string ⟨#[55, 117, 112]⟩, .string ⟨#[45]⟩] 9)) trivial
          have hHeld := hHeld.more (Y := fun W => W.cell? ⟨wR.heap.size, kn, none⟩ = some (.string (wordX kn))) cS
          refine hK.out _ _ (hHeld.less) (fun _ => ?_)
          clear hK K
          have HRN := hid (HRN.out.on (up_alloc wR (.cells #[.string ⟨#[111, 110, 101]⟩, .string ⟨#[120, 32, 121]⟩, .string ⟨#[195, 164]⟩, .string ⟨#[55, 117, 112]⟩, .string ⟨#[45]⟩] 9)))
          clear cS
          generalize wR.alloc (.cells #[.string ⟨#[111, 110, 101]⟩, .string ⟨#[120, 32, 121]⟩, .string ⟨#[195, 164]⟩, .string ⟨#[55, 117, 112]⟩, .string ⟨#[45]⟩] 9) = wS at *
          obtain ⟨gS, hgS⟩ : ∃ gS, gS = wR.heap.size := ⟨_, rfl⟩
          rw [← hgS] at hHeld ⊢
          clear hgS
          refine held_weaken (S' := HM w1 w.heap.size (.int .i64 d) (.int .i64 wd) (.int .i64 vl) (.slice adr nr capr) (fun W => W.cell? ⟨gS, kn, none⟩ = some (.string (wordX kn)))) (fun _ h => h.less) _ _ _ _ ?_
          try simp only [Act.put, List.setIfInBounds_toArray, List.set_cons_zero, List.set_cons_succ]
          refine held_take (i := 11) (v := ?_) rfl (by kernel_rfl) (by kernel_rfl) (by kernel_rfl) (fun _ _ _ h => h) (by rfl) (fun W hW => ?_) hHeld ?_
          rotate_left
          · (obtain ⟨_, c1, c2, c3, c4, cx⟩ := hW; go_simp; try with_reducible rfl)
          try simp only [Act.put, List.setIfInBounds_toArray, List.set_cons_zero, List.set_cons_succ]
          refine held_take (i := 12) (v := ?_) rfl (by kernel_rfl) (by kernel_rfl) (by kernel_rfl) (fun _ _ _ h => h) (by rfl) (fun W hW => ?_) hHeld ?_
          rotate_left
          · (obtain ⟨_, c1, c2, c3, c4, cx⟩ := hW; go_simp; try with_reducible rfl)
          try simp only [Act.put, List.setIfInBounds_toArray, List.set_cons_zero, List.set_cons_succ]
          refine wpAnyH_ready (rs := [19]) (by kernel_rfl) (by simp) ?_
          refine held_cons rfl (fun K hK => ?_) AllReadyH.nil
          go_simp
          go_at_call 48
          refine (HW.out _ _ _ (by decide)).mono ?_
          rintro e wx ⟨rfl, hwx⟩
          rw [hwx]
          clear hwx wx
          refine hK.out _ _ hHeld (fun _ => ?_)
          clear hK K
          try simp only [Act.put, List.setIfInBounds_toArray, List.set_cons_zero, List.set_cons_succ]
          refine held_take (i := 20) (v := ?_) rfl (by kernel_rfl) (by kernel_rfl) (by kernel_rfl) (fun _ _ _ h => h) (by rfl) (fun W hW => ?_) hHeld ?_
          rotate_left
          · (obtain ⟨_, c1, c2, c3, c4, cx⟩ := hW; go_simp; try with_reducible rfl)
          try simp only [Act.put, List.setIfInBounds_toArray, List.set_cons_zero, List.set_cons_succ]
          refine held_take (i := 21) (v := ?_) rfl (by kernel_rfl) (by kernel_rfl) (by kernel_rfl) (fun _ _ _ h => h) (by rfl) (fun W hW => ?_) hHeld ?_
          rotate_left
          · (obtain ⟨_, c1, c2, c3, c4, cx⟩ := hW; go_simp; try with_reducible rfl)
          try simp only [Act.put, List.setIfInBounds_toArray, List.set_cons_zero, List.set_cons_succ]
          refine wpAnyH_ready (rs := [23]) (by kernel_rfl) (by simp) ?_
          refine held_cons rfl (fun K hK => ?_) AllReadyH.nil
          go_simp
          have HOE := hid (own_lit wS 49 3 2 wS.heap.size #[.string (wordX kn), .int .i64 (1 + vl % 3), .int .i64 (vl % 100 - 5), .string ⟨#[116, 119, 111]⟩, .int .i64 2, .int .i64 2] [.string (wordX kn), .int .i64 (1 + vl % 3), .int .i64 (vl % 100 - 5), .string ⟨#[116, 119, 111]⟩, .int .i64 2, .int .i64 2] rfl rfl rfl (by decide))
          have hHeld := hHeld.on (up_alloc wS (.cells #[.string (wordX kn), .int .i64 (1 + vl % 3), .int .i64 (vl % 100 - 5), .string ⟨#[116, 119, 111]⟩, .int .i64 2, .int .i64 2] 49)) (((up_alloc wS (.cells #[.string (wordX kn), .int .i64 (1 + vl % 3), .int .i64 (vl % 100 - 5), .string ⟨#[116, 119, 111]⟩, .int .i64 2, .int .i64 2] 49)).cell (p := ⟨gS, kn, none⟩) (lt_of_cell hHeld.2.2.2.2.2)).trans hHeld.2.2.2.2.2)
          have HRN := hid (HRN.out.on (up_alloc wS (.cells #[.string (wordX kn), .int .i64 (1 + vl % 3), .int .i64 (vl % 100 - 5), .string ⟨#[116, 119, 111]⟩, .int .i64 2, .int .i64 2] 49)))
          refine hK.out _ _ hHeld (fun _ => ?_)
          clear hK K
          generalize wS.alloc (.cells #[.string (wordX kn), .int .i64 (1 + vl % 3), .int .i64 (vl % 100 - 5), .string ⟨#[116, 119, 111]⟩, .int .i64 2, .int .i64 2] 49) = wE at *
          obtain ⟨gE, hgE⟩ : ∃ gE, gE = wS.heap.size := ⟨_, rfl⟩
          rw [← hgE] at HOE ⊢
          clear hgE
          try simp only [Act.put, List.setIfInBounds_toArray, List.set_cons_zero, List.set_cons_succ]
          refine held_take (i := 24) (v := ?_) rfl (by kernel_rfl) (by kernel_rfl) (by kernel_rfl) (fun _ _ _ h => h) (by rfl) (fun W hW => ?_) hHeld ?_
          rotate_left
          · (obtain ⟨_, c1, c2, c3, c4, cx⟩ := hW; go_simp; try with_reducible rfl)
          try simp only [Act.put, List.setIfInBounds_toArray, List.set_cons_zero, List.set_cons_succ]
          refine wpAnyH_ready (rs := [25]) (by kernel_rfl) (by simp) ?_
          refine held_cons rfl (fun K hK => ?_) AllReadyH.nil
          go_simp
          have HLA := hid (cells_lit wE 33 [.string ⟨#[120]⟩, .int .i64 (-1), .int .i64 (d % 4), .slice (some ⟨gE, 0, none⟩) 2 2, .slice adu nu capu, .slice none 0 0] #[.string ⟨#[120]⟩, .int .i64 (-1), .int .i64 (d % 4), .slice (some ⟨gE, 0, none⟩) 2 2, .slice adu nu capu, .slice none 0 0] rfl wE.heap.size 1 6 rfl rfl (by intro u hu; simp at hu; rcases hu with rfl | rfl | rfl | rfl | rfl | rfl <;> rfl))
          have hHeld := hHeld.on (up_alloc wE (.cells #[.string ⟨#[120]⟩, .int .i64 (-1), .int .i64 (d % 4), .slice (some ⟨gE, 0, none⟩) 2 2, .slice adu nu capu, .slice none 0 0] 33)) (((up_alloc wE (.cells #[.string ⟨#[120]⟩, .int .i64 (-1), .int .i64 (d % 4), .slice (some ⟨gE, 0, none⟩) 2 2, .slice adu nu capu, .slice none 0 0] 33)).cell (p := ⟨gS, kn, none⟩) (lt_of_cell hHeld.2.2.2.2.2)).trans hHeld.2.2.2.2.2)
          have HRN := hid (HRN.out.on (up_alloc wE (.cells #[.string ⟨#[120]⟩, .int .i64 (-1), .int .i64 (d % 4), .slice (some ⟨gE, 0, none⟩) 2 2, .slice adu nu capu, .slice none 0 0] 33)))
          have HOE := hid (owns_below HOE.out (up_alloc wE (.cells #[.string ⟨#[120]⟩, .int .i64 (-1), .int .i64 (d % 4), .slice (some ⟨gE, 0, none⟩) 2 2, .slice adu nu capu, .slice none 0 0] 33)))
          refine hK.out _ _ hHeld (fun _ => ?_)
          clear hK K
          generalize wE.alloc (.cells #[.string ⟨#[120]⟩, .int .i64 (-1), .int .i64 (d % 4), .slice (some ⟨gE, 0, none⟩) 2 2, .slice adu nu capu, .slice none 0 0] 33) = wL at *
          obtain ⟨gL, hgL⟩ : ∃ gL, gL = wE.heap.size := ⟨_, rfl⟩
          rw [← hgL] at HLA ⊢
          clear hgL
          have HF := hid (HFIN.out wL gE adu nu capu hHeld.1 HRN.out HOE.out)
          try simp only [Act.put, List.setIfInBounds_toArray, List.set_cons_zero, List.set_cons_succ]
          refine wpAnyH_ready (rs := [26]) (by kernel_rfl) (by simp) ?_
          refine held_cons rfl (fun K hK => ?_) AllReadyH.nil
          refine step_append_full _ rfl (.tmp 11) (.tmp 36) 67 33 rfl (.agg #[.string ⟨#[]⟩, .int .i64 0, .int .i64 0, .slice none 0 0, .slice none 0 0, .slice none 0 0]) 6 104 Tryz.underlying67 info_Locale rfl (by decide) (by decide) w.heap.size gl 3 cs rfl (owns_below HO1.out hHeld.1) (.slice (some ⟨gL, 0, none⟩) 1 1) 1 [.string ⟨#[120]⟩, .int .i64 (-1), .int .i64 (d % 4), .slice (some ⟨gE, 0, none⟩) 2 2, .slice adu nu capu, .slice none 0 0] rfl HLA.out 4 rfl (by decide) (by decide) (Nat.le_trans hw1 hHeld.1.size) ?_
          intro capB wB h1 h2
          have HF := hid (HF.out capB wB h1 h2)
          have hHeld := hHeld.on h2 ((h2.cell (p := ⟨gS, kn, none⟩) (lt_of_cell hHeld.2.2.2.2.2)).trans hHeld.2.2.2.2.2)
          refine hK.out _ _ hHeld (fun _ => ?_)
          clear hK K h1 h2
          try simp only [Act.put, List.setIfInBounds_toArray, List.set_cons_zero, List.set_cons_succ]
          refine held_take (i := 27) (v := ?_) rfl (by kernel_rfl) (by kernel_rfl) (by kernel_rfl) (fun _ _ _ h => h) (by rfl) (fun W hW => ?_) hHeld ?_
          rotate_left
          · (obtain ⟨_, c1, c2, c3, c4, cx⟩ := hW; go_simp; try with_reducible rfl)
          try simp only [Act.put, List.setIfInBounds_toArray, List.set_cons_zero, List.set_cons_succ]
          refine wpAnyH_done (by kernel_rfl) ?_ _
          go_wp2
          go_ret
          exact HF.out
        refine held_cons rfl (fun K hK => ?_) AllReadyH.nil
        go_simp
        go_at_call 48
        refine (HW.out _ _ _ (by decide)).mono ?_
        rintro e wx ⟨rfl, hwx⟩
        rw [hwx]
        clear hwx wx
        refine hK.out _ _ hHeld (fun _ => ?_)
        clear hK K
        try simp only [Act.put, List.setIfInBounds_toArray, List.set_cons_zero, List.set_cons_succ]
        refine held_take (i := 20) (v := ?_) rfl (by kernel_rfl) (by kernel_rfl) (by kernel_rfl) (fun _ _ _ h => h) (by rfl) (fun W hW => ?_) hHeld ?_
        rotate_left
        · (obtain ⟨_, c1, c2, c3, c4, cx⟩ := hW; go_simp; try with_reducible rfl)
        try simp only [Act.put, List.setIfInBounds_toArray, List.set_cons_zero, List.set_cons_succ]
        refine wpAnyH_ready (rs := [7]) (by kernel_rfl) (by simp) ?_
        refine held_cons rfl (fun K hK => ?_) AllReadyH.nil
        go_simp
        have cS := HST.out wR
        have hHeld := hHeld.on (up_alloc wR (.cells #[.string ⟨#[111, 110, 101]⟩, .string ⟨#[120, 32, 121]⟩, .string ⟨#[195, 164]⟩, .string ⟨#[55, 117, 112]⟩, .string ⟨#[45]⟩] 9)) trivial
        have hHeld := hHeld.more (Y := fun W => W.cell? ⟨wR.heap.size, kn, none⟩ = some (.string (wordX kn))) cS
        refine hK.out _ _ (hHeld.less) (fun _ => ?_)
        clear hK K
        have HRN := hid (HRN.out.on (up_alloc wR (.cells #[.string ⟨#[111, 110, 101]⟩, .string ⟨#[120, 32, 121]⟩, .string ⟨#[195, 164]⟩, .string ⟨#[55, 117, 112]⟩, .string ⟨#[45]⟩] 9)))
        clear cS
        generalize wR.alloc (.cells #[.string ⟨#[111, 110, 101]⟩, .string ⟨#[120, 32, 121]⟩, .string ⟨#[195, 164]⟩, .string ⟨#[55, 117, 112]⟩, .string ⟨#[45]⟩] 9) = wS at *
        obtain ⟨gS, hgS⟩ : ∃ gS, gS = wR.heap.size := ⟨_, rfl⟩
        rw [← hgS] at hHeld ⊢
        clear hgS
        refine held_weaken (S' := HM w1 w.heap.size (.int .i64 d) (.int .i64 wd) (.int .i64 vl) (.slice adr nr capr) (fun W => W.cell? ⟨gS, kn, none⟩ = some (.string (wordX kn)))) (fun _ h => h.less) _ _ _ _ ?_
        try simp only [Act.put, List.setIfInBounds_toArray, List.set_cons_zero, List.set_cons_succ]
        refine held_take (i := 11) (v := ?_) rfl (by kernel_rfl) (by kernel_rfl) (by kernel_rfl) (fun _ _ _ h => h) (by rfl) (fun W hW => ?_) hHeld ?_
        rotate_left
        · (obtain ⟨_, c1, c2, c3, c4, cx⟩ := hW; go_simp; try with_reducible rfl)
        try simp only [Act.put, List.setIfInBounds_toArray, List.set_cons_zero, List.set_cons_succ]
        refine held_take (i := 12) (v := ?_) rfl (by kernel_rfl) (by kernel_rfl) (by kernel_rfl) (fun _ _ _ h => h) (by rfl) (fun W hW => ?_) hHeld ?_
        rotate_left
        · (obtain ⟨_, c1, c2, c3, c4, cx⟩ := hW; go_simp; try with_reducible rfl)
        try simp only [Act.put, List.setIfInBounds_toArray, List.set_cons_zero, List.set_cons_succ]
        refine held_take (i := 21) (v := ?_) rfl (by kernel_rfl) (by kernel_rfl) (by kernel_rfl) (fun _ _ _ h => h) (by rfl) (fun W hW => ?_) hHeld ?_
        rotate_left
        · (obtain ⟨_, c1, c2, c3, c4, cx⟩ := hW; go_simp; try with_reducible rfl)
        try simp only [Act.put, List.setIfInBounds_toArray, List.set_cons_zero, List.set_cons_succ]
        refine wpAnyH_ready (rs := [23]) (by kernel_rfl) (by simp) ?_
        refine held_cons rfl (fun K hK => ?_) AllReadyH.nil
        go_simp
        have HOE := hid (own_lit wS 49 3 2 wS.heap.size #[.string (wordX kn), .int .i64 (1 + vl % 3), .int .i64 (vl % 100 - 5), .string ⟨#[116, 119, 111]⟩, .int .i64 2, .int .i64 2] [.string (wordX kn), .int .i64 (1 + vl % 3), .int .i64 (vl % 100 - 5), .string ⟨#[116, 119, 111]⟩, .int .i64 2, .int .i64 2] rfl rfl rfl (by decide))
        have hHeld := hHeld.on (up_alloc wS (.cells #[.string (wordX kn), .int .i64 (1 + vl % 3), .int .i64 (vl % 100 - 5), .string ⟨#[116, 119, 111]⟩, .int .i64 2, .int .i64 2] 49)) (((up_alloc wS (.cells #[.string (wordX kn), .int .i64 (1 + vl % 3), .int .i64 (vl % 100 - 5), .string ⟨#[116, 119, 111]⟩, .int .i64 2, .int .i64 2] 49)).cell (p := ⟨gS, kn, none⟩) (lt_of_cell hHeld.2.2.2.2.2)).trans hHeld.2.2.2.2.2)
        have HRN := hid (HRN.out.on (up_alloc wS (.cells #[.string (wordX kn), .int .i64 (1 + vl % 3), .int .i64 (vl % 100 - 5), .string ⟨#[116, 119, 111]⟩, .int .i64 2, .int .i64 2] 49)))
        refine hK.out _ _ hHeld (fun _ => ?_)
        clear hK K
        generalize wS.alloc (.cells #[.string (wordX kn), .int .i64 (1 + vl % 3), .int .i64 (vl % 100 - 5), .string ⟨#[116, 119, 111]⟩, .int .i64 2, .int .i64 2] 49) = wE at *
        obtain ⟨gE, hgE⟩ : ∃ gE, gE = wS.heap.size := ⟨_, rfl⟩
        rw [← hgE] at HOE ⊢
        clear hgE
        try simp only [Act.put, List.setIfInBounds_toArray, List.set_cons_zero, List.set_cons_succ]
        refine held_take (i := 24) (v := ?_) rfl (by kernel_rfl) (by kernel_rfl) (by kernel_rfl) (fun _ _ _ h => h) (by rfl) (fun W hW => ?_) hHeld ?_
        rotate_left
        · (obtain ⟨_, c1, c2, c3, c4, cx⟩ := hW; go_simp; try with_reducible rfl)
        try simp only [Act.put, List.setIfInBounds_toArray, List.set_cons_zero, List.set_cons_succ]
        refine wpAnyH_ready (rs := [25]) (by kernel_rfl) (by simp) ?_
        refine held_cons rfl (fun K hK => ?_) AllReadyH.nil
        go_simp
        have HLA := hid (cells_lit wE 33 [.string ⟨#[120]⟩, .int .i64 (-1), .int .i64 (d % 4), .slice (some ⟨gE, 0, none⟩) 2 2, .slice adu nu capu, .slice none 0 0] #[.string ⟨#[120]⟩, .int .i64 (-1), .int .i64 (d % 4), .slice (some ⟨gE, 0, none⟩) 2 2, .slice adu nu capu, .slice none 0 0] rfl wE.heap.size 1 6 rfl rfl (by intro u hu; simp at hu; rcases hu with rfl | rfl | rfl | rfl | rfl | rfl <;> rfl))
        have hHeld := hHeld.on (up_alloc wE (.cells #[.string ⟨#[120]⟩, .int .i64 (-1), .int .i64 (d % 4), .slice (some ⟨gE, 0, none⟩) 2 2, .slice adu nu capu, .slice none 0 0] 33)) (((up_alloc wE (.cells #[.string ⟨#[120]⟩, .int .i64 (-1), .int .i64 (d % 4), .slice (some ⟨gE, 0, none⟩) 2 2, .slice adu nu capu, .slice none 0 0] 33)).cell (p := ⟨gS, kn, none⟩) (lt_of_cell hHeld.2.2.2.2.2)).trans hHeld.2.2.2.2.2)
        have HRN := hid (HRN.out.on (up_alloc wE (.cells #[.string ⟨#[120]⟩, .int .i64 (-1), .int .i64 (d % 4), .slice (some ⟨gE, 0, none⟩) 2 2, .slice adu nu capu, .slice none 0 0] 33)))
        have HOE := hid (owns_below HOE.out (up_alloc wE (.cells #[.string ⟨#[120]⟩, .int .i64 (-1), .int .i64 (d % 4), .slice (some ⟨gE, 0, none⟩) 2 2, .slice adu nu capu, .slice none 0 0] 33)))
        refine hK.out _ _ hHeld (fun _ => ?_)
        clear hK K
        generalize wE.alloc (.cells #[.string ⟨#[120]⟩, .int .i64 (-1), .int .i64 (d % 4), .slice (some ⟨gE, 0, none⟩) 2 2, .slice adu nu capu, .slice none 0 0] 33) = wL at *
        obtain ⟨gL, hgL⟩ : ∃ gL, gL = wE.heap.size := ⟨_, rfl⟩
        rw [← hgL] at HLA ⊢
        clear hgL
        have HF := hid (HFIN.out wL gE adu nu capu hHeld.1 HRN.out HOE.out)
        try simp only [Act.put, List.setIfInBounds_toArray, List.set_cons_zero, List.set_cons_succ]
        refine wpAnyH_ready (rs := [26]) (by kernel_rfl) (by simp) ?_
        refine held_cons rfl (fun K hK => ?_) AllReadyH.nil
        refine step_append_full _ rfl (.tmp 11) (.tmp 36) 67 33 rfl (.agg #[.string ⟨#[]⟩, .int .i64 0, .int .i64 0, .slice none 0 0, .slice none 0 0, .slice none 0 0]) 6 104 Tryz.underlying67 info_Locale rfl (by decide) (by decide) w.heap.size gl 3 cs rfl (owns_below HO1.out hHeld.1) (.slice (some ⟨gL, 0, none⟩) 1 1) 1 [.string ⟨#[120]⟩, .int .i64 (-1), .int .i64 (d % 4), .slice (some ⟨gE, 0, none⟩) 2 2, .slice adu nu capu, .slice none 0 0] rfl HLA.out 4 rfl (by decide) (by decide) (Nat.le_trans hw1 hHeld.1.size) ?_
        intro capB wB h1 h2
        have HF := hid (HF.out capB wB h1 h2)
        have hHeld := hHeld.on h2 ((h2.cell (p := ⟨gS, kn, none⟩) (lt_of_cell hHeld.2.2.2.2.2)).trans hHeld.2.2.2.2.2)
        refine hK.out _ _ hHeld (fun _ => ?_)
        clear hK K h1 h2
        try simp only [Act.put, List.setIfInBounds_toArray, List.set_cons_zero, List.set_cons_succ]
        refine held_take (i := 27) (v := ?_) rfl (by kernel_rfl) (by kernel_rfl) (by kernel_rfl) (fun _ _ _ h => h) (by rfl) (fun W hW => ?_) hHeld ?_
        rotate_left
        · (obtain ⟨_, c1, c2, c3, c4, cx⟩ := hW; go_simp; try with_reducible rfl)
        try simp only [Act.put, List.setIfInBounds_toArray, List.set_cons_zero, List.set_cons_succ]
        refine wpAnyH_done (by kernel_rfl) ?_ _
        go_wp2
        go_ret
        exact HF.out
      refine held_cons rfl (fun K hK => ?_) AllReadyH.nil
      go_simp
      have cS := HST.out w0
      have hHeld := hHeld.on (up_alloc w0 (.cells #[.string ⟨#[111, 110, 101]⟩, .string ⟨#[120, 32, 121]⟩, .string ⟨#[195, 164]⟩, .string ⟨#[55, 117, 112]⟩, .string ⟨#[45]⟩] 9)) trivial
      have hHeld := hHeld.more (Y := fun W => W.cell? ⟨w0.heap.size, kn, none⟩ = some (.string (wordX kn))) cS
      refine hK.out _ _ (hHeld.less) (fun _ => ?_)
      clear hK K
      clear cS
      generalize w0.alloc (.cells #[.string ⟨#[111, 110, 101]⟩, .string ⟨#[120, 32, 121]⟩, .string ⟨#[195, 164]⟩, .string ⟨#[55, 117, 112]⟩, .string ⟨#[45]⟩] 9) = wS at *
      obtain ⟨gS, hgS⟩ : ∃ gS, gS = w0.heap.size := ⟨_, rfl⟩
      rw [← hgS] at hHeld ⊢
      clear hgS
      refine held_weaken (S' := HM w1 w.heap.size (.int .i64 d) (.int .i64 wd) (.int .i64 vl) (.slice adr nr capr) (fun W => W.cell? ⟨gS, kn, none⟩ = some (.string (wordX kn)))) (fun _ h => h.less) _ _ _ _ ?_
      try simp only [Act.put, List.setIfInBounds_toArray, List.set_cons_zero, List.set_cons_succ]
      refine wpAnyH_ready (rs := [6]) (by kernel_rfl) (by simp) ?_
      refine held_cons rfl (fun K hK => ?_) AllReadyH.nil
      go_simp
      go_at_call 49
      refine (HRL.out _ hHeld.1).mono ?_
      rintro e wR ⟨adu, nu, capu, rfl, hRN, ba⟩
      have HRN := hid hRN
      clear hRN
      have hHeld := hHeld.on ba ((ba.cell (p := ⟨gS, kn, none⟩) (lt_of_cell hHeld.2.2.2.2.2)).trans hHeld.2.2.2.2.2)
      refine hK.out _ _ hHeld (fun _ => ?_)
      clear hK K ba
      try simp only [Act.put, List.setIfInBounds_toArray, List.set_cons_zero, List.set_cons_succ]
      refine wpAnyH_ready (rs := [10]) (by kernel_rfl) (by simp) ?_
      refine held_cons rfl (fun K hK => ?_) AllReadyH.nil
      go_simp
      go_at_call 48
      refine (HW.out _ _ _ (by decide)).mono ?_
      rintro e wx ⟨rfl, hwx⟩
      rw [hwx]
      clear hwx wx
      rw [hkn]
      refine hK.out _ _ hHeld (fun _ => ?_)
      clear hK K
      try simp only [Act.put, List.setIfInBounds_toArray, List.set_cons_zero, List.set_cons_succ]
      refine held_take (i := 11) (v := ?_) rfl (by kernel_rfl) (by kernel_rfl) (by kernel_rfl) (fun _ _ _ h => h) (by rfl) (fun W hW => ?_) hHeld ?_
      rotate_left
      · (obtain ⟨_, c1, c2, c3, c4, cx⟩ := hW; go_simp; try with_reducible rfl)
      try simp only [Act.put, List.setIfInBounds_toArray, List.set_cons_zero, List.set_cons_succ]
      refine held_take (i := 12) (v := ?_) rfl (by kernel_rfl) (by kernel_rfl) (by kernel_rfl) (fun _ _ _ h => h) (by rfl) (fun W hW => ?_) hHeld ?_
      rotate_left
      · (obtain ⟨_, c1, c2, c3, c4, cx⟩ := hW; go_simp; try with_reducible rfl)
      try simp only [Act.put, List.setIfInBounds_toArray, List.set_cons_zero, List.set_cons_succ]
      refine wpAnyH_ready (rs := [15]) (by kernel_rfl) (by simp) ?_
      refine held_cons rfl (fun K hK => ?_) AllReadyH.nil
      go_simp
      go_at_call 48
      refine (HW.out _ _ _ (by decide)).mono ?_
      rintro e wx ⟨rfl, hwx⟩
      rw [hwx]
      clear hwx wx
      refine hK.out _ _ hHeld (fun _ => ?_)
      clear hK K
      try simp only [Act.put, List.setIfInBounds_toArray, List.set_cons_zero, List.set_cons_succ]
      refine held_take (i := 16) (v := ?_) rfl (by kernel_rfl) (by kernel_rfl) (by kernel_rfl) (fun _ _ _ h => h) (by rfl) (fun W hW => ?_) hHeld ?_
      rotate_left
      · (obtain ⟨_, c1, c2, c3, c4, cx⟩ := hW; go_simp; try with_reducible rfl)
      try simp only [Act.put, List.setIfInBounds_toArray, List.set_cons_zero, List.set_cons_succ]
      refine wpAnyH_ready (rs := [19]) (by kernel_rfl) (by simp) ?_
      refine held_cons rfl (fun K hK => ?_) AllReadyH.nil
      go_simp
      go_at_call 48
      refine (HW.out _ _ _ (by decide)).mono ?_
      rintro e wx ⟨rfl, hwx⟩
      rw [hwx]
      clear hwx wx
      refine hK.out _ _ hHeld (fun _ => ?_)
      clear hK K
      try simp only [Act.put, List.setIfInBounds_toArray, List.set_cons_zero, List.set_cons_succ]
      refine held_take (i := 20) (v := ?_) rfl (by kernel_rfl) (by kernel_rfl) (by kernel_rfl) (fun _ _ _ h => h) (by rfl) (fun W hW => ?_) hHeld ?_
      rotate_left
      · (obtain ⟨_, c1, c2, c3, c4, cx⟩ := hW; go_simp; try with_reducible rfl)
      try simp only [Act.put, List.setIfInBounds_toArray, List.set_cons_zero, List.set_cons_succ]
      refine held_take (i := 21) (v := ?_) rfl (by kernel_rfl) (by kernel_rfl) (by kernel_rfl) (fun _ _ _ h => h) (by rfl) (fun W hW => ?_) hHeld ?_
      rotate_left
      · (obtain ⟨_, c1, c2, c3, c4, cx⟩ := hW; go_simp; try with_reducible rfl)
      try simp only [Act.put, List.setIfInBounds_toArray, List.set_cons_zero, List.set_cons_succ]
      refine wpAnyH_ready (rs := [23]) (by kernel_rfl) (by simp) ?_
      refine held_cons rfl (fun K hK => ?_) AllReadyH.nil
      go_simp
      have HOE := hid (own_lit wR 49 3 2 wR.heap.size #[.string (wordX kn), .int .i64 (1 + vl % 3), .int .i64 (vl % 100 - 5), .string ⟨#[116, 119, 111]⟩, .int .i64 2, .int .i64 2] [.string (wordX kn), .int .i64 (1 + vl % 3), .int .i64 (vl % 100 - 5), .string ⟨#[116, 119, 111]⟩, .int .i64 2, .int .i64 2] rfl rfl rfl (by decide))
      have hHeld := hHeld.on (up_alloc wR (.cells #[.string (wordX kn), .int .i64 (1 + vl % 3), .int .i64 (vl % 100 - 5), .string ⟨#[116, 119, 111]⟩, .int .i64 2, .int .i64 2] 49)) (((up_alloc wR (.cells #[.string (wordX kn), .int .i64 (1 + vl % 3), .int .i64 (vl % 100 - 5), .string ⟨#[116, 119, 111]⟩, .int .i64 2, .int .i64 2] 49)).cell (p := ⟨gS, kn, none⟩) (lt_of_cell hHeld.2.2.2.2.2)).trans hHeld.2.2.2.2.2)
      have HRN := hid (HRN.out.on (up_alloc wR (.cells #[.string (wordX kn), .int .i64 (1 + vl % 3), .int .i64 (vl % 100 - 5), .string ⟨#[116, 119, 111]⟩, .int .i64 2, .int .i64 2] 49)))
      refine hK.out _ _ hHeld (fun _ => ?_)
      clear hK K
      generalize wR.alloc (.cells #[.string (wordX kn), .int .i64 (1 + vl % 3), .int .i64 (vl % 100 - 5), .string ⟨#[116, 119, 111]⟩, .int .i64 2, .int .i64 2] 49) = wE at *
      obtain ⟨gE, hgE⟩ : ∃ gE, gE = wR.heap.size := ⟨_, rfl⟩
      rw [← hgE] at HOE ⊢
      clear hgE
      try simp only [Act.put, List.setIfInBounds_toArray, List.set_cons_zero, List.set_cons_succ]
      refine held_take (i := 24) (v := ?_) rfl (by kernel_rfl) (by kernel_rfl) (by kernel_rfl) (fun _ _ _ h => h) (by rfl) (fun W hW => ?_) hHeld ?_
      rotate_left
      · (obtain ⟨_, c1, c2, c3, c4, cx⟩ := hW; go_simp; try with_reducible rfl)
      try simp only [Act.put, List.setIfInBounds_toArray, List.set_cons_zero, List.set_cons_succ]
      refine wpAnyH_ready (rs := [25]) (by kernel_rfl) (by simp) ?_
      refine held_cons rfl (fun K hK => ?_) AllReadyH.nil
      go_simp
      have HLA := hid (cells_lit wE 33 [.string ⟨#[120]⟩, .int .i64 (-1), .int .i64 (d % 4), .slice (some ⟨gE, 0, none⟩) 2 2, .slice adu nu capu, .slice none 0 0] #[.string ⟨#[120]⟩, .int .i64 (-1), .int .i64 (d % 4), .slice (some ⟨gE, 0, none⟩) 2 2, .slice adu nu capu, .slice none 0 0] rfl wE.heap.size 1 6 rfl rfl (by intro u hu; simp at hu; rcases hu with rfl | rfl | rfl | rfl | rfl | rfl <;> rfl))
      have hHeld := hHeld.on (up_alloc wE (.cells #[.string ⟨#[120]⟩, .int .i64 (-1), .int .i64 (d % 4), .slice (some ⟨gE, 0, none⟩) 2 2, .slice adu nu capu, .slice none 0 0] 33)) (((up_alloc wE (.cells #[.string ⟨#[120]⟩, .int .i64 (-1), .int .i64 (d % 4), .slice (some ⟨gE, 0, none⟩) 2 2, .slice adu nu capu, .slice none 0 0] 33)).cell (p := ⟨gS, kn, none⟩) (lt_of_cell hHeld.2.2.2.2.2)).trans hHeld.2.2.2.2.2)
      have HRN := hid (HRN.out.on (up_alloc wE (.cells #[.string ⟨#[120]⟩, .int .i64 (-1), .int .i64 (d % 4), .slice (some ⟨gE, 0, none⟩) 2 2, .slice adu nu capu, .slice none 0 0] 33)))
      have HOE := hid (owns_below HOE.out (up_alloc wE (.cells #[.string ⟨#[120]⟩, .int .i64 (-1), .int .i64 (d % 4), .slice (some ⟨gE, 0, none⟩) 2 2, .slice adu nu capu, .slice none 0 0] 33)))
      refine hK.out _ _ hHeld (fun _ => ?_)
      clear hK K
      generalize wE.alloc (.cells #[.string ⟨#[120]⟩, .int .i64 (-1), .int .i64 (d % 4), .slice (some ⟨gE, 0, none⟩) 2 2, .slice adu nu capu, .slice none 0 0] 33) = wL at *
      obtain ⟨gL, hgL⟩ : ∃ gL, gL = wE.heap.size := ⟨_, rfl⟩
      rw [← hgL] at HLA ⊢
      clear hgL
      have HF := hid (HFIN.out wL gE adu nu capu hHeld.1 HRN.out HOE.out)
      try simp only [Act.put, List.setIfInBounds_toArray, List.set_cons_zero, List.set_cons_succ]
      refine wpAnyH_ready (rs := [26]) (by kernel_rfl) (by simp) ?_
      refine held_cons rfl (fun K hK => ?_) AllReadyH.nil
      refine step_append_full _ rfl (.tmp 11) (.tmp 36) 67 33 rfl (.agg #[.string ⟨#[]⟩, .int .i64 0, .int .i64 0, .slice none 0 0, .slice none 0 0, .slice none 0 0]) 6 104 Tryz.underlying67 info_Locale rfl (by decide) (by decide) w.heap.size gl 3 cs rfl (owns_below HO1.out hHeld.1) (.slice (some ⟨gL, 0, none⟩) 1 1) 1 [.string ⟨#[120]⟩, .int .i64 (-1), .int .i64 (d % 4), .slice (some ⟨gE, 0, none⟩) 2 2, .slice adu nu capu, .slice none 0 0] rfl HLA.out 4 rfl (by decide) (by decide) (Nat.le_trans hw1 hHeld.1.size) ?_
      intro capB wB h1 h2
      have HF := hid (HF.out capB wB h1 h2)
      have hHeld := hHeld.on h2 ((h2.cell (p := ⟨gS, kn, none⟩) (lt_of_cell hHeld.2.2.2.2.2)).trans hHeld.2.2.2.2.2)
      refine hK.out _ _ hHeld (fun _ => ?_)
      clear hK K h1 h2
      try simp only [Act.put, List.setIfInBounds_toArray, List.set_cons_zero, List.set_cons_succ]
      refine held_take (i := 27) (v := ?_) rfl (by kernel_rfl) (by kernel_rfl) (by kernel_rfl) (fun _ _ _ h => h) (by rfl) (fun W hW => ?_) hHeld ?_
      rotate_left
      · (obtain ⟨_, c1, c2, c3, c4, cx⟩ := hW; go_simp; try with_reducible rfl)
      try simp only [Act.put, List.setIfInBounds_toArray, List.set_cons_zero, List.set_cons_succ]
      refine wpAnyH_done (by kernel_rfl) ?_ _
      go_wp2
      go_ret
      exact HF.out
    refine held_cons rfl (fun K hK => ?_) AllReadyH.nil
    go_simp
    have cS := HST.out w0
    have hHeld := hHeld.on (up_alloc w0 (.cells #[.string ⟨#[111, 110, 101]⟩, .string ⟨#[120, 32, 121]⟩, .string ⟨#[195, 164]⟩, .string ⟨#[55, 117, 112]⟩, .string ⟨#[45]⟩] 9)) trivial
    have hHeld := hHeld.more (Y := fun W => W.cell? ⟨w0.heap.size, kn, none⟩ = some (.string (wordX kn))) cS
    refine hK.out _ _ (hHeld.less) (fun _ => ?_)
    clear hK K
    clear cS
    generalize w0.alloc (.cells #[.string ⟨#[111, 110, 101]⟩, .string ⟨#[120, 32, 121]⟩, .string ⟨#[195, 164]⟩, .string ⟨#[55, 117, 112]⟩, .string ⟨#[45]⟩] 9) = wS at *
    obtain ⟨gS, hgS⟩ : ∃ gS, gS = w0.heap.size := ⟨_, rfl⟩
    rw [← hgS] at hHeld ⊢
    clear hgS
    refine held_weaken (S' := HM w1 w.heap.size (.int .i64 d) (.int .i64 wd) (.int .i64 vl) (.slice adr nr capr) (fun W => W.cell? ⟨gS, kn, none⟩ = some (.string (wordX kn)))) (fun _ h => h.less) _ _ _ _ ?_
    try simp only [Act.put, List.setIfInBounds_toArray, List.set_cons_zero, List.set_cons_succ]
    refine wpAnyH_ready (rs := [3]) (by kernel_rfl) (by simp) ?_
    refine held_cons rfl (fun K hK => ?_) AllReadyH.nil
    go_simp
    go_at_call 48
    refine (HW.out _ _ _ (by decide)).mono ?_
    rintro e wx ⟨rfl, hwx⟩
    rw [hwx]
    clear hwx wx
    refine hK.out _ _ hHeld (fun _ => ?_)
    clear hK K
    try simp only [Act.put, List.setIfInBounds_toArray, List.set_cons_zero, List.set_cons_succ]
    refine wpAnyH_ready (rs := [6]) (by kernel_rfl) (by simp) ?_
    refine held_cons rfl (fun K hK => ?_) AllReadyH.nil
    go_simp
    go_at_call 49
    refine (HRL.out _ hHeld.1).mono ?_
    rintro e wR ⟨adu, nu, capu, rfl, hRN, ba⟩
    have HRN := hid hRN
    clear hRN
    have hHeld := hHeld.on ba ((ba.cell (p := ⟨gS, kn, none⟩) (lt_of_cell hHeld.2.2.2.2.2)).trans hHeld.2.2.2.2.2)
    refine hK.out _ _ hHeld (fun _ => ?_)
    clear hK K ba
    try simp only [Act.put, List.setIfInBounds_toArray, List.set_cons_zero, List.set_cons_succ]
    refine wpAnyH_ready (rs := [10]) (by kernel_rfl) (by simp) ?_
    refine held_cons rfl (fun K hK => ?_) AllReadyH.nil
    go_simp
    go_at_call 48
    refine (HW.out _ _ _ (by decide)).mono ?_
    rintro e wx ⟨rfl, hwx⟩
    rw [hwx]
    clear hwx wx
    rw [hkn]
    refine hK.out _ _ hHeld (fun _ => ?_)
    clear hK K
    try simp only [Act.put, List.setIfInBounds_toArray, List.set_cons_zero, List.set_cons_succ]
    refine held_take (i := 11) (v := ?_) rfl (by kernel_rfl) (by kernel_rfl) (by kernel_rfl) (fun _ _ _ h => h) (by rfl) (fun W hW => ?_) hHeld ?_
    rotate_left
    · (obtain ⟨_, c1, c2, c3, c4, cx⟩ := hW; go_simp; try with_reducible rfl)
    try simp only [Act.put, List.setIfInBounds_toArray, List.set_cons_zero, List.set_cons_succ]
    refine held_take (i := 12) (v := ?_) rfl (by kernel_rfl) (by kernel_rfl) (by kernel_rfl) (fun _ _ _ h => h) (by rfl) (fun W hW => ?_) hHeld ?_
    rotate_left
    · (obtain ⟨_, c1, c2, c3, c4, cx⟩ := hW; go_simp; try with_reducible rfl)
    try simp only [Act.put, List.setIfInBounds_toArray, List.set_cons_zero, List.set_cons_succ]
    refine wpAnyH_ready (rs := [15]) (by kernel_rfl) (by simp) ?_
    refine held_cons rfl (fun K hK => ?_) AllReadyH.nil
    go_simp
    go_at_call 48
    refine (HW.out _ _ _ (by decide)).mono ?_
    rintro e wx ⟨rfl, hwx⟩
    rw [hwx]
    clear hwx wx
    refine hK.out _ _ hHeld (fun _ => ?_)
    clear hK K
    try simp only [Act.put, List.setIfInBounds_toArray, List.set_cons_zero, List.set_cons_succ]
    refine held_take (i := 16) (v := ?_) rfl (by kernel_rfl) (by kernel_rfl) (by kernel_rfl) (fun _ _ _ h => h) (by rfl) (fun W hW => ?_) hHeld ?_
    rotate_left
    · (obtain ⟨_, c1, c2, c3, c4, cx⟩ := hW; go_simp; try with_reducible rfl)
    try simp only [Act.put, List.setIfInBounds_toArray, List.set_cons_zero, List.set_cons_succ]
    refine wpAnyH_ready (rs := [19]) (by kernel_rfl) (by simp) ?_
    refine held_cons rfl (fun K hK => ?_) AllReadyH.nil
    go_simp
    go_at_call 48
    refine (HW.out _ _ _ (by decide)).mono ?_
    rintro e wx ⟨rfl, hwx⟩
    rw [hwx]
    clear hwx wx
    refine hK.out _ _ hHeld (fun _ => ?_)
    clear hK K
    try simp only [Act.put, List.setIfInBounds_toArray, List.set_cons_zero, List.set_cons_succ]
    refine held_take (i := 20) (v := ?_) rfl (by kernel_rfl) (by kernel_rfl) (by kernel_rfl) (fun _ _ _ h => h) (by rfl) (fun W hW => ?_) hHeld ?_
    rotate_left
    · (obtain ⟨_, c1, c2, c3, c4, cx⟩ := hW; go_simp; try with_reducible rfl)
    try simp only [Act.put, List.setIfInBounds_toArray, List.set_cons_zero, List.set_cons_succ]
    refine held_take (i := 21) (v := ?_) rfl (by kernel_rfl) (by kernel_rfl) (by kernel_rfl) (fun _ _ _ h => h) (by rfl) (fun W hW => ?_) hHeld ?_
    rotate_left
    · (obtain ⟨_, c1, c2, c3, c4, cx⟩ := hW; go_simp; try with_reducible rfl)
    try simp only [Act.put, List.setIfInBounds_toArray, List.set_cons_zero, List.set_cons_succ]
    refine wpAnyH_ready (rs := [23]) (by kernel_rfl) (by simp) ?_
    refine held_cons rfl (fun K hK => ?_) AllReadyH.nil
    go_simp
    have HOE := hid (own_lit wR 49 3 2 wR.heap.size #[.string (wordX kn), .int .i64 (1 + vl % 3), .int .i64 (vl % 100 - 5), .string ⟨#[116, 119, 111]⟩, .int .i64 2, .int .i64 2] [.string (wordX kn), .int .i64 (1 + vl % 3), .int .i64 (vl % 100 - 5), .string ⟨#[116, 119, 111]⟩, .int .i64 2, .int .i64 2] rfl rfl rfl (by decide))
    have hHeld := hHeld.on (up_alloc wR (.cells #[.string (wordX kn), .int .i64 (1 + vl % 3), .int .i64 (vl % 100 - 5), .string ⟨#[116, 119, 111]⟩, .int .i64 2, .int .i64 2] 49)) (((up_alloc wR (.cells #[.string (wordX kn), .int .i64 (1 + vl % 3), .int .i64 (vl % 100 - 5), .string ⟨#[116, 119, 111]⟩, .int .i64 2, .int .i64 2] 49)).cell (p := ⟨gS, kn, none⟩) (lt_of_cell hHeld.2.2.2.2.2)).trans hHeld.2.2.2.2.2)
    have HRN := hid (HRN.out.on (up_alloc wR (.cells #[.string (wordX kn), .int .i64 (1 + vl % 3), .int .i64 (vl % 100 - 5), .string ⟨#[116, 119, 111]⟩, .int .i64 2, .int .i64 2] 49)))
    refine hK.out _ _ hHeld (fun _ => ?_)
    clear hK K
    generalize wR.alloc (.cells #[.string (wordX kn), .int .i64 (1 + vl % 3), .int .i64 (vl % 100 - 5), .string ⟨#[116, 119, 111]⟩, .int .i64 2, .int .i64 2] 49) = wE at *
    obtain ⟨gE, hgE⟩ : ∃ gE, gE = wR.heap.size := ⟨_, rfl⟩
    rw [← hgE] at HOE ⊢
    clear hgE
    try simp only [Act.put, List.setIfInBounds_toArray, List.set_cons_zero, List.set_cons_succ]
    refine held_take (i := 24) (v := ?_) rfl (by kernel_rfl) (by kernel_rfl) (by kernel_rfl) (fun _ _ _ h => h) (by rfl) (fun W hW => ?_) hHeld ?_
    rotate_left
    · (obtain ⟨_, c1, c2, c3, c4, cx⟩ := hW; go_simp; try with_reducible rfl)
    try simp only [Act.put, List.setIfInBounds_toArray, List.set_cons_zero, List.set_cons_succ]
    refine wpAnyH_ready (rs := [25]) (by kernel_rfl) (by simp) ?_
    refine held_cons rfl (fun K hK => ?_) AllReadyH.nil
    go_simp
    have HLA := hid (cells_lit wE 33 [.string ⟨#[120]⟩, .int .i64 (-1), .int .i64 (d % 4), .slice (some ⟨gE, 0, none⟩) 2 2, .slice adu nu capu, .slice none 0 0] #[.string ⟨#[120]⟩, .int .i64 (-1), .int .i64 (d % 4), .slice (some ⟨gE, 0, none⟩) 2 2, .slice adu nu capu, .slice none 0 0] rfl wE.heap.size 1 6 rfl rfl (by intro u hu; simp at hu; rcases hu with rfl | rfl | rfl | rfl | rfl | rfl <;> rfl))
    have hHeld := hHeld.on (up_alloc wE (.cells #[.string ⟨#[120]⟩, .int .i64 (-1), .int .i64 (d % 4), .slice (some ⟨gE, 0, none⟩) 2 2, .slice adu nu capu, .slice none 0 0] 33)) (((up_alloc wE (.cells #[.string ⟨#[120]⟩, .int .i64 (-1), .int .i64 (d % 4), .slice (some ⟨gE, 0, none⟩) 2 2, .slice adu nu capu, .slice none 0 0] 33)).cell (p := ⟨gS, kn, none⟩) (lt_of_cell hHeld.2.2.2.2.2)).trans hHeld.2.2.2.2.2)
    have HRN := hid (HRN.out.on (up_alloc wE (.cells #[.string ⟨#[120]⟩, .int .i64 (-1), .int .i64 (d % 4), .slice (some ⟨gE, 0, none⟩) 2 2, .slice adu nu capu, .slice none 0 0] 33)))
    have HOE := hid (owns_below HOE.out (up_alloc wE (.cells #[.string ⟨#[120]⟩, .int .i64 (-1), .int .i64 (d % 4), .slice (some ⟨gE, 0, none⟩) 2 2, .slice adu nu capu, .slice none 0 0] 33)))
    refine hK.out _ _ hHeld (fun _ => ?_)
    clear hK K
    generalize wE.alloc (.cells #[.string ⟨#[120]⟩, .int .i64 (-1), .int .i64 (d % 4), .slice (some ⟨gE, 0, none⟩) 2 2, .slice adu nu capu, .slice none 0 0] 33) = wL at *
    obtain ⟨gL, hgL⟩ : ∃ gL, gL = wE.heap.size := ⟨_, rfl⟩
    rw [← hgL] at HLA ⊢
    clear hgL
    have HF := hid (HFIN.out wL gE adu nu capu hHeld.1 HRN.out HOE.out)
    try simp only [Act.put, List.setIfInBounds_toArray, List.set_cons_zero, List.set_cons_succ]
    refine wpAnyH_ready (rs := [26]) (by kernel_rfl) (by simp) ?_
    refine held_cons rfl (fun K hK => ?_) AllReadyH.nil
    refine step_append_full _ rfl (.tmp 11) (.tmp 36) 67 33 rfl (.agg #[.string ⟨#[]⟩, .int .i64 0, .int .i64 0, .slice none 0 0, .slice none 0 0, .slice none 0 0]) 6 104 Tryz.underlying67 info_Locale rfl (by decide) (by decide) w.heap.size gl 3 cs rfl (owns_below HO1.out hHeld.1) (.slice (some ⟨gL, 0, none⟩) 1 1) 1 [.string ⟨#[120]⟩, .int .i64 (-1), .int .i64 (d % 4), .slice (some ⟨gE, 0, none⟩) 2 2, .slice adu nu capu, .slice none 0 0] rfl HLA.out 4 rfl (by decide) (by decide) (Nat.le_trans hw1 hHeld.1.size) ?_
    intro capB wB h1 h2
    have HF := hid (HF.out capB wB h1 h2)
    have hHeld := hHeld.on h2 ((h2.cell (p := ⟨gS, kn, none⟩) (lt_of_cell hHeld.2.2.2.2.2)).trans hHeld.2.2.2.2.2)
    refine hK.out _ _ hHeld (fun _ => ?_)
    clear hK K h1 h2
    try simp only [Act.put, List.setIfInBounds_toArray, List.set_cons_zero, List.set_cons_succ]
    refine held_take (i := 27) (v := ?_) rfl (by kernel_rfl) (by kernel_rfl) (by kernel_rfl) (fun _ _ _ h => h) (by rfl) (fun W hW => ?_) hHeld ?_
    rotate_left
    · (obtain ⟨_, c1, c2, c3, c4, cx⟩ := hW; go_simp; try with_reducible rfl)
    try simp only [Act.put, List.setIfInBounds_toArray, List.set_cons_zero, List.set_cons_succ]
    refine wpAnyH_done (by kernel_rfl) ?_ _
    go_wp2
    go_ret
    exact HF.out
/-- What a shape makes, in memory. -/
theorem make_at (x : Shp) (rv : Value) (w : World) (h : RawsAt w rv x.raws) : Calls Tryz.prog 28 #[shapeV x.order x.digits x.word x.value rv x.more] w fun e w' => ∃ v, e = .returned v ∧ LocalesAt w' v (mkL x) ∧ Below w.heap.size w w' := by
  refine (make_any _ _ _ _ _ _ _ w h).mono ?_
  rintro e w' ⟨g, cap, cs, rfl, ho, ⟨w0, p0, _, _, p2⟩, hb⟩
  exact ⟨_, rfl, Locales_own ho (p0.on p2) (Nat.le_trans (rightL_length (mkL_right x)) (by decide)), hb⟩

end Go.Proofs.YtannndpamhgknaaGreatDoor.Bl
