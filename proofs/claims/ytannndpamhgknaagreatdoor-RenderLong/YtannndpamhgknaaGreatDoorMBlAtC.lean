/- The reference's 'at' once more: of its words' and styles' slices their room is told, too. -/
import Derived.Test.YtannndpamhgknaaGreatDoorXBl1
namespace Go.Proofs.YtannndpamhgknaaGreatDoor.Bl
open Go.RowKit Gr

/-- A slice at a plain address, if it has elements; (b) no longer than its room. -/
def PlainC (b : Bool) (v : Value) : Prop := ∃ ad n cap, v = .slice ad n cap ∧ (b = true → n ≤ cap) ∧ (0 < n → ∃ g o, ad = some ⟨g, o, none⟩)
theorem PlainC.plain {b : Bool} {v : Value} (h : PlainC b v) : Plain v := by
  obtain ⟨ad, n, cap, e, _, h2⟩ := h
  exact ⟨ad, n, cap, e, h2⟩
theorem own_plainC {w : World} {B n size : Nat} {e : TypeId} {v : Value} {cs : List Value} {b : Bool} (h : w.ownsRow B e size v n cs) : PlainC b v := by
  obtain ⟨_, ⟨rfl, rfl⟩ | ⟨g, cap, cur, rfl, _, _, h5, _⟩⟩ := h
  · exact ⟨none, 0, 0, rfl, fun _ => Nat.le_refl _, fun h => by omega⟩
  · exact ⟨_, n, cap, rfl, fun _ => h5, fun _ => ⟨g, 0, rfl⟩⟩
theorem at_plainCEntriesAt {w : World} {v : Value} {xs : List Entry} (h : EntriesAt w v xs) : PlainC true v := by
  obtain ⟨ad, cap, rfl, _, h4, hc⟩ := h
  refine ⟨ad, _, cap, rfl, fun _ => h4.2, fun hn => ?_⟩
  obtain ⟨g, o, e, _⟩ := hc 0 hn
  exact ⟨g, o, e⟩
theorem at_plainCStylesAt {w : World} {v : Value} {xs : List Style} (h : StylesAt w v xs) : PlainC true v := by
  obtain ⟨ad, cap, rfl, _, h4, hc⟩ := h
  refine ⟨ad, _, cap, rfl, fun _ => h4.2, fun hn => ?_⟩
  obtain ⟨g, o, e, _⟩ := hc 0 hn
  exact ⟨g, o, e⟩
theorem at_plainCRulesOk {w : World} {v : Value} {xs : List Rule} (h : RulesOk w v xs) : PlainC false v := by
  obtain ⟨⟨ad, cap, rfl, _, hc⟩, _⟩ := h
  refine ⟨ad, _, cap, rfl, fun h => (by cases h), fun hn => ?_⟩
  obtain ⟨g, o, e, _⟩ := hc 0 hn
  exact ⟨g, o, e⟩
theorem entries_of_cells {w : World} {v : Value} {cs : List Value} {xs : List Entry} (h : CellsAt w v xs.length 3 cs) (hp : PlainC true v) (hc : EntryC w cs xs) (hl : xs.length ≤ 1000000) : EntriesAt w v xs := by
  obtain ⟨ad, cap, rfl, h2, h3, h4, h5⟩ := h
  obtain ⟨ad', n', cap', e, hcp, hpl⟩ := hp
  injection e with e1 e2 e3
  subst e1 e2 e3
  refine ⟨ad, cap, rfl, hl, ⟨fun e => (h3 e).1, hcp rfl⟩, fun j hj => ?_⟩
  obtain ⟨k0, k1, k2⟩ := hc.2 j _ (Entry_at hj)
  obtain ⟨g, o, ea⟩ := hpl (by omega)
  have cell : ∀ q u, cs[q]? = some u → w.cell? ⟨g, o + q, none⟩ = some u := fun q u hq => by
    obtain ⟨a', ea', g'⟩ := h5 _ _ hq
    obtain rfl := Option.some.inj (ea.symm.trans ea')
    rw [Addr.add_lit] at g'
    exact g'
  exact ⟨g, o, ea, cell _ _ k0, cell _ _ k1, cell _ _ k2⟩
theorem styles_of_cells {w : World} {v : Value} {cs : List Value} {xs : List Style} (h : CellsAt w v xs.length 2 cs) (hp : PlainC true v) (hc : StyleC w cs xs) (hl : xs.length ≤ 1000000) : StylesAt w v xs := by
  obtain ⟨ad, cap, rfl, h2, h3, h4, h5⟩ := h
  obtain ⟨ad', n', cap', e, hcp, hpl⟩ := hp
  injection e with e1 e2 e3
  subst e1 e2 e3
  refine ⟨ad, cap, rfl, hl, ⟨fun e => (h3 e).1, hcp rfl⟩, fun j hj => ?_⟩
  obtain ⟨v0, k0, k1, a0, _⟩ := hc.2 j _ (Style_at hj)
  obtain ⟨g, o, ea⟩ := hpl (by omega)
  have cell : ∀ q u, cs[q]? = some u → w.cell? ⟨g, o + q, none⟩ = some u := fun q u hq => by
    obtain ⟨a', ea', g'⟩ := h5 _ _ hq
    obtain rfl := Option.some.inj (ea.symm.trans ea')
    rw [Addr.add_lit] at g'
    exact g'
  exact ⟨g, o, ea, v0, cell _ _ k0, cell _ _ k1, a0⟩

set_option maxRecDepth 8000 in
set_option maxHeartbeats 4000000 in
theorem atc_any (ls : List Locale) (v : Value) (hS : Small ls) (w0 : World) (hl : LocalesAt w0 v ls) : ∀ (m i : Nat) (w : World), i < m → Below w0.heap.size w0 w → i < ls.length → i < 10 → Par ls i →
    Calls Tryz.prog 50 #[v, .int .i64 i] w fun e w' => ∃ v0 v1 v2 cs0 cs1 cs2, e = .returned (localeV (resOf ls i) v0 v1 v2) ∧ (CellsAt w' v0 (resOf ls i).lex.length 3 cs0 ∧ CellsAt w' v1 (resOf ls i).rules.length 5 cs1 ∧ CellsAt w' v2 (resOf ls i).styles.length 2 cs2)
      ∧ (EntryC w0 cs0 (resOf ls i).lex ∧ RuleC w0 cs1 (resOf ls i).rules ∧ StyleC w0 cs2 (resOf ls i).styles) ∧ (PlainC true v0 ∧ PlainC false v1 ∧ PlainC true v2)
      ∧ (∀ k, k < w.heap.size + 2 → w0.heap.size ≤ k → ((resOf ls i).lex.length = 0 ∨ v0.ownBlock ≠ some k) ∧ ((resOf ls i).rules.length = 0 ∨ v1.ownBlock ≠ some k) ∧ ((resOf ls i).styles.length = 0 ∨ v2.ownBlock ≠ some k)) ∧ Below w.heap.size w w' := by
  intro m
  induction m with
  | zero => intro i w h; omega
  | succ m ih =>
  intro i w him hbw hi hi10 hp
  have HIH := hid ih
  have HP := hid hp
  have HBW := hid hbw
  have hsw := hbw.size
  obtain ⟨ad, cap, rfl, hm, _, hc⟩ := hl
  obtain ⟨g, o, rfl, hx⟩ := hc i hi
  have hx' := hx.on hbw
  obtain ⟨u0, u1, u2, c0, c1, c2, c3, c4, c5, q0, q1, q2⟩ := hx
  obtain ⟨cs0, HC0, HD0⟩ := Entries_cells q0
  obtain ⟨cs1, HC1, HD1⟩ := rules_cells q1
  obtain ⟨cs2, HC2, HD2⟩ := Styles_cells q2
  have HXC := hid (And.intro HC0 (And.intro HC1 HC2))
  have HXD := hid (And.intro HD0 (And.intro HD1 HD2))
  have HXP := hid (And.intro (at_plainCEntriesAt q0) (And.intro (at_plainCRulesOk q1) (at_plainCStylesAt q2)))
  have HXO := hid (And.intro (cells_old HC0) (And.intro (cells_old HC1) (cells_old HC2)))
  clear HC0 HC1 HC2 HD0 HD1 HD2
  replace c0 := (hbw.cell (lt_of_cell c0)).trans c0
  replace c1 := (hbw.cell (lt_of_cell c1)).trans c1
  replace c2 := (hbw.cell (lt_of_cell c2)).trans c2
  replace c3 := (hbw.cell (lt_of_cell c3)).trans c3
  replace c4 := (hbw.cell (lt_of_cell c4)).trans c4
  replace c5 := (hbw.cell (lt_of_cell c5)).trans c5
  have HSX := hid (hS.at i)
  have hpi := hp i (Nat.le_refl _)
  have HE : Hid (∀ p : Nat, (ls.getD i nilLocale).parent = (p : Int) → resOf ls i = { ls.getD i nilLocale with lex := (resOf ls p).lex ++ (ls.getD i nilLocale).lex, rules := (resOf ls p).rules ++ (ls.getD i nilLocale).rules, styles := (resOf ls p).styles ++ (ls.getD i nilLocale).styles }) := hid (fun p h => resOf_step ls i p hp h)
  have HR : Hid ((ls.getD i nilLocale).parent < 0 → resOf ls i = ls.getD i nilLocale) := hid (resOf_root ls i)
  generalize ls.getD i nilLocale = x at *
  obtain ⟨ad0, cap0, e0, _⟩ := q0.shape
  obtain ⟨ad1, cap1, e1, _⟩ := q1.shape
  obtain ⟨ad2, cap2, e2, _⟩ := q2.shape
  subst e0 e1 e2
  have hin : (i : Int) < (ls.length : Int) := by omega
  have hgw := lt_of_cell c0
  dsimp only at hgw
  generalize hnl : ls.length = n at *
  have HNL := hid hnl
  clear hnl hc hp ih q0 q1 q2 hx' hbw
  obtain ⟨id, parent, digits, lex, rules, styles⟩ := x
  dsimp only at *
  generalize hl0 : lex.length = n0 at *
  generalize hl1 : rules.length = n1 at *
  generalize hl2 : styles.length = n2 at *
  have HL := hid (And.intro hl0 (And.intro hl1 hl2))
  by_cases hneg : parent < 0
  · rw [HR.out hneg]
    dsimp only
    rw [hl0, hl1, hl2]
    clear hl0 hl1 hl2
    go_enter Tryz.func50, Tryz.ntmps50
    go_wp2
    have U := HBW.out.trans ((up_trans (up_alloc w (.cells #[.string id, .int .i64 parent, .int .i64 digits, .slice ad0 n0 cap0, .slice ad1 n1 cap1, .slice ad2 n2 cap2] 33)) (up_alloc _ (.cells #[.string id, .int .i64 parent, .int .i64 digits, .slice ad0 n0 cap0, .slice ad1 n1 cap1, .slice ad2 n2 cap2] 33))).mono hsw)
    exact bodyPost_ret (v := localeV ⟨id, parent, digits, lex, rules, styles⟩ (.slice ad0 n0 cap0) (.slice ad1 n1 cap1) (.slice ad2 n2 cap2)) (results_cell_row rfl _ _ w.heap.size 33 _ (0, 0) _ rfl (((up_alloc _ _).block _ (by simp)).trans (row_new w _)) Tryz.underlying33 rfl (by kernel_rfl)) rfl
      ⟨_, _, _, cs0, cs1, cs2, rfl, ⟨HXC.out.1.on U, HXC.out.2.1.on U, HXC.out.2.2.on U⟩, HXD.out, HXP.out, fun k _ hk => ⟨HXO.out.1 k hk, HXO.out.2.1 k hk, HXO.out.2.2 k hk⟩, up_trans (up_alloc _ _) (up_alloc _ _)⟩
  · clear hl0 hl1 hl2
    obtain ⟨p, rfl⟩ : ∃ p : Nat, parent = (p : Int) := ⟨parent.toNat, by omega⟩
    have HPP : Hid (Par ls p) := hid (fun j hj => HP.out j (by omega))
    have HU := hid (up_trans (up_alloc w (.cells #[.string ⟨#[]⟩, .int .i64 0, .int .i64 0, .slice none 0 0, .slice none 0 0, .slice none 0 0] 33)) (up_alloc _ (.cells #[.string id, .int .i64 (p : Int), .int .i64 digits, .slice ad0 n0 cap0, .slice ad1 n1 cap1, .slice ad2 n2 cap2] 33)))
    have HCALL := hid (HIH.out p ((w.alloc (.cells #[.string ⟨#[]⟩, .int .i64 0, .int .i64 0, .slice none 0 0, .slice none 0 0, .slice none 0 0] 33)).alloc (.cells #[.string id, .int .i64 (p : Int), .int .i64 digits, .slice ad0 n0 cap0, .slice ad1 n1 cap1, .slice ad2 n2 cap2] 33)) (by omega) (HBW.out.trans (HU.out.mono hsw)) (by omega) (by omega) HPP.out)
    have HB4 := hid (row_new w (.cells #[.string ⟨#[]⟩, .int .i64 0, .int .i64 0, .slice none 0 0, .slice none 0 0, .slice none 0 0] 33))
    have HB5 := hid (row_new' (w.alloc (.cells #[.string ⟨#[]⟩, .int .i64 0, .int .i64 0, .slice none 0 0, .slice none 0 0, .slice none 0 0] 33)) (.cells #[.string id, .int .i64 (p : Int), .int .i64 digits, .slice ad0 n0 cap0, .slice ad1 n1 cap1, .slice ad2 n2 cap2] 33) (w.heap.size + 1) (by simp))
    have HSP := hid (resOf_small ls hS p (by omega))
    have HEP := hid (HE.out p rfl)
    rw [HEP.out]
    generalize resOf ls p = y at *
    go_enter Tryz.func50, Tryz.ntmps50
    go_wp2_with fail
    refine HCALL.out.mono ?_
    rintro e w1 ⟨v0, v1, v2, ds0, ds1, ds2, rfl, hyC, hyD, hyP, hyF, bel⟩
    unfold localeV
    have hs1 : w.heap.size + 2 ≤ w1.heap.size := by have := bel.size; simpa using this
    have hyF' := hyF (w.heap.size + 1) (by simp) (by omega)
    have HBX := hid (HBW.out.trans (up_trans HU.out bel |>.mono hsw))
    have HB1 := hid (up_trans HU.out bel)
    obtain ⟨yid, ypar, ydig, ylex, yrules, ystyles⟩ := y
    dsimp only at *
    obtain ⟨ady0, my0, capy0, ey0, _⟩ := hyP.1
    obtain ⟨ady1, my1, capy1, ey1, _⟩ := hyP.2.1
    obtain ⟨ady2, my2, capy2, ey2, _⟩ := hyP.2.2
    generalize hm0 : ylex.length = m0 at *
    generalize hm1 : yrules.length = m1 at *
    generalize hm2 : ystyles.length = m2 at *
    have HM := hid (And.intro hm0 (And.intro hm1 hm2))
    obtain rfl : my0 = m0 := by obtain ⟨_, _, e, _⟩ := hyC.1; rw [ey0] at e; injection e
    obtain rfl : my1 = m1 := by obtain ⟨_, _, e, _⟩ := hyC.2.1; rw [ey1] at e; injection e
    obtain rfl : my2 = m2 := by obtain ⟨_, _, e, _⟩ := hyC.2.2; rw [ey2] at e; injection e
    subst ey0 ey1 ey2
    have HV1 := hid (show Vars (w1.alloc (.cells #[.string yid, .int .i64 ypar, .int .i64 ydig, .slice ady0 my0 capy0, .slice ady1 my1 capy1, .slice ady2 my2 capy2] 33)) w.heap.size (w.heap.size + 1) w1.heap.size #[.string ⟨#[]⟩, .int .i64 0, .int .i64 0, .slice none 0 0, .slice none 0 0, .slice none 0 0] #[.string id, .int .i64 (p : Int), .int .i64 digits, .slice ad0 n0 cap0, .slice ad1 n1 cap1, .slice ad2 n2 cap2] #[.string yid, .int .i64 ypar, .int .i64 ydig, .slice ady0 my0 capy0, .slice ady1 my1 capy1, .slice ady2 my2 capy2] from
      ⟨((up_alloc w1 _).block w.heap.size (by omega)).trans ((bel.block w.heap.size (by simp; omega)).trans (((up_alloc (w.alloc (.cells #[.string ⟨#[]⟩, .int .i64 0, .int .i64 0, .slice none 0 0, .slice none 0 0, .slice none 0 0] 33)) (.cells #[.string id, .int .i64 (p : Int), .int .i64 digits, .slice ad0 n0 cap0, .slice ad1 n1 cap1, .slice ad2 n2 cap2] 33)).block w.heap.size (by simp)).trans HB4.out)), ((up_alloc w1 _).block (w.heap.size + 1) (by omega)).trans ((bel.block (w.heap.size + 1) (by simp)).trans HB5.out), row_new w1 _, by omega, by omega⟩)
    have HS1 := hid (And.intro (show Safe w1 (w.heap.size + 1) (.slice ady0 my0 capy0) my0 3 ds0 from ⟨hyC.1, hyF'.1⟩) (And.intro (show Safe w1 (w.heap.size + 1) (.slice ady1 my1 capy1) my1 5 ds1 from ⟨hyC.2.1, hyF'.2.1⟩) (show Safe w1 (w.heap.size + 1) (.slice ady2 my2 capy2) my2 2 ds2 from ⟨hyC.2.2, hyF'.2.2⟩)))
    have HT1 := hid (And.intro (show Safe w1 (w.heap.size + 1) (.slice ad0 n0 cap0) n0 3 cs0 from ⟨HXC.out.1.on HBX.out, HXO.out.1 _ (by omega)⟩) (And.intro (show Safe w1 (w.heap.size + 1) (.slice ad1 n1 cap1) n1 5 cs1 from ⟨HXC.out.2.1.on HBX.out, HXO.out.2.1 _ (by omega)⟩) (show Safe w1 (w.heap.size + 1) (.slice ad2 n2 cap2) n2 2 cs2 from ⟨HXC.out.2.2.on HBX.out, HXO.out.2.2 _ (by omega)⟩)))
    have HYD := hid hyD
    have hmb : my0 ≤ 100000 ∧ my1 ≤ 100000 ∧ my2 ≤ 100000 := HSP.out
    have hnb : n1 ≤ 10000 ∧ n0 ≤ 10000 ∧ n2 ≤ 10000 := ⟨HSX.out.1, HSX.out.2.1, HSX.out.2.2.1⟩
    clear hyC hyD hyP hyF hyF' bel hm0 hm1 hm2 c0 c1 c2 c3 c4 c5
    have HWA := hid (up_alloc w1 (.cells #[.string yid, .int .i64 ypar, .int .i64 ydig, .slice ady0 my0 capy0, .slice ady1 my1 capy1, .slice ady2 my2 capy2] 33))
    go_wp2
    obtain ⟨g6, hg6⟩ : ∃ g6, g6 = w1.heap.size := ⟨_, rfl⟩
    obtain ⟨wa, hwa⟩ : ∃ wa, wa = w1.alloc (.cells #[.string yid, .int .i64 ypar, .int .i64 ydig, .slice ady0 my0 capy0, .slice ady1 my1 capy1, .slice ady2 my2 capy2] 33) := ⟨_, rfl⟩
    rw [← hwa, ← hg6] at HV1
    rw [← hwa] at HWA
    rw [← hwa, ← hg6]
    have HV := hid HV1.out
    have HCL := hid (show (∀ u ∈ [] ++ ds0 ++ cs0, u.oneCell' = true) ∧ (∀ u ∈ [] ++ ds1 ++ cs1, u.oneCell' = true) ∧ (∀ u ∈ [] ++ ds2 ++ cs2, u.oneCell' = true) from ⟨((EntryC.nil w0).append HYD.out.1 |>.append HXD.out.1).ones, ((RuleC.nil w0).append HYD.out.2.1 |>.append HXD.out.2.1).ones, ((StyleC.nil w0).append HYD.out.2.2 |>.append HXD.out.2.2).ones⟩)
    have HSY := hid (And.intro (HS1.out.1.on HWA.out) (And.intro (HS1.out.2.1.on HWA.out) (HS1.out.2.2.on HWA.out)))
    have HSX := hid (And.intro (HT1.out.1.on HWA.out) (And.intro (HT1.out.2.1.on HWA.out) (HT1.out.2.2.on HWA.out)))
    have HBA := hid (up_trans HB1.out HWA.out)
    have hg6' : w.heap.size + 2 ≤ g6 := by omega
    have hwaS : w.heap.size + 2 ≤ wa.heap.size := by have := HV.out.lt.2.2; omega
    clear hwa HV1 hg6 HS1 HT1 HWA HBX
    obtain ⟨k40, k50, k60, k45, k46⟩ := HV.out
    have c5 : wa.cell? ⟨w.heap.size + 1, 3, none⟩ = some (.slice ad0 n0 cap0) := by rw [cell_of_row _ _ _ _ _ _ k50]; rfl
    have c6 : wa.cell? ⟨g6, 3, none⟩ = some (.slice ady0 my0 capy0) := by rw [cell_of_row _ _ _ _ _ _ k60]; rfl
    have f5 : wa.frozen? ⟨w.heap.size + 1, 3, none⟩ = false := frozen_of_row _ _ _ _ _ k50
    have hl5 := HV.out.lt.2.1
    have hl6 := HV.out.lt.2.2
    clear k40 k50 k60 k45 k46
    have HOM := hid (own_made wa.drew 49 3 wa.heap.size wa.heap.size (Nat.le_refl _) rfl)
    have HPA := hid (HSY.out.1.1.on (((Below.refl _ wa).drew).alloc (Nat.le_refl _) (.cells #[] 49)))
    apply key_cut4 (F := fun (_ : Value) (adB : Option Addr) (capB : Nat) (wB : World) => Below wa.heap.size wa wB ∧ wB.ownsRow wa.heap.size 49 3 (.slice adB (my0 + n0) capB) (my0 + n0) ([] ++ ds0 ++ cs0))
    case rest =>
      intro key
      go_region_law (first
        | (refine step_append_cells _ rfl (.tmp 19) (.tmp 21) 29 49 rfl (.agg #[.string ⟨#[]⟩, .int .i64 0, .int .i64 0]) 3 32 Tryz.underlying29 info_Entry rfl (by decide) (by decide) wa.heap.size (.slice (some ⟨wa.heap.size, 0, none⟩) 0 0) 0 [] (by simp [Act.eval]) HOM.out (.slice ady0 my0 capy0) my0 ds0 (by simp [Act.eval]) HPA.out (by omega) (by simp) ?_; intro vA wA hA1 hA2 hA3; have HBA := hid ((((Below.refl _ wa).drew).alloc (Nat.le_refl _) (.cells #[] 49)).grown hA2 (by simp) (fun k e => Nat.le_of_eq (Option.some.inj e))); have c5A := (HBA.out.cell (p := ⟨w.heap.size + 1, 3, none⟩) hl5).trans c5; have c6A := (HBA.out.cell (p := ⟨g6, 3, none⟩) hl6).trans c6; have f5A := frozen_on HBA.out hl5 f5; have HOA := hid hA1; have HXA := hid (HSX.out.1.1.on HBA.out); have hsA := HBA.out.size; have hOw := hid (fun k (e : vA.ownBlock = some k) => (World.ownsRow.lt hA1 k e).1); clear hA1 hA2 hA3)
        | (refine step_append_cells _ rfl (.tmp 22) (.tmp 24) 29 49 rfl (.agg #[.string ⟨#[]⟩, .int .i64 0, .int .i64 0]) 3 32 Tryz.underlying29 info_Entry rfl (by decide) (by decide) wa.heap.size vA (0 + my0) ([] ++ ds0) (by simp [Act.eval]) HOA.out (.slice ad0 n0 cap0) n0 cs0 (by simp [Act.eval]) HXA.out (by omega) hsA ?_; intro vB wB hB1 hB2 hB3; have HBB := hid (HBA.out.grown hB2 hsA (fun k e => hOw.out k e)); have c5B := (HBB.out.cell (p := ⟨w.heap.size + 1, 3, none⟩) hl5).trans c5; have f5B := frozen_on HBB.out hl5 f5; have HOB := hid hB1; obtain ⟨adB, capB, eB, _⟩ := own_shape hB1; rw [Nat.zero_add] at eB; subst eB; have hl5B : w.heap.size + 1 < wB.heap.size := Nat.lt_of_lt_of_le hl5 HBB.out.size; clear hB1 hB2 hB3))
      all_goals exact key vA adB capB wB ⟨HBB.out, by have := HOB.out; rwa [Nat.zero_add] at this⟩
    intro vA0 adB0 capB0 wB hF
    have hl4 := HV.out.lt.1
    obtain ⟨wa1, hwa1⟩ : ∃ wa1, wa1 = wB.setCell ⟨w.heap.size + 1, 3, none⟩ (.slice adB0 (my0 + n0) capB0) := ⟨_, rfl⟩
    have HV' := hid ((HV.out.on hF.1).set (c := 3) (u := .slice adB0 (my0 + n0) capB0))
    have HSY' := hid (And.intro (HSY.out.1.step (c := 3) (u := .slice adB0 (my0 + n0) capB0) hF.1) (And.intro (HSY.out.2.1.step (c := 3) (u := .slice adB0 (my0 + n0) capB0) hF.1) (HSY.out.2.2.step (c := 3) (u := .slice adB0 (my0 + n0) capB0) hF.1)))
    have HSX' := hid (And.intro (HSX.out.1.step (c := 3) (u := .slice adB0 (my0 + n0) capB0) hF.1) (And.intro (HSX.out.2.1.step (c := 3) (u := .slice adB0 (my0 + n0) capB0) hF.1) (HSX.out.2.2.step (c := 3) (u := .slice adB0 (my0 + n0) capB0) hF.1)))
    have HBA' := hid ((up_trans HBA.out hF.1).setCell (p := ⟨w.heap.size + 1, 3, none⟩) (Nat.le_succ _) (.slice adB0 (my0 + n0) capB0))
    have HF0' := hid (show Safe (wB.setCell ⟨w.heap.size + 1, 3, none⟩ (.slice adB0 (my0 + n0) capB0)) (w.heap.size + 1) (.slice adB0 (my0 + n0) capB0) (my0 + n0) 3 ([] ++ ds0 ++ cs0) from ⟨cells_set (own_cells hF.2 (HCL.out.1)) (.inr (own_far hF.2 hl5)), .inr (own_far hF.2 hl5)⟩)
    have HP0 := hid (And.intro (own_plainC (b := true) hF.2) (fun k (hk : k < wa.heap.size) => own_far hF.2 hk))
    have hsz1 : wa.heap.size ≤ (wB.setCell ⟨w.heap.size + 1, 3, none⟩ (.slice adB0 (my0 + n0) capB0)).heap.size := by have := hF.1.size; simpa [World.setCell] using this
    rw [← hwa1] at HV' HSY' HSX' HBA' HF0' hsz1 ⊢
    simp only [List.setIfInBounds_toArray, List.set_cons_succ, List.set_cons_zero] at HV'
    clear hF hwa1 HV HSY HSX HBA HOM HPA c5 c6 f5 hl5 hl6 hl4
    have HV := hid HV'.out
    have HSY := hid HSY'.out
    have HSX := hid HSX'.out
    have HBA := hid HBA'.out
    have HF0 := hid HF0'.out
    clear HV' HSY' HSX' HBA' HF0'
    go_wp2
    obtain ⟨k40, k50, k60, k45, k46⟩ := HV.out
    have c5 : wa1.cell? ⟨w.heap.size + 1, 4, none⟩ = some (.slice ad1 n1 cap1) := by rw [cell_of_row _ _ _ _ _ _ k50]; rfl
    have c6 : wa1.cell? ⟨g6, 4, none⟩ = some (.slice ady1 my1 capy1) := by rw [cell_of_row _ _ _ _ _ _ k60]; rfl
    have f5 : wa1.frozen? ⟨w.heap.size + 1, 4, none⟩ = false := frozen_of_row _ _ _ _ _ k50
    have hl5 := HV.out.lt.2.1
    have hl6 := HV.out.lt.2.2
    clear k40 k50 k60 k45 k46
    have HOM := hid (own_made wa1.drew 120 5 wa1.heap.size wa1.heap.size (Nat.le_refl _) rfl)
    have HPA := hid (HSY.out.2.1.1.on (((Below.refl _ wa1).drew).alloc (Nat.le_refl _) (.cells #[] 120)))
    apply key_cut4 (F := fun (_ : Value) (adB : Option Addr) (capB : Nat) (wB : World) => Below wa1.heap.size wa1 wB ∧ wB.ownsRow wa1.heap.size 120 5 (.slice adB (my1 + n1) capB) (my1 + n1) ([] ++ ds1 ++ cs1))
    case rest =>
      intro key
      go_region_law (first
        | (refine step_append_cells _ rfl (.tmp 27) (.tmp 29) 30 120 rfl (.agg #[.int .i64 0, .slice none 0 0, .int .i64 0, .slice none 0 0, .int .i64 0]) 5 72 Tryz.underlying30 info_Rule rfl (by decide) (by decide) wa1.heap.size (.slice (some ⟨wa1.heap.size, 0, none⟩) 0 0) 0 [] (by simp [Act.eval]) HOM.out (.slice ady1 my1 capy1) my1 ds1 (by simp [Act.eval]) HPA.out (by omega) (by simp) ?_; intro vA wA hA1 hA2 hA3; have HBA := hid ((((Below.refl _ wa1).drew).alloc (Nat.le_refl _) (.cells #[] 120)).grown hA2 (by simp) (fun k e => Nat.le_of_eq (Option.some.inj e))); have c5A := (HBA.out.cell (p := ⟨w.heap.size + 1, 4, none⟩) hl5).trans c5; have c6A := (HBA.out.cell (p := ⟨g6, 4, none⟩) hl6).trans c6; have f5A := frozen_on HBA.out hl5 f5; have HOA := hid hA1; have HXA := hid (HSX.out.2.1.1.on HBA.out); have hsA := HBA.out.size; have hOw := hid (fun k (e : vA.ownBlock = some k) => (World.ownsRow.lt hA1 k e).1); clear hA1 hA2 hA3)
        | (refine step_append_cells _ rfl (.tmp 30) (.tmp 32) 30 120 rfl (.agg #[.int .i64 0, .slice none 0 0, .int .i64 0, .slice none 0 0, .int .i64 0]) 5 72 Tryz.underlying30 info_Rule rfl (by decide) (by decide) wa1.heap.size vA (0 + my1) ([] ++ ds1) (by simp [Act.eval]) HOA.out (.slice ad1 n1 cap1) n1 cs1 (by simp [Act.eval]) HXA.out (by omega) hsA ?_; intro vB wB hB1 hB2 hB3; have HBB := hid (HBA.out.grown hB2 hsA (fun k e => hOw.out k e)); have c5B := (HBB.out.cell (p := ⟨w.heap.size + 1, 4, none⟩) hl5).trans c5; have f5B := frozen_on HBB.out hl5 f5; have HOB := hid hB1; obtain ⟨adB, capB, eB, _⟩ := own_shape hB1; rw [Nat.zero_add] at eB; subst eB; have hl5B : w.heap.size + 1 < wB.heap.size := Nat.lt_of_lt_of_le hl5 HBB.out.size; clear hB1 hB2 hB3))
      all_goals exact key vA adB capB wB ⟨HBB.out, by have := HOB.out; rwa [Nat.zero_add] at this⟩
    intro vA1 adB1 capB1 wB hF
    have hl4 := HV.out.lt.1
    obtain ⟨wa2, hwa2⟩ : ∃ wa2, wa2 = wB.setCell ⟨w.heap.size + 1, 4, none⟩ (.slice adB1 (my1 + n1) capB1) := ⟨_, rfl⟩
    have HV' := hid ((HV.out.on hF.1).set (c := 4) (u := .slice adB1 (my1 + n1) capB1))
    have HSY' := hid (And.intro (HSY.out.1.step (c := 4) (u := .slice adB1 (my1 + n1) capB1) hF.1) (And.intro (HSY.out.2.1.step (c := 4) (u := .slice adB1 (my1 + n1) capB1) hF.1) (HSY.out.2.2.step (c := 4) (u := .slice adB1 (my1 + n1) capB1) hF.1)))
    have HSX' := hid (And.intro (HSX.out.1.step (c := 4) (u := .slice adB1 (my1 + n1) capB1) hF.1) (And.intro (HSX.out.2.1.step (c := 4) (u := .slice adB1 (my1 + n1) capB1) hF.1) (HSX.out.2.2.step (c := 4) (u := .slice adB1 (my1 + n1) capB1) hF.1)))
    have HBA' := hid ((up_trans HBA.out hF.1).setCell (p := ⟨w.heap.size + 1, 4, none⟩) (Nat.le_succ _) (.slice adB1 (my1 + n1) capB1))
    have HF1' := hid (show Safe (wB.setCell ⟨w.heap.size + 1, 4, none⟩ (.slice adB1 (my1 + n1) capB1)) (w.heap.size + 1) (.slice adB1 (my1 + n1) capB1) (my1 + n1) 5 ([] ++ ds1 ++ cs1) from ⟨cells_set (own_cells hF.2 (HCL.out.2.1)) (.inr (own_far hF.2 hl5)), .inr (own_far hF.2 hl5)⟩)
    have HP1 := hid (And.intro (own_plainC (b := false) hF.2) (fun k (hk : k < wa1.heap.size) => own_far hF.2 hk))
    have hsz2 : wa1.heap.size ≤ (wB.setCell ⟨w.heap.size + 1, 4, none⟩ (.slice adB1 (my1 + n1) capB1)).heap.size := by have := hF.1.size; simpa [World.setCell] using this
    have HF0' := hid (HF0.out.step (c := 4) (u := .slice adB1 (my1 + n1) capB1) hF.1)
    rw [← hwa2] at HV' HSY' HSX' HBA' HF1' hsz2 HF0' ⊢
    simp only [List.setIfInBounds_toArray, List.set_cons_succ, List.set_cons_zero] at HV'
    clear hF hwa2 HV HSY HSX HBA HOM HPA c5 c6 f5 hl5 hl6 hl4 HF0
    have HV := hid HV'.out
    have HSY := hid HSY'.out
    have HSX := hid HSX'.out
    have HBA := hid HBA'.out
    have HF1 := hid HF1'.out
    have HF0 := hid HF0'.out
    clear HV' HSY' HSX' HBA' HF1' HF0'
    go_wp2
    obtain ⟨k40, k50, k60, k45, k46⟩ := HV.out
    have c5 : wa2.cell? ⟨w.heap.size + 1, 5, none⟩ = some (.slice ad2 n2 cap2) := by rw [cell_of_row _ _ _ _ _ _ k50]; rfl
    have c6 : wa2.cell? ⟨g6, 5, none⟩ = some (.slice ady2 my2 capy2) := by rw [cell_of_row _ _ _ _ _ _ k60]; rfl
    have f5 : wa2.frozen? ⟨w.heap.size + 1, 5, none⟩ = false := frozen_of_row _ _ _ _ _ k50
    have hl5 := HV.out.lt.2.1
    have hl6 := HV.out.lt.2.2
    clear k40 k50 k60 k45 k46
    have HOM := hid (own_made wa2.drew 37 2 wa2.heap.size wa2.heap.size (Nat.le_refl _) rfl)
    have HPA := hid (HSY.out.2.2.1.on (((Below.refl _ wa2).drew).alloc (Nat.le_refl _) (.cells #[] 37)))
    apply key_cut4 (F := fun (_ : Value) (adB : Option Addr) (capB : Nat) (wB : World) => Below wa2.heap.size wa2 wB ∧ wB.ownsRow wa2.heap.size 37 2 (.slice adB (my2 + n2) capB) (my2 + n2) ([] ++ ds2 ++ cs2))
    case rest =>
      intro key
      go_region_law (first
        | (refine step_append_cells _ rfl (.tmp 35) (.tmp 37) 31 37 rfl (.agg #[.int .i64 0, .slice none 0 0]) 2 32 Tryz.underlying31 info_Style rfl (by decide) (by decide) wa2.heap.size (.slice (some ⟨wa2.heap.size, 0, none⟩) 0 0) 0 [] (by simp [Act.eval]) HOM.out (.slice ady2 my2 capy2) my2 ds2 (by simp [Act.eval]) HPA.out (by omega) (by simp) ?_; intro vA wA hA1 hA2 hA3; have HBA := hid ((((Below.refl _ wa2).drew).alloc (Nat.le_refl _) (.cells #[] 37)).grown hA2 (by simp) (fun k e => Nat.le_of_eq (Option.some.inj e))); have c5A := (HBA.out.cell (p := ⟨w.heap.size + 1, 5, none⟩) hl5).trans c5; have c6A := (HBA.out.cell (p := ⟨g6, 5, none⟩) hl6).trans c6; have f5A := frozen_on HBA.out hl5 f5; have HOA := hid hA1; have HXA := hid (HSX.out.2.2.1.on HBA.out); have hsA := HBA.out.size; have hOw := hid (fun k (e : vA.ownBlock = some k) => (World.ownsRow.lt hA1 k e).1); clear hA1 hA2 hA3)
        | (refine step_append_cells _ rfl (.tmp 38) (.tmp 40) 31 37 rfl (.agg #[.int .i64 0, .slice none 0 0]) 2 32 Tryz.underlying31 info_Style rfl (by decide) (by decide) wa2.heap.size vA (0 + my2) ([] ++ ds2) (by simp [Act.eval]) HOA.out (.slice ad2 n2 cap2) n2 cs2 (by simp [Act.eval]) HXA.out (by omega) hsA ?_; intro vB wB hB1 hB2 hB3; have HBB := hid (HBA.out.grown hB2 hsA (fun k e => hOw.out k e)); have c5B := (HBB.out.cell (p := ⟨w.heap.size + 1, 5, none⟩) hl5).trans c5; have f5B := frozen_on HBB.out hl5 f5; have HOB := hid hB1; obtain ⟨adB, capB, eB, _⟩ := own_shape hB1; rw [Nat.zero_add] at eB; subst eB; have hl5B : w.heap.size + 1 < wB.heap.size := Nat.lt_of_lt_of_le hl5 HBB.out.size; clear hB1 hB2 hB3))
      all_goals exact key vA adB capB wB ⟨HBB.out, by have := HOB.out; rwa [Nat.zero_add] at this⟩
    intro vA2 adB2 capB2 wB hF
    have hl4 := HV.out.lt.1
    obtain ⟨wa3, hwa3⟩ : ∃ wa3, wa3 = wB.setCell ⟨w.heap.size + 1, 5, none⟩ (.slice adB2 (my2 + n2) capB2) := ⟨_, rfl⟩
    have HV' := hid ((HV.out.on hF.1).set (c := 5) (u := .slice adB2 (my2 + n2) capB2))
    have HSY' := hid (And.intro (HSY.out.1.step (c := 5) (u := .slice adB2 (my2 + n2) capB2) hF.1) (And.intro (HSY.out.2.1.step (c := 5) (u := .slice adB2 (my2 + n2) capB2) hF.1) (HSY.out.2.2.step (c := 5) (u := .slice adB2 (my2 + n2) capB2) hF.1)))
    have HSX' := hid (And.intro (HSX.out.1.step (c := 5) (u := .slice adB2 (my2 + n2) capB2) hF.1) (And.intro (HSX.out.2.1.step (c := 5) (u := .slice adB2 (my2 + n2) capB2) hF.1) (HSX.out.2.2.step (c := 5) (u := .slice adB2 (my2 + n2) capB2) hF.1)))
    have HBA' := hid ((up_trans HBA.out hF.1).setCell (p := ⟨w.heap.size + 1, 5, none⟩) (Nat.le_succ _) (.slice adB2 (my2 + n2) capB2))
    have HF2' := hid (show Safe (wB.setCell ⟨w.heap.size + 1, 5, none⟩ (.slice adB2 (my2 + n2) capB2)) (w.heap.size + 1) (.slice adB2 (my2 + n2) capB2) (my2 + n2) 2 ([] ++ ds2 ++ cs2) from ⟨cells_set (own_cells hF.2 (HCL.out.2.2)) (.inr (own_far hF.2 hl5)), .inr (own_far hF.2 hl5)⟩)
    have HP2 := hid (And.intro (own_plainC (b := true) hF.2) (fun k (hk : k < wa2.heap.size) => own_far hF.2 hk))
    have hsz3 : wa2.heap.size ≤ (wB.setCell ⟨w.heap.size + 1, 5, none⟩ (.slice adB2 (my2 + n2) capB2)).heap.size := by have := hF.1.size; simpa [World.setCell] using this
    have HF0' := hid (HF0.out.step (c := 5) (u := .slice adB2 (my2 + n2) capB2) hF.1)
    have HF1' := hid (HF1.out.step (c := 5) (u := .slice adB2 (my2 + n2) capB2) hF.1)
    rw [← hwa3] at HV' HSY' HSX' HBA' HF2' hsz3 HF0' HF1' ⊢
    simp only [List.setIfInBounds_toArray, List.set_cons_succ, List.set_cons_zero] at HV'
    clear hF hwa3 HV HSY HSX HBA HOM HPA c5 c6 f5 hl5 hl6 hl4 HF0 HF1
    have HV := hid HV'.out
    have HSY := hid HSY'.out
    have HSX := hid HSX'.out
    have HBA := hid HBA'.out
    have HF2 := hid HF2'.out
    have HF0 := hid HF0'.out
    have HF1 := hid HF1'.out
    clear HV' HSY' HSX' HBA' HF2' HF0' HF1'
    obtain ⟨k40, k50, k60, k45, k46⟩ := HV.out
    have b0 : wa3.cell? ⟨w.heap.size + 1, 0, none⟩ = some (.string id) := by rw [cell_of_row _ _ _ _ _ _ k50]; rfl
    have a0 : wa3.cell? ⟨w.heap.size, 0, none⟩ = some (.string ⟨#[]⟩) := by rw [cell_of_row _ _ _ _ _ _ k40]; rfl
    have f0 : wa3.frozen? ⟨w.heap.size, 0, none⟩ = false := frozen_of_row _ _ _ _ _ k40
    have b1 : wa3.cell? ⟨w.heap.size + 1, 1, none⟩ = some (.int .i64 (p : Int)) := by rw [cell_of_row _ _ _ _ _ _ k50]; rfl
    have a1 : wa3.cell? ⟨w.heap.size, 1, none⟩ = some (.int .i64 0) := by rw [cell_of_row _ _ _ _ _ _ k40]; rfl
    have f1 : wa3.frozen? ⟨w.heap.size, 1, none⟩ = false := frozen_of_row _ _ _ _ _ k40
    have b2 : wa3.cell? ⟨w.heap.size + 1, 2, none⟩ = some (.int .i64 digits) := by rw [cell_of_row _ _ _ _ _ _ k50]; rfl
    have a2 : wa3.cell? ⟨w.heap.size, 2, none⟩ = some (.int .i64 0) := by rw [cell_of_row _ _ _ _ _ _ k40]; rfl
    have f2 : wa3.frozen? ⟨w.heap.size, 2, none⟩ = false := frozen_of_row _ _ _ _ _ k40
    have b3 : wa3.cell? ⟨w.heap.size + 1, 3, none⟩ = some (.slice adB0 (my0 + n0) capB0) := by rw [cell_of_row _ _ _ _ _ _ k50]; rfl
    have a3 : wa3.cell? ⟨w.heap.size, 3, none⟩ = some (.slice none 0 0) := by rw [cell_of_row _ _ _ _ _ _ k40]; rfl
    have f3 : wa3.frozen? ⟨w.heap.size, 3, none⟩ = false := frozen_of_row _ _ _ _ _ k40
    have b4 : wa3.cell? ⟨w.heap.size + 1, 4, none⟩ = some (.slice adB1 (my1 + n1) capB1) := by rw [cell_of_row _ _ _ _ _ _ k50]; rfl
    have a4 : wa3.cell? ⟨w.heap.size, 4, none⟩ = some (.slice none 0 0) := by rw [cell_of_row _ _ _ _ _ _ k40]; rfl
    have f4 : wa3.frozen? ⟨w.heap.size, 4, none⟩ = false := frozen_of_row _ _ _ _ _ k40
    have b5 : wa3.cell? ⟨w.heap.size + 1, 5, none⟩ = some (.slice adB2 (my2 + n2) capB2) := by rw [cell_of_row _ _ _ _ _ _ k50]; rfl
    have a5 : wa3.cell? ⟨w.heap.size, 5, none⟩ = some (.slice none 0 0) := by rw [cell_of_row _ _ _ _ _ _ k40]; rfl
    have f5 : wa3.frozen? ⟨w.heap.size, 5, none⟩ = false := frozen_of_row _ _ _ _ _ k40
    have HK4 := hid k40
    have hl4 := HV.out.lt.1
    have hl5 := HV.out.lt.2.1
    clear k40 k50 k60 k45 k46
    go_wp2
    exact bodyPost_ret (v := localeV ⟨id, p, digits, ylex ++ lex, yrules ++ rules, ystyles ++ styles⟩ (.slice adB0 (my0 + n0) capB0) (.slice adB1 (my1 + n1) capB1) (.slice adB2 (my2 + n2) capB2)) (results_cell_row rfl _ _ w.heap.size 33 _ (0, 0) _ rfl (set6_heap HK4.out _ _ _ _ _ _) Tryz.underlying33 rfl (by kernel_rfl)) rfl
      ⟨_, _, _, rfl, [] ++ ds0 ++ cs0, [] ++ ds1 ++ cs1, [] ++ ds2 ++ cs2,
        ⟨by rw [HM.out.1, HL.out.1]; exact cells_set6 HF0.out.1 (.inr (HP0.out.2 _ (by omega))), by rw [HM.out.2.1, HL.out.2.1]; exact cells_set6 HF1.out.1 (.inr (HP1.out.2 _ (by omega))), by rw [HM.out.2.2, HL.out.2.2]; exact cells_set6 HF2.out.1 (.inr (HP2.out.2 _ (by omega)))⟩,
        ⟨((EntryC.nil w0).append HYD.out.1).append HXD.out.1, ((RuleC.nil w0).append HYD.out.2.1).append HXD.out.2.1, ((StyleC.nil w0).append HYD.out.2.2).append HXD.out.2.2⟩,
        ⟨HP0.out.1, HP1.out.1, HP2.out.1⟩, fun k hk _ => ⟨.inr (HP0.out.2 k (by omega)), .inr (HP1.out.2 k (by omega)), .inr (HP2.out.2 k (by omega))⟩, below_set6 HBA.out (Nat.le_refl _) _ _ _ _ _ _⟩

end Go.Proofs.YtannndpamhgknaaGreatDoor.Bl
