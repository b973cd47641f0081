/- AtC, RRes, ResM: these texts, one behind the other. -/
import Derived.Test.YtohgaknojkdohaaGreatDoorTb
import Derived.Test.YtohgaknojkdohaaGreatDoorTd
import Derived.Test.YtohgaknojkdohaaGreatDoorTc
import Derived.Test.YtohgaknojkdohaaGreatDoorTe
import Derived.Test.YtohgaknojkdohaaGreatDoorTf
/- The reference's 'at' once more: of its words' and styles' slices their room is told, too. -/
namespace Go.Proofs.YtohgaknojkdohaaGreatDoor
open Go.RowKit Gr

/-- A slice at a plain address, if it has elements; (b) no longer than its room. -/
def PlainC (b : Bool) (v : Value) : Prop := ∃ ad n cap, v = .slice ad n cap ∧ (b = true → n ≤ cap) ∧ (0 < n → ∃ g o, ad = some ⟨g, o, none⟩)
theorem PlainC.plain {b : Bool} {v : Value} (h : PlainC b v) : Plain v := by
  obtain ⟨ad, n, cap, e, _, h2⟩ := h
  exact ⟨ad, n, cap, e, h2⟩
theorem own_plainC {w : World} {B n size : Nat} {e : TypeId} {v : Value} {cs : List Value} {b : Bool} (h : w.ownsRow B e size v n cs) : PlainC b v := by
  obtain ⟨_, ⟨rfl, rfl⟩ | ⟨g, cap, cur, rfl, _, _, h5, _⟩⟩ := h
  · exact ⟨none, 0, 0, rfl, fun _ => Nat.le_refl _, fun h => by omega⟩
  · exact ⟨_, n, cap, rfl, fun _ => h5, fun _ => ⟨g, 0, rfl⟩⟩
theorem at_plainCEntriesAt {w : World} {v : Value} {xs : List Entry} (h : EntriesAt w v xs) : PlainC true v := by
  obtain ⟨ad, cap, rfl, _, h4, hc⟩ := h
  refine ⟨ad, _, cap, rfl, fun _ => h4.2, fun hn => ?_⟩
  obtain ⟨g, o, e, _⟩ := hc 0 hn
  exact ⟨g, o, e⟩
theorem at_plainCStylesAt {w : World} {v : Value} {xs : List Style} (h : StylesAt w v xs) : PlainC true v := by
  obtain ⟨ad, cap, rfl, _, h4, hc⟩ := h
  refine ⟨ad, _, cap, rfl, fun _ => h4.2, fun hn => ?_⟩
  obtain ⟨g, o, e, _⟩ := hc 0 hn
  exact ⟨g, o, e⟩
theorem at_plainCRulesOk {w : World} {v : Value} {xs : List Rule} (h : RulesOk w v xs) : PlainC false v := by
  obtain ⟨⟨ad, cap, rfl, _, hc⟩, _⟩ := h
  refine ⟨ad, _, cap, rfl, fun h => (by cases h), fun hn => ?_⟩
  obtain ⟨g, o, e, _⟩ := hc 0 hn
  exact ⟨g, o, e⟩
theorem entries_of_cells {w : World} {v : Value} {cs : List Value} {xs : List Entry} (h : CellsAt w v xs.length 3 cs) (hp : PlainC true v) (hc : EntryC w cs xs) (hl : xs.length ≤ 1000000) : EntriesAt w v xs := by
  obtain ⟨ad, cap, rfl, h2, h3, h4, h5⟩ := h
  obtain ⟨ad', n', cap', e, hcp, hpl⟩ := hp
  injection e with e1 e2 e3
  subst e1 e2 e3
  refine ⟨ad, cap, rfl, hl, ⟨fun e => (h3 e).1, hcp rfl⟩, fun j hj => ?_⟩
  obtain ⟨k0, k1, k2⟩ := hc.2 j _ (Entry_at hj)
  obtain ⟨g, o, ea⟩ := hpl (by omega)
  have cell : ∀ q u, cs[q]? = some u → w.cell? ⟨g, o + q, none⟩ = some u := fun q u hq => by
    obtain ⟨a', ea', g'⟩ := h5 _ _ hq
    obtain rfl := Option.some.inj (ea.symm.trans ea')
    rw [Addr.add_lit] at g'
    exact g'
  exact ⟨g, o, ea, cell _ _ k0, cell _ _ k1, cell _ _ k2⟩
theorem styles_of_cells {w : World} {v : Value} {cs : List Value} {xs : List Style} (h : CellsAt w v xs.length 2 cs) (hp : PlainC true v) (hc : StyleC w cs xs) (hl : xs.length ≤ 1000000) : StylesAt w v xs := by
  obtain ⟨ad, cap, rfl, h2, h3, h4, h5⟩ := h
  obtain ⟨ad', n', cap', e, hcp, hpl⟩ := hp
  injection e with e1 e2 e3
  subst e1 e2 e3
  refine ⟨ad, cap, rfl, hl, ⟨fun e => (h3 e).1, hcp rfl⟩, fun j hj => ?_⟩
  obtain ⟨v0, k0, k1, a0, _⟩ := hc.2 j _ (Style_at hj)
  obtain ⟨g, o, ea⟩ := hpl (by omega)
  have cell : ∀ q u, cs[q]? = some u → w.cell? ⟨g, o + q, none⟩ = some u := fun q u hq => by
    obtain ⟨a', ea', g'⟩ := h5 _ _ hq
    obtain rfl := Option.some.inj (ea.symm.trans ea')
    rw [Addr.add_lit] at g'
    exact g'
  exact ⟨g, o, ea, v0, cell _ _ k0, cell _ _ k1, a0⟩

set_option maxRecDepth 8000 in
set_option maxHeartbeats 4000000 in
theorem atc_any (ls : List Locale) (v : Value) (hS : Small ls) (w0 : World) (hl : LocalesAt w0 v ls) : ∀ (m i : Nat) (w : World), i < m → Below w0.heap.size w0 w → i < ls.length → i < 10 → Par ls i →
    Calls Tryz.prog 43 #[v, .int .i64 i] w fun e w' => ∃ v0 v1 v2 cs0 cs1 cs2, e = .returned (localeV (resOf ls i) v0 v1 v2) ∧ (CellsAt w' v0 (resOf ls i).lex.length 3 cs0 ∧ CellsAt w' v1 (resOf ls i).rules.length 5 cs1 ∧ CellsAt w' v2 (resOf ls i).styles.length 2 cs2)
      ∧ (EntryC w0 cs0 (resOf ls i).lex ∧ RuleC w0 cs1 (resOf ls i).rules ∧ StyleC w0 cs2 (resOf ls i).styles) ∧ (PlainC true v0 ∧ PlainC false v1 ∧ PlainC true v2)
      ∧ (∀ k, k < w.heap.size + 2 → w0.heap.size ≤ k → ((resOf ls i).lex.length = 0 ∨ v0.ownBlock ≠ some k) ∧ ((resOf ls i).rules.length = 0 ∨ v1.ownBlock ≠ some k) ∧ ((resOf ls i).styles.length = 0 ∨ v2.ownBlock ≠ some k)) ∧ Below w.heap.size w w' := by
  intro m
  induction m with
  | zero => intro i w h; omega
  | succ m ih =>
  intro i w him hbw hi hi10 hp
  have HIH := hid ih
  have HP := hid hp
  have HBW := hid hbw
  have hsw := hbw.size
  obtain ⟨ad, cap, rfl, hm, _, hc⟩ := hl
  obtain ⟨g, o, rfl, hx⟩ := hc i hi
  have hx' := hx.on hbw
  obtain ⟨u0, u1, u2, c0, c1, c2, c3, c4, c5, q0, q1, q2⟩ := hx
  obtain ⟨cs0, HC0, HD0⟩ := Entries_cells q0
  obtain ⟨cs1, HC1, HD1⟩ := rules_cells q1
  obtain ⟨cs2, HC2, HD2⟩ := Styles_cells q2
  have HXC := hid (And.intro HC0 (And.intro HC1 HC2))
  have HXD := hid (And.intro HD0 (And.intro HD1 HD2))
  have HXP := hid (And.intro (at_plainCEntriesAt q0) (And.intro (at_plainCRulesOk q1) (at_plainCStylesAt q2)))
  have HXO := hid (And.intro (cells_old HC0) (And.intro (cells_old HC1) (cells_old HC2)))
  clear HC0 HC1 HC2 HD0 HD1 HD2
  replace c0 := (hbw.cell (lt_of_cell c0)).trans c0
  replace c1 := (hbw.cell (lt_of_cell c1)).trans c1
  replace c2 := (hbw.cell (lt_of_cell c2)).trans c2
  replace c3 := (hbw.cell (lt_of_cell c3)).trans c3
  replace c4 := (hbw.cell (lt_of_cell c4)).trans c4
  replace c5 := (hbw.cell (lt_of_cell c5)).trans c5
  have HSX := hid (hS.at i)
  have hpi := hp i (Nat.le_refl _)
  have HE : Hid (∀ p : Nat, (ls.getD i nilLocale).parent = (p : Int) → resOf ls i = { ls.getD i nilLocale with lex := (resOf ls p).lex ++ (ls.getD i nilLocale).lex, rules := (resOf ls p).rules ++ (ls.getD i nilLocale).rules, styles := (resOf ls p).styles ++ (ls.getD i nilLocale).styles }) := hid (fun p h => resOf_step ls i p hp h)
  have HR : Hid ((ls.getD i nilLocale).parent < 0 → resOf ls i = ls.getD i nilLocale) := hid (resOf_root ls i)
  generalize ls.getD i nilLocale = x at *
  obtain ⟨ad0, cap0, e0, _⟩ := q0.shape
  obtain ⟨ad1, cap1, e1, _⟩ := q1.shape
  obtain ⟨ad2, cap2, e2, _⟩ := q2.shape
  subst e0 e1 e2
  have hin : (i : Int) < (ls.length : Int) := by omega
  have hgw := lt_of_cell c0
  dsimp only at hgw
  generalize hnl : ls.length = n at *
  have HNL := hid hnl
  clear hnl hc hp ih q0 q1 q2 hx' hbw
  obtain ⟨id, parent, digits, lex, rules, styles⟩ := x
  dsimp only at *
  generalize hl0 : lex.length = n0 at *
  generalize hl1 : rules.length = n1 at *
  generalize hl2 : styles.length = n2 at *
  have HL := hid (And.intro hl0 (And.intro hl1 hl2))
  by_cases hneg : parent < 0
  · rw [HR.out hneg]
    dsimp only
    rw [hl0, hl1, hl2]
    clear hl0 hl1 hl2
    go_enter Tryz.func43, Tryz.ntmps43
    go_wp2
    have U := HBW.out.trans ((up_trans (up_alloc w (.cells #[.string id, .int .i64 parent, .int .i64 digits, .slice ad0 n0 cap0, .slice ad1 n1 cap1, .slice ad2 n2 cap2] 44)) (up_alloc _ (.cells #[.string id, .int .i64 parent, .int .i64 digits, .slice ad0 n0 cap0, .slice ad1 n1 cap1, .slice ad2 n2 cap2] 44))).mono hsw)
    exact bodyPost_ret (v := localeV ⟨id, parent, digits, lex, rules, styles⟩ (.slice ad0 n0 cap0) (.slice ad1 n1 cap1) (.slice ad2 n2 cap2)) (results_cell_row rfl _ _ w.heap.size 44 _ (0, 0) _ rfl (((up_alloc _ _).block _ (by simp)).trans (row_new w _)) Tryz.underlying44 rfl (by kernel_rfl)) rfl
      ⟨_, _, _, cs0, cs1, cs2, rfl, ⟨HXC.out.1.on U, HXC.out.2.1.on U, HXC.out.2.2.on U⟩, HXD.out, HXP.out, fun k _ hk => ⟨HXO.out.1 k hk, HXO.out.2.1 k hk, HXO.out.2.2 k hk⟩, up_trans (up_alloc _ _) (up_alloc _ _)⟩
  · clear hl0 hl1 hl2
    obtain ⟨p, rfl⟩ : ∃ p : Nat, parent = (p : Int) := ⟨parent.toNat, by omega⟩
    have HPP : Hid (Par ls p) := hid (fun j hj => HP.out j (by omega))
    have HU := hid (up_trans (up_alloc w (.cells #[.string ⟨#[]⟩, .int .i64 0, .int .i64 0, .slice none 0 0, .slice none 0 0, .slice none 0 0] 44)) (up_alloc _ (.cells #[.string id, .int .i64 (p : Int), .int .i64 digits, .slice ad0 n0 cap0, .slice ad1 n1 cap1, .slice ad2 n2 cap2] 44)))
    have HCALL := hid (HIH.out p ((w.alloc (.cells #[.string ⟨#[]⟩, .int .i64 0, .int .i64 0, .slice none 0 0, .slice none 0 0, .slice none 0 0] 44)).alloc (.cells #[.string id, .int .i64 (p : Int), .int .i64 digits, .slice ad0 n0 cap0, .slice ad1 n1 cap1, .slice ad2 n2 cap2] 44)) (by omega) (HBW.out.trans (HU.out.mono hsw)) (by omega) (by omega) HPP.out)
    have HB4 := hid (row_new w (.cells #[.string ⟨#[]⟩, .int .i64 0, .int .i64 0, .slice none 0 0, .slice none 0 0, .slice none 0 0] 44))
    have HB5 := hid (row_new' (w.alloc (.cells #[.string ⟨#[]⟩, .int .i64 0, .int .i64 0, .slice none 0 0, .slice none 0 0, .slice none 0 0] 44)) (.cells #[.string id, .int .i64 (p : Int), .int .i64 digits, .slice ad0 n0 cap0, .slice ad1 n1 cap1, .slice ad2 n2 cap2] 44) (w.heap.size + 1) (by simp))
    have HSP := hid (resOf_small ls hS p (by omega))
    have HEP := hid (HE.out p rfl)
    rw [HEP.out]
    generalize resOf ls p = y at *
    go_enter Tryz.func43, Tryz.ntmps43
    go_wp2_with fail
    refine HCALL.out.mono ?_
    rintro e w1 ⟨v0, v1, v2, ds0, ds1, ds2, rfl, hyC, hyD, hyP, hyF, bel⟩
    unfold localeV
    have hs1 : w.heap.size + 2 ≤ w1.heap.size := by have := bel.size; simpa using this
    have hyF' := hyF (w.heap.size + 1) (by simp) (by omega)
    have HBX := hid (HBW.out.trans (up_trans HU.out bel |>.mono hsw))
    have HB1 := hid (up_trans HU.out bel)
    obtain ⟨yid, ypar, ydig, ylex, yrules, ystyles⟩ := y
    dsimp only at *
    obtain ⟨ady0, my0, capy0, ey0, _⟩ := hyP.1
    obtain ⟨ady1, my1, capy1, ey1, _⟩ := hyP.2.1
    obtain ⟨ady2, my2, capy2, ey2, _⟩ := hyP.2.2
    generalize hm0 : ylex.length = m0 at *
    generalize hm1 : yrules.length = m1 at *
    generalize hm2 : ystyles.length = m2 at *
    have HM := hid (And.intro hm0 (And.intro hm1 hm2))
    obtain rfl : my0 = m0 := by obtain ⟨_, _, e, _⟩ := hyC.1; rw [ey0] at e; injection e
    obtain rfl : my1 = m1 := by obtain ⟨_, _, e, _⟩ := hyC.2.1; rw [ey1] at e; injection e
    obtain rfl : my2 = m2 := by obtain ⟨_, _, e, _⟩ := hyC.2.2; rw [ey2] at e; injection e
    subst ey0 ey1 ey2
    have HV1 := hid (show Vars (w1.alloc (.cells #[.string yid, .int .i64 ypar, .int .i64 ydig, .slice ady0 my0 capy0, .slice ady1 my1 capy1, .slice ady2 my2 capy2] 44)) w.heap.size (w.heap.size + 1) w1.heap.size #[.string ⟨#[]⟩, .int .i64 0, .int .i64 0, .slice none 0 0, .slice none 0 0, .slice none 0 0] #[.string id, .int .i64 (p : Int), .int .i64 digits, .slice ad0 n0 cap0, .slice ad1 n1 cap1, .slice ad2 n2 cap2] #[.string yid, .int .i64 ypar, .int .i64 ydig, .slice ady0 my0 capy0, .slice ady1 my1 capy1, .slice ady2 my2 capy2] from
      ⟨((up_alloc w1 _).block w.heap.size (by omega)).trans ((bel.block w.heap.size (by simp; omega)).trans (((up_alloc (w.alloc (.cells #[.string ⟨#[]⟩, .int .i64 0, .int .i64 0, .slice none 0 0, .slice none 0 0, .slice none 0 0] 44)) (.cells #[.string id, .int .i64 (p : Int), .int .i64 digits, .slice ad0 n0 cap0, .slice ad1 n1 cap1, .slice ad2 n2 cap2] 44)).block w.heap.size (by simp)).trans HB4.out)), ((up_alloc w1 _).block (w.heap.size + 1) (by omega)).trans ((bel.block (w.heap.size + 1) (by simp)).trans HB5.out), row_new w1 _, by omega, by omega⟩)
    have HS1 := hid (And.intro (show Safe w1 (w.heap.size + 1) (.slice ady0 my0 capy0) my0 3 ds0 from ⟨hyC.1, hyF'.1⟩) (And.intro (show Safe w1 (w.heap.size + 1) (.slice ady1 my1 capy1) my1 5 ds1 from ⟨hyC.2.1, hyF'.2.1⟩) (show Safe w1 (w.heap.size + 1) (.slice ady2 my2 capy2) my2 2 ds2 from ⟨hyC.2.2, hyF'.2.2⟩)))
    have HT1 := hid (And.intro (show Safe w1 (w.heap.size + 1) (.slice ad0 n0 cap0) n0 3 cs0 from ⟨HXC.out.1.on HBX.out, HXO.out.1 _ (by omega)⟩) (And.intro (show Safe w1 (w.heap.size + 1) (.slice ad1 n1 cap1) n1 5 cs1 from ⟨HXC.out.2.1.on HBX.out, HXO.out.2.1 _ (by omega)⟩) (show Safe w1 (w.heap.size + 1) (.slice ad2 n2 cap2) n2 2 cs2 from ⟨HXC.out.2.2.on HBX.out, HXO.out.2.2 _ (by omega)⟩)))
    have HYD := hid hyD
    have hmb : my0 ≤ 100000 ∧ my1 ≤ 100000 ∧ my2 ≤ 100000 := HSP.out
    have hnb : n1 ≤ 10000 ∧ n0 ≤ 10000 ∧ n2 ≤ 10000 := ⟨HSX.out.1, HSX.out.2.1, HSX.out.2.2.1⟩
    clear hyC hyD hyP hyF hyF' bel hm0 hm1 hm2 c0 c1 c2 c3 c4 c5
    have HWA := hid (up_alloc w1 (.cells #[.string yid, .int .i64 ypar, .int .i64 ydig, .slice ady0 my0 capy0, .slice ady1 my1 capy1, .slice ady2 my2 capy2] 44))
    go_wp2
    obtain ⟨g6, hg6⟩ : ∃ g6, g6 = w1.heap.size := ⟨_, rfl⟩
    obtain ⟨wa, hwa⟩ : ∃ wa, wa = w1.alloc (.cells #[.string yid, .int .i64 ypar, .int .i64 ydig, .slice ady0 my0 capy0, .slice ady1 my1 capy1, .slice ady2 my2 capy2] 44) := ⟨_, rfl⟩
    rw [← hwa, ← hg6] at HV1
    rw [← hwa] at HWA
    rw [← hwa, ← hg6]
    have HV := hid HV1.out
    have HCL := hid (show (∀ u ∈ [] ++ ds0 ++ cs0, u.oneCell' = true) ∧ (∀ u ∈ [] ++ ds1 ++ cs1, u.oneCell' = true) ∧ (∀ u ∈ [] ++ ds2 ++ cs2, u.oneCell' = true) from ⟨((EntryC.nil w0).append HYD.out.1 |>.append HXD.out.1).ones, ((RuleC.nil w0).append HYD.out.2.1 |>.append HXD.out.2.1).ones, ((StyleC.nil w0).append HYD.out.2.2 |>.append HXD.out.2.2).ones⟩)
    have HSY := hid (And.intro (HS1.out.1.on HWA.out) (And.intro (HS1.out.2.1.on HWA.out) (HS1.out.2.2.on HWA.out)))
    have HSX := hid (And.intro (HT1.out.1.on HWA.out) (And.intro (HT1.out.2.1.on HWA.out) (HT1.out.2.2.on HWA.out)))
    have HBA := hid (up_trans HB1.out HWA.out)
    have hg6' : w.heap.size + 2 ≤ g6 := by omega
    have hwaS : w.heap.size + 2 ≤ wa.heap.size := by have := HV.out.lt.2.2; omega
    clear hwa HV1 hg6 HS1 HT1 HWA HBX
    obtain ⟨k40, k50, k60, k45, k46⟩ := HV.out
    have c5 : wa.cell? ⟨w.heap.size + 1, 3, none⟩ = some (.slice ad0 n0 cap0) := by rw [cell_of_row _ _ _ _ _ _ k50]; rfl
    have c6 : wa.cell? ⟨g6, 3, none⟩ = some (.slice ady0 my0 capy0) := by rw [cell_of_row _ _ _ _ _ _ k60]; rfl
    have f5 : wa.frozen? ⟨w.heap.size + 1, 3, none⟩ = false := frozen_of_row _ _ _ _ _ k50
    have hl5 := HV.out.lt.2.1
    have hl6 := HV.out.lt.2.2
    clear k40 k50 k60 k45 k46
    have HOM := hid (own_made wa.drew 46 3 wa.heap.size wa.heap.size (Nat.le_refl _) rfl)
    have HPA := hid (HSY.out.1.1.on (((Below.refl _ wa).drew).alloc (Nat.le_refl _) (.cells #[] 46)))
    apply key_cut4 (F := fun (_ : Value) (adB : Option Addr) (capB : Nat) (wB : World) => Below wa.heap.size wa wB ∧ wB.ownsRow wa.heap.size 46 3 (.slice adB (my0 + n0) capB) (my0 + n0) ([] ++ ds0 ++ cs0))
    case rest =>
      intro key
      go_region_law (first
        | (refine step_append_cells _ rfl (.tmp 19) (.tmp 21) 40 46 rfl (.agg #[.string ⟨#[]⟩, .int .i64 0, .int .i64 0]) 3 32 Tryz.underlying40 info_Entry rfl (by decide) (by decide) wa.heap.size (.slice (some ⟨wa.heap.size, 0, none⟩) 0 0) 0 [] (by simp [Act.eval]) HOM.out (.slice ady0 my0 capy0) my0 ds0 (by simp [Act.eval]) HPA.out (by omega) (by simp) ?_; intro vA wA hA1 hA2 hA3; have HBA := hid ((((Below.refl _ wa).drew).alloc (Nat.le_refl _) (.cells #[] 46)).grown hA2 (by simp) (fun k e => Nat.le_of_eq (Option.some.inj e))); have c5A := (HBA.out.cell (p := ⟨w.heap.size + 1, 3, none⟩) hl5).trans c5; have c6A := (HBA.out.cell (p := ⟨g6, 3, none⟩) hl6).trans c6; have f5A := frozen_on HBA.out hl5 f5; have HOA := hid hA1; have HXA := hid (HSX.out.1.1.on HBA.out); have hsA := HBA.out.size; have hOw := hid (fun k (e : vA.ownBlock = some k) => (World.ownsRow.lt hA1 k e).1); clear hA1 hA2 hA3)
        | (refine step_append_cells _ rfl (.tmp 22) (.tmp 24) 40 46 rfl (.agg #[.string ⟨#[]⟩, .int .i64 0, .int .i64 0]) 3 32 Tryz.underlying40 info_Entry rfl (by decide) (by decide) wa.heap.size vA (0 + my0) ([] ++ ds0) (by simp [Act.eval]) HOA.out (.slice ad0 n0 cap0) n0 cs0 (by simp [Act.eval]) HXA.out (by omega) hsA ?_; intro vB wB hB1 hB2 hB3; have HBB := hid (HBA.out.grown hB2 hsA (fun k e => hOw.out k e)); have c5B := (HBB.out.cell (p := ⟨w.heap.size + 1, 3, none⟩) hl5).trans c5; have f5B := frozen_on HBB.out hl5 f5; have HOB := hid hB1; obtain ⟨adB, capB, eB, _⟩ := own_shape hB1; rw [Nat.zero_add] at eB; subst eB; have hl5B : w.heap.size + 1 < wB.heap.size := Nat.lt_of_lt_of_le hl5 HBB.out.size; clear hB1 hB2 hB3))
      all_goals exact key vA adB capB wB ⟨HBB.out, by have := HOB.out; rwa [Nat.zero_add] at this⟩
    intro vA0 adB0 capB0 wB hF
    have hl4 := HV.out.lt.1
    obtain ⟨wa1, hwa1⟩ : ∃ wa1, wa1 = wB.setCell ⟨w.heap.size + 1, 3, none⟩ (.slice adB0 (my0 + n0) capB0) := ⟨_, rfl⟩
    have HV' := hid ((HV.out.on hF.1).set (c := 3) (u := .slice adB0 (my0 + n0) capB0))
    have HSY' := hid (And.intro (HSY.out.1.step (c := 3) (u := .slice adB0 (my0 + n0) capB0) hF.1) (And.intro (HSY.out.2.1.step (c := 3) (u := .slice adB0 (my0 + n0) capB0) hF.1) (HSY.out.2.2.step (c := 3) (u := .slice adB0 (my0 + n0) capB0) hF.1)))
    have HSX' := hid (And.intro (HSX.out.1.step (c := 3) (u := .slice adB0 (my0 + n0) capB0) hF.1) (And.intro (HSX.out.2.1.step (c := 3) (u := .slice adB0 (my0 + n0) capB0) hF.1) (HSX.out.2.2.step (c := 3) (u := .slice adB0 (my0 + n0) capB0) hF.1)))
    have HBA' := hid ((up_trans HBA.out hF.1).setCell (p := ⟨w.heap.size + 1, 3, none⟩) (Nat.le_succ _) (.slice adB0 (my0 + n0) capB0))
    have HF0' := hid (show Safe (wB.setCell ⟨w.heap.size + 1, 3, none⟩ (.slice adB0 (my0 + n0) capB0)) (w.heap.size + 1) (.slice adB0 (my0 + n0) capB0) (my0 + n0) 3 ([] ++ ds0 ++ cs0) from ⟨cells_set (own_cells hF.2 (HCL.out.1)) (.inr (own_far hF.2 hl5)), .inr (own_far hF.2 hl5)⟩)
    have HP0 := hid (And.intro (own_plainC (b := true) hF.2) (fun k (hk : k < wa.heap.size) => own_far hF.2 hk))
    have hsz1 : wa.heap.size ≤ (wB.setCell ⟨w.heap.size + 1, 3, none⟩ (.slice adB0 (my0 + n0) capB0)).heap.size := by have := hF.1.size; simpa [World.setCell] using this
    rw [← hwa1] at HV' HSY' HSX' HBA' HF0' hsz1 ⊢
    simp only [List.setIfInBounds_toArray, List.set_cons_succ, List.set_cons_zero] at HV'
    clear hF hwa1 HV HSY HSX HBA HOM HPA c5 c6 f5 hl5 hl6 hl4
    have HV := hid HV'.out
    have HSY := hid HSY'.out
    have HSX := hid HSX'.out
    have HBA := hid HBA'.out
    have HF0 := hid HF0'.out
    clear HV' HSY' HSX' HBA' HF0'
    go_wp2
    obtain ⟨k40, k50, k60, k45, k46⟩ := HV.out
    have c5 : wa1.cell? ⟨w.heap.size + 1, 4, none⟩ = some (.slice ad1 n1 cap1) := by rw [cell_of_row _ _ _ _ _ _ k50]; rfl
    have c6 : wa1.cell? ⟨g6, 4, none⟩ = some (.slice ady1 my1 capy1) := by rw [cell_of_row _ _ _ _ _ _ k60]; rfl
    have f5 : wa1.frozen? ⟨w.heap.size + 1, 4, none⟩ = false := frozen_of_row _ _ _ _ _ k50
    have hl5 := HV.out.lt.2.1
    have hl6 := HV.out.lt.2.2
    clear k40 k50 k60 k45 k46
    have HOM := hid (own_made wa1.drew 56 5 wa1.heap.size wa1.heap.size (Nat.le_refl _) rfl)
    have HPA := hid (HSY.out.2.1.1.on (((Below.refl _ wa1).drew).alloc (Nat.le_refl _) (.cells #[] 56)))
    apply key_cut4 (F := fun (_ : Value) (adB : Option Addr) (capB : Nat) (wB : World) => Below wa1.heap.size wa1 wB ∧ wB.ownsRow wa1.heap.size 56 5 (.slice adB (my1 + n1) capB) (my1 + n1) ([] ++ ds1 ++ cs1))
    case rest =>
      intro key
      go_region_law (first
        | (refine step_append_cells _ rfl (.tmp 27) (.tmp 29) 41 56 rfl (.agg #[.int .i64 0, .slice none 0 0, .int .i64 0, .slice none 0 0, .int .i64 0]) 5 72 Tryz.underlying41 info_Rule rfl (by decide) (by decide) wa1.heap.size (.slice (some ⟨wa1.heap.size, 0, none⟩) 0 0) 0 [] (by simp [Act.eval]) HOM.out (.slice ady1 my1 capy1) my1 ds1 (by simp [Act.eval]) HPA.out (by omega) (by simp) ?_; intro vA wA hA1 hA2 hA3; have HBA := hid ((((Below.refl _ wa1).drew).alloc (Nat.le_refl _) (.cells #[] 56)).grown hA2 (by simp) (fun k e => Nat.le_of_eq (Option.some.inj e))); have c5A := (HBA.out.cell (p := ⟨w.heap.size + 1, 4, none⟩) hl5).trans c5; have c6A := (HBA.out.cell (p := ⟨g6, 4, none⟩) hl6).trans c6; have f5A := frozen_on HBA.out hl5 f5; have HOA := hid hA1; have HXA := hid (HSX.out.2.1.1.on HBA.out); have hsA := HBA.out.size; have hOw := hid (fun k (e : vA.ownBlock = some k) => (World.ownsRow.lt hA1 k e).1); clear hA1 hA2 hA3)
        | (refine step_append_cells _ rfl (.tmp 30) (.tmp 32) 41 56 rfl (.agg #[.int .i64 0, .slice none 0 0, .int .i64 0, .slice none 0 0, .int .i64 0]) 5 72 Tryz.underlying41 info_Rule rfl (by decide) (by decide) wa1.heap.size vA (0 + my1) ([] ++ ds1) (by simp [Act.eval]) HOA.out (.slice ad1 n1 cap1) n1 cs1 (by simp [Act.eval]) HXA.out (by omega) hsA ?_; intro vB wB hB1 hB2 hB3; have HBB := hid (HBA.out.grown hB2 hsA (fun k e => hOw.out k e)); have c5B := (HBB.out.cell (p := ⟨w.heap.size + 1, 4, none⟩) hl5).trans c5; have f5B := frozen_on HBB.out hl5 f5; have HOB := hid hB1; obtain ⟨adB, capB, eB, _⟩ := own_shape hB1; rw [Nat.zero_add] at eB; subst eB; have hl5B : w.heap.size + 1 < wB.heap.size := Nat.lt_of_lt_of_le hl5 HBB.out.size; clear hB1 hB2 hB3))
      all_goals exact key vA adB capB wB ⟨HBB.out, by have := HOB.out; rwa [Nat.zero_add] at this⟩
    intro vA1 adB1 capB1 wB hF
    have hl4 := HV.out.lt.1
    obtain ⟨wa2, hwa2⟩ : ∃ wa2, wa2 = wB.setCell ⟨w.heap.size + 1, 4, none⟩ (.slice adB1 (my1 + n1) capB1) := ⟨_, rfl⟩
    have HV' := hid ((HV.out.on hF.1).set (c := 4) (u := .slice adB1 (my1 + n1) capB1))
    have HSY' := hid (And.intro (HSY.out.1.step (c := 4) (u := .slice adB1 (my1 + n1) capB1) hF.1) (And.intro (HSY.out.2.1.step (c := 4) (u := .slice adB1 (my1 + n1) capB1) hF.1) (HSY.out.2.2.step (c := 4) (u := .slice adB1 (my1 + n1) capB1) hF.1)))
    have HSX' := hid (And.intro (HSX.out.1.step (c := 4) (u := .slice adB1 (my1 + n1) capB1) hF.1) (And.intro (HSX.out.2.1.step (c := 4) (u := .slice adB1 (my1 + n1) capB1) hF.1) (HSX.out.2.2.step (c := 4) (u := .slice adB1 (my1 + n1) capB1) hF.1)))
    have HBA' := hid ((up_trans HBA.out hF.1).setCell (p := ⟨w.heap.size + 1, 4, none⟩) (Nat.le_succ _) (.slice adB1 (my1 + n1) capB1))
    have HF1' := hid (show Safe (wB.setCell ⟨w.heap.size + 1, 4, none⟩ (.slice adB1 (my1 + n1) capB1)) (w.heap.size + 1) (.slice adB1 (my1 + n1) capB1) (my1 + n1) 5 ([] ++ ds1 ++ cs1) from ⟨cells_set (own_cells hF.2 (HCL.out.2.1)) (.inr (own_far hF.2 hl5)), .inr (own_far hF.2 hl5)⟩)
    have HP1 := hid (And.intro (own_plainC (b := false) hF.2) (fun k (hk : k < wa1.heap.size) => own_far hF.2 hk))
    have hsz2 : wa1.heap.size ≤ (wB.setCell ⟨w.heap.size + 1, 4, none⟩ (.slice adB1 (my1 + n1) capB1)).heap.size := by have := hF.1.size; simpa [World.setCell] using this
    have HF0' := hid (HF0.out.step (c := 4) (u := .slice adB1 (my1 + n1) capB1) hF.1)
    rw [← hwa2] at HV' HSY' HSX' HBA' HF1' hsz2 HF0' ⊢
    simp only [List.setIfInBounds_toArray, List.set_cons_succ, List.set_cons_zero] at HV'
    clear hF hwa2 HV HSY HSX HBA HOM HPA c5 c6 f5 hl5 hl6 hl4 HF0
    have HV := hid HV'.out
    have HSY := hid HSY'.out
    have HSX := hid HSX'.out
    have HBA := hid HBA'.out
    have HF1 := hid HF1'.out
    have HF0 := hid HF0'.out
    clear HV' HSY' HSX' HBA' HF1' HF0'
    go_wp2
    obtain ⟨k40, k50, k60, k45, k46⟩ := HV.out
    have c5 : wa2.cell? ⟨w.heap.size + 1, 5, none⟩ = some (.slice ad2 n2 cap2) := by rw [cell_of_row _ _ _ _ _ _ k50]; rfl
    have c6 : wa2.cell? ⟨g6, 5, none⟩ = some (.slice ady2 my2 capy2) := by rw [cell_of_row _ _ _ _ _ _ k60]; rfl
    have f5 : wa2.frozen? ⟨w.heap.size + 1, 5, none⟩ = false := frozen_of_row _ _ _ _ _ k50
    have hl5 := HV.out.lt.2.1
    have hl6 := HV.out.lt.2.2
    clear k40 k50 k60 k45 k46
    have HOM := hid (own_made wa2.drew 52 2 wa2.heap.size wa2.heap.size (Nat.le_refl _) rfl)
    have HPA := hid (HSY.out.2.2.1.on (((Below.refl _ wa2).drew).alloc (Nat.le_refl _) (.cells #[] 52)))
    apply key_cut4 (F := fun (_ : Value) (adB : Option Addr) (capB : Nat) (wB : World) => Below wa2.heap.size wa2 wB ∧ wB.ownsRow wa2.heap.size 52 2 (.slice adB (my2 + n2) capB) (my2 + n2) ([] ++ ds2 ++ cs2))
    case rest =>
      intro key
      go_region_law (first
        | (refine step_append_cells _ rfl (.tmp 35) (.tmp 37) 42 52 rfl (.agg #[.int .i64 0, .slice none 0 0]) 2 32 Tryz.underlying42 info_Style rfl (by decide) (by decide) wa2.heap.size (.slice (some ⟨wa2.heap.size, 0, none⟩) 0 0) 0 [] (by simp [Act.eval]) HOM.out (.slice ady2 my2 capy2) my2 ds2 (by simp [Act.eval]) HPA.out (by omega) (by simp) ?_; intro vA wA hA1 hA2 hA3; have HBA := hid ((((Below.refl _ wa2).drew).alloc (Nat.le_refl _) (.cells #[] 52)).grown hA2 (by simp) (fun k e => Nat.le_of_eq (Option.some.inj e))); have c5A := (HBA.out.cell (p := ⟨w.heap.size + 1, 5, none⟩) hl5).trans c5; have c6A := (HBA.out.cell (p := ⟨g6, 5, none⟩) hl6).trans c6; have f5A := frozen_on HBA.out hl5 f5; have HOA := hid hA1; have HXA := hid (HSX.out.2.2.1.on HBA.out); have hsA := HBA.out.size; have hOw := hid (fun k (e : vA.ownBlock = some k) => (World.ownsRow.lt hA1 k e).1); clear hA1 hA2 hA3)
        | (refine step_append_cells _ rfl (.tmp 38) (.tmp 40) 42 52 rfl (.agg #[.int .i64 0, .slice none 0 0]) 2 32 Tryz.underlying42 info_Style rfl (by decide) (by decide) wa2.heap.size vA (0 + my2) ([] ++ ds2) (by simp [Act.eval]) HOA.out (.slice ad2 n2 cap2) n2 cs2 (by simp [Act.eval]) HXA.out (by omega) hsA ?_; intro vB wB hB1 hB2 hB3; have HBB := hid (HBA.out.grown hB2 hsA (fun k e => hOw.out k e)); have c5B := (HBB.out.cell (p := ⟨w.heap.size + 1, 5, none⟩) hl5).trans c5; have f5B := frozen_on HBB.out hl5 f5; have HOB := hid hB1; obtain ⟨adB, capB, eB, _⟩ := own_shape hB1; rw [Nat.zero_add] at eB; subst eB; have hl5B : w.heap.size + 1 < wB.heap.size := Nat.lt_of_lt_of_le hl5 HBB.out.size; clear hB1 hB2 hB3))
      all_goals exact key vA adB capB wB ⟨HBB.out, by have := HOB.out; rwa [Nat.zero_add] at this⟩
    intro vA2 adB2 capB2 wB hF
    have hl4 := HV.out.lt.1
    obtain ⟨wa3, hwa3⟩ : ∃ wa3, wa3 = wB.setCell ⟨w.heap.size + 1, 5, none⟩ (.slice adB2 (my2 + n2) capB2) := ⟨_, rfl⟩
    have HV' := hid ((HV.out.on hF.1).set (c := 5) (u := .slice adB2 (my2 + n2) capB2))
    have HSY' := hid (And.intro (HSY.out.1.step (c := 5) (u := .slice adB2 (my2 + n2) capB2) hF.1) (And.intro (HSY.out.2.1.step (c := 5) (u := .slice adB2 (my2 + n2) capB2) hF.1) (HSY.out.2.2.step (c := 5) (u := .slice adB2 (my2 + n2) capB2) hF.1)))
    have HSX' := hid (And.intro (HSX.out.1.step (c := 5) (u := .slice adB2 (my2 + n2) capB2) hF.1) (And.intro (HSX.out.2.1.step (c := 5) (u := .slice adB2 (my2 + n2) capB2) hF.1) (HSX.out.2.2.step (c := 5) (u := .slice adB2 (my2 + n2) capB2) hF.1)))
    have HBA' := hid ((up_trans HBA.out hF.1).setCell (p := ⟨w.heap.size + 1, 5, none⟩) (Nat.le_succ _) (.slice adB2 (my2 + n2) capB2))
    have HF2' := hid (show Safe (wB.setCell ⟨w.heap.size + 1, 5, none⟩ (.slice adB2 (my2 + n2) capB2)) (w.heap.size + 1) (.slice adB2 (my2 + n2) capB2) (my2 + n2) 2 ([] ++ ds2 ++ cs2) from ⟨cells_set (own_cells hF.2 (HCL.out.2.2)) (.inr (own_far hF.2 hl5)), .inr (own_far hF.2 hl5)⟩)
    have HP2 := hid (And.intro (own_plainC (b := true) hF.2) (fun k (hk : k < wa2.heap.size) => own_far hF.2 hk))
    have hsz3 : wa2.heap.size ≤ (wB.setCell ⟨w.heap.size + 1, 5, none⟩ (.slice adB2 (my2 + n2) capB2)).heap.size := by have := hF.1.size; simpa [World.setCell] using this
    have HF0' := hid (HF0.out.step (c := 5) (u := .slice adB2 (my2 + n2) capB2) hF.1)
    have HF1' := hid (HF1.out.step (c := 5) (u := .slice adB2 (my2 + n2) capB2) hF.1)
    rw [← hwa3] at HV' HSY' HSX' HBA' HF2' hsz3 HF0' HF1' ⊢
    simp only [List.setIfInBounds_toArray, List.set_cons_succ, List.set_cons_zero] at HV'
    clear hF hwa3 HV HSY HSX HBA HOM HPA c5 c6 f5 hl5 hl6 hl4 HF0 HF1
    have HV := hid HV'.out
    have HSY := hid HSY'.out
    have HSX := hid HSX'.out
    have HBA := hid HBA'.out
    have HF2 := hid HF2'.out
    have HF0 := hid HF0'.out
    have HF1 := hid HF1'.out
    clear HV' HSY' HSX' HBA' HF2' HF0' HF1'
    obtain ⟨k40, k50, k60, k45, k46⟩ := HV.out
    have b0 : wa3.cell? ⟨w.heap.size + 1, 0, none⟩ = some (.string id) := by rw [cell_of_row _ _ _ _ _ _ k50]; rfl
    have a0 : wa3.cell? ⟨w.heap.size, 0, none⟩ = some (.string ⟨#[]⟩) := by rw [cell_of_row _ _ _ _ _ _ k40]; rfl
    have f0 : wa3.frozen? ⟨w.heap.size, 0, none⟩ = false := frozen_of_row _ _ _ _ _ k40
    have b1 : wa3.cell? ⟨w.heap.size + 1, 1, none⟩ = some (.int .i64 (p : Int)) := by rw [cell_of_row _ _ _ _ _ _ k50]; rfl
    have a1 : wa3.cell? ⟨w.heap.size, 1, none⟩ = some (.int .i64 0) := by rw [cell_of_row _ _ _ _ _ _ k40]; rfl
    have f1 : wa3.frozen? ⟨w.heap.size, 1, none⟩ = false := frozen_of_row _ _ _ _ _ k40
    have b2 : wa3.cell? ⟨w.heap.size + 1, 2, none⟩ = some (.int .i64 digits) := by rw [cell_of_row _ _ _ _ _ _ k50]; rfl
    have a2 : wa3.cell? ⟨w.heap.size, 2, none⟩ = some (.int .i64 0) := by rw [cell_of_row _ _ _ _ _ _ k40]; rfl
    have f2 : wa3.frozen? ⟨w.heap.size, 2, none⟩ = false := frozen_of_row _ _ _ _ _ k40
    have b3 : wa3.cell? ⟨w.heap.size + 1, 3, none⟩ = some (.slice adB0 (my0 + n0) capB0) := by rw [cell_of_row _ _ _ _ _ _ k50]; rfl
    have a3 : wa3.cell? ⟨w.heap.size, 3, none⟩ = some (.slice none 0 0) := by rw [cell_of_row _ _ _ _ _ _ k40]; rfl
    have f3 : wa3.frozen? ⟨w.heap.size, 3, none⟩ = false := frozen_of_row _ _ _ _ _ k40
    have b4 : wa3.cell? ⟨w.heap.size + 1, 4, none⟩ = some (.slice adB1 (my1 + n1) capB1) := by rw [cell_of_row _ _ _ _ _ _ k50]; rfl
    have a4 : wa3.cell? ⟨w.heap.size, 4, none⟩ = some (.slice none 0 0) := by rw [cell_of_row _ _ _ _ _ _ k40]; rfl
    have f4 : wa3.frozen? ⟨w.heap.size, 4, none⟩ = false := frozen_of_row _ _ _ _ _ k40
    have b5 : wa3.cell? ⟨w.heap.size + 1, 5, none⟩ = some (.slice adB2 (my2 + n2) capB2) := by rw [cell_of_row _ _ _ _ _ _ k50]; rfl
    have a5 : wa3.cell? ⟨w.heap.size, 5, none⟩ = some (.slice none 0 0) := by rw [cell_of_row _ _ _ _ _ _ k40]; rfl
    have f5 : wa3.frozen? ⟨w.heap.size, 5, none⟩ = false := frozen_of_row _ _ _ _ _ k40
    have HK4 := hid k40
    have hl4 := HV.out.lt.1
    have hl5 := HV.out.lt.2.1
    clear k40 k50 k60 k45 k46
    go_wp2
    exact bodyPost_ret (v := localeV ⟨id, p, digits, ylex ++ lex, yrules ++ rules, ystyles ++ styles⟩ (.slice adB0 (my0 + n0) capB0) (.slice adB1 (my1 + n1) capB1) (.slice adB2 (my2 + n2) capB2)) (results_cell_row rfl _ _ w.heap.size 44 _ (0, 0) _ rfl (set6_heap HK4.out _ _ _ _ _ _) Tryz.underlying44 rfl (by kernel_rfl)) rfl
      ⟨_, _, _, rfl, [] ++ ds0 ++ cs0, [] ++ ds1 ++ cs1, [] ++ ds2 ++ cs2,
        ⟨by rw [HM.out.1, HL.out.1]; exact cells_set6 HF0.out.1 (.inr (HP0.out.2 _ (by omega))), by rw [HM.out.2.1, HL.out.2.1]; exact cells_set6 HF1.out.1 (.inr (HP1.out.2 _ (by omega))), by rw [HM.out.2.2, HL.out.2.2]; exact cells_set6 HF2.out.1 (.inr (HP2.out.2 _ (by omega)))⟩,
        ⟨((EntryC.nil w0).append HYD.out.1).append HXD.out.1, ((RuleC.nil w0).append HYD.out.2.1).append HXD.out.2.1, ((StyleC.nil w0).append HYD.out.2.2).append HXD.out.2.2⟩,
        ⟨HP0.out.1, HP1.out.1, HP2.out.1⟩, fun k hk _ => ⟨.inr (HP0.out.2 k (by omega)), .inr (HP1.out.2 k (by omega)), .inr (HP2.out.2 k (by omega))⟩, below_set6 HBA.out (Nat.le_refl _) _ _ _ _ _ _⟩

end Go.Proofs.YtohgaknojkdohaaGreatDoor

/- A name, resolved: what the reference's Resolve answers; whether two locales are one, as the statements ask it. -/
namespace Go.Proofs.YtohgaknojkdohaaGreatDoor
open Go.RowKit Gr

/-- The first of that name, or none. -/
def RFound (w : World) (ls : List Locale) (id : ByteArray) (e : Ending) (w' : World) : Prop :=
  Below w.heap.size w w' ∧ ((∃ i, i < ls.length ∧ (ls.getD i nilLocale).id = id ∧ (∀ j, j < i → (ls.getD j nilLocale).id ≠ id) ∧ ∃ v0 v1 v2, e = .returned (.tuple #[localeV (resOf ls i) v0 v1 v2, .bool true]) ∧ LocaleAt w' (resOf ls i) v0 v1 v2) ∨
    ((∀ j, j < ls.length → (ls.getD j nilLocale).id ≠ id) ∧ e = .returned (.tuple #[localeV nilLocale (.slice none 0 0) (.slice none 0 0) (.slice none 0 0), .bool false])))

set_option maxRecDepth 8000 in
theorem rresolve_any (ls : List Locale) (id : ByteArray) (v : Value) (w : World) (hl : LocalesAt w v ls) (hS : Small ls) (hr : rightL ls = true) (hrs : ∀ i, i < ls.length → (resOf ls i).lex.length ≤ 1000000 ∧ (resOf ls i).rules.length ≤ 1000000 ∧ (resOf ls i).styles.length ≤ 1000000) :
    Calls Tryz.prog 24 #[v, .string id] w (RFound w ls id) := by
  have HL := hid hl
  have HRS := hid hrs
  have HU := hid (up_alloc w (.cells #[.string ⟨#[]⟩, .int .i64 0, .int .i64 0, .slice none 0 0, .slice none 0 0, .slice none 0 0] 44))
  have HX := hid (row_new w (.cells #[.string ⟨#[]⟩, .int .i64 0, .int .i64 0, .slice none 0 0, .slice none 0 0, .slice none 0 0] 44))
  have H10 := hid (rightL_length hr)
  have HPR := hid (rightL_par hr)
  have HAT := hid (fun i w' b hi h10 hp => atc_any ls v hS w hl (i + 1) i w' (Nat.lt_succ_self i) b hi h10 hp)
  obtain ⟨ad, cap, ev, hm, _, hc⟩ := hl
  have HC := hid hc
  generalize hn : ls.length = n at ev hm hc
  have HN := hid hn
  subst ev
  clear hc hn hS hr hrs
  go_enter Tryz.func24, Tryz.ntmps24
  go_wp2
  go_loopw [6] (fun v6 wr => ∃ j : Nat, j ≤ n ∧ v6 = .int .i64 j ∧ (∀ k, k < j → (ls.getD k nilLocale).id ≠ id) ∧ wr = w.alloc (.cells #[.string ⟨#[]⟩, .int .i64 0, .int .i64 0, .slice none 0 0, .slice none 0 0, .slice none 0 0] 44)) (fun v6 _ => n - (intOf v6).toNat)
  case atStart => exact ⟨0, by omega, rfl, fun k hk => by omega, rfl⟩
  case round =>
    obtain ⟨j, hj, rfl, hno, hw⟩ := hrel
    rw [← hw] at HU HX
    have HWR := hid hw
    clear hw
    have HNO := hid hno
    clear hno
    by_cases hlt : j < n
    · have hlt2 : (j : Int) < (n : Int) := by omega
      obtain ⟨g, o, eg, hx⟩ := HC.out j (by rw [HN.out]; exact hlt)
      subst eg
      obtain ⟨v0, v1, v2, c0, _⟩ := hx
      replace c0 := (HU.out.cell (lt_of_cell c0)).trans c0
      have HI : Hid ((ls.getD j nilLocale).id = (ls.getD j nilLocale).id) := hid rfl
      obtain ⟨yi, hyi⟩ : ∃ yi, yi = (ls.getD j nilLocale).id := ⟨_, rfl⟩
      rw [← hyi] at c0
      have HYI := hid hyi
      clear hyi HI
      by_cases q : yi = id
      · subst q
        have HA := hid (HAT.out j wr HU.out (by rw [HN.out]; exact hlt) (by have := H10.out; rw [HN.out] at this; omega) (fun k hk => HPR.out k (by rw [HN.out]; omega)))
        go_wp2_with fail
        refine HA.out.mono ?_
        rintro e w2 ⟨u0, u1, u2, cs0, cs1, cs2, rfl, ⟨p0, p1, p2⟩, ⟨r0, r1, r2⟩, ⟨s0, s1, s2⟩, hoff, hb⟩
        have hb2 := up_trans HU.out hb
        have hl0 : w.heap.size < wr.heap.size := (Array.getElem?_eq_some_iff.1 HX.out).1
        have HK := hid ((hb.block _ hl0).trans HX.out)
        have HB2 := hid hb2
        have HF : Hid (∀ z0 z1 z2 z3 z4 z5 : Value, LocaleAt ((((((w2.setCell ⟨w.heap.size, 0, none⟩ z0).setCell ⟨w.heap.size, 1, none⟩ z1).setCell ⟨w.heap.size, 2, none⟩ z2).setCell ⟨w.heap.size, 3, none⟩ z3).setCell ⟨w.heap.size, 4, none⟩ z4).setCell ⟨w.heap.size, 5, none⟩ z5) (resOf ls j) u0 u1 u2) := hid (fun z0 z1 z2 z3 z4 z5 => by
          have hrs := HRS.out j (by rw [HN.out]; exact hlt)
          have ho := hoff w.heap.size (by omega) (Nat.le_refl _)
          have hbf := below_set6 hb2 (Nat.le_refl w.heap.size) z0 z1 z2 z3 z4 z5
          exact ⟨entries_of_cells (cells_set6 p0 ho.1) s0 (r0.on hbf) hrs.1, rules_of_cells (cells_set6 p1 ho.2.1) s1.plain (r1.on hbf) hrs.2.1, styles_of_cells (cells_set6 p2 ho.2.2) s2 (r2.on hbf) hrs.2.2⟩)
        obtain ⟨ad0, cap0, e0, _⟩ := p0
        obtain ⟨ad1, cap1, e1, _⟩ := p1
        obtain ⟨ad2, cap2, e2, _⟩ := p2
        have d0 : w2.cell? ⟨w.heap.size, 0, none⟩ = some (.string ⟨#[]⟩) := by rw [cell_of_row _ _ _ _ _ _ HK.out]; rfl
        have d1 : w2.cell? ⟨w.heap.size, 1, none⟩ = some (.int .i64 0) := by rw [cell_of_row _ _ _ _ _ _ HK.out]; rfl
        have d2 : w2.cell? ⟨w.heap.size, 2, none⟩ = some (.int .i64 0) := by rw [cell_of_row _ _ _ _ _ _ HK.out]; rfl
        have d3 : w2.cell? ⟨w.heap.size, 3, none⟩ = some (.slice none 0 0) := by rw [cell_of_row _ _ _ _ _ _ HK.out]; rfl
        have d4 : w2.cell? ⟨w.heap.size, 4, none⟩ = some (.slice none 0 0) := by rw [cell_of_row _ _ _ _ _ _ HK.out]; rfl
        have d5 : w2.cell? ⟨w.heap.size, 5, none⟩ = some (.slice none 0 0) := by rw [cell_of_row _ _ _ _ _ _ HK.out]; rfl
        have g0 : ∀ c, w2.frozen? ⟨w.heap.size, c, none⟩ = false := fun c => frozen_of_row _ _ _ _ _ HK.out
        obtain ⟨y, hy⟩ : ∃ y, y = resOf ls j := ⟨_, rfl⟩
        have HY := hid hy
        rw [← hy] at HF e0 e1 e2 ⊢
        obtain ⟨yid, ypa, ydi, ylx, yrl, yst⟩ := y
        dsimp only at e0 e1 e2
        unfold localeV
        dsimp only
        generalize ylx.length = l0 at e0
        generalize yrl.length = l1 at e1
        generalize yst.length = l2 at e2
        subst e0 e1 e2
        clear hy hb hb2 r0 r1 r2 s0 s1 s2 hoff
        go_wp2
        refine bodyPost_ret (results_cell_tmp rfl _ _ w.heap.size _ rfl (run_loadVar_row _ _ 44 44 _ (0, 0) _ (set6_heap HK.out _ _ _ _ _ _) Tryz.underlying44 rfl (by kernel_rfl))) rfl ?_
        exact ⟨below_set6 HB2.out (Nat.le_refl _) _ _ _ _ _ _, .inl ⟨j, by rw [HN.out]; exact hlt, HYI.out.symm, HNO.out, .slice ad0 l0 cap0, .slice ad1 l1 cap1, .slice ad2 l2 cap2, by rw [← HY.out]; rfl, by rw [← HY.out]; exact HF.out _ _ _ _ _ _⟩⟩
      · have q2 : (yi.toList == id.toList) = false := by have := toList_inj q; simpa using this
        have HQ := hid q
        clear q
        go_wp2
        go_roundw
        case rel => exact ⟨j + 1, by omega, by simp, fun k hk => by
          by_cases e : k < j
          · exact HNO.out k e
          · obtain rfl : k = j := by omega
            rw [← HYI.out]; exact HQ.out, HWR.out⟩
        case measure => simp [intOf]; omega
    · obtain rfl : n = j := by omega
      have HK := hid HX.out
      have d0 : wr.cell? ⟨w.heap.size, 0, none⟩ = some (.string ⟨#[]⟩) := by rw [cell_of_row _ _ _ _ _ _ HK.out]; rfl
      have d1 : wr.cell? ⟨w.heap.size, 1, none⟩ = some (.int .i64 0) := by rw [cell_of_row _ _ _ _ _ _ HK.out]; rfl
      have d2 : wr.cell? ⟨w.heap.size, 2, none⟩ = some (.int .i64 0) := by rw [cell_of_row _ _ _ _ _ _ HK.out]; rfl
      have d3 : wr.cell? ⟨w.heap.size, 3, none⟩ = some (.slice none 0 0) := by rw [cell_of_row _ _ _ _ _ _ HK.out]; rfl
      have d4 : wr.cell? ⟨w.heap.size, 4, none⟩ = some (.slice none 0 0) := by rw [cell_of_row _ _ _ _ _ _ HK.out]; rfl
      have d5 : wr.cell? ⟨w.heap.size, 5, none⟩ = some (.slice none 0 0) := by rw [cell_of_row _ _ _ _ _ _ HK.out]; rfl
      have g0 : ∀ c, wr.frozen? ⟨w.heap.size, c, none⟩ = false := fun c => frozen_of_row _ _ _ _ _ HK.out
      go_wp2
      refine bodyPost_ret (results_cell_tmp rfl _ _ w.heap.size _ rfl (run_loadVar_row _ _ 44 44 _ (0, 0) _ (set6_heap HK.out _ _ _ _ _ _) Tryz.underlying44 rfl (by kernel_rfl))) rfl ?_
      exact ⟨below_set6 HU.out (Nat.le_refl _) _ _ _ _ _ _, .inr ⟨fun k hk => HNO.out k (by rw [← HN.out]; exact hk), rfl⟩⟩

/-- A locale with another parent. -/
def noP (x : Locale) : Locale := { x with parent := -1 }
set_option maxRecDepth 8000 in
theorem same5_any (x y : Locale) (v0 v1 v2 u0 u1 u2 : Value) (w : World) (hx : LocaleAt w x v0 v1 v2) (hy : LocaleAt w y u0 u1 u2) (lx : (encLocales [noP x]).length ≤ 800000) (ly : (encLocales [noP y]).length ≤ 800000) :
    Calls Tryz.prog 25 #[localeV x v0 v1 v2, localeV y u0 u1 u2] w fun e w' => e = .returned (.bool (decide (encLocales [noP x] = encLocales [noP y]))) ∧ Below w.heap.size w w' := by
  obtain ⟨xid, xpa, xdi, xlx, xrl, xst⟩ := x
  obtain ⟨yid, ypa, ydi, ylx, yrl, yst⟩ := y
  obtain ⟨ad0, cap0, e0, _⟩ := hx.1.shape
  obtain ⟨ad1, cap1, e1, _⟩ := hx.2.1.shape
  obtain ⟨ad2, cap2, e2, _⟩ := hx.2.2.shape
  obtain ⟨bd0, bap0, f0, _⟩ := hy.1.shape
  obtain ⟨bd1, bap1, f1, _⟩ := hy.2.1.shape
  obtain ⟨bd2, bap2, f2, _⟩ := hy.2.2.shape
  dsimp only at e0 e1 e2 f0 f1 f2
  obtain ⟨l0, h0⟩ : ∃ l0, l0 = xlx.length := ⟨_, rfl⟩
  obtain ⟨l1, h1⟩ : ∃ l1, l1 = xrl.length := ⟨_, rfl⟩
  obtain ⟨l2, h2⟩ : ∃ l2, l2 = xst.length := ⟨_, rfl⟩
  obtain ⟨m0, k0⟩ : ∃ m0, m0 = ylx.length := ⟨_, rfl⟩
  obtain ⟨m1, k1⟩ : ∃ m1, m1 = yrl.length := ⟨_, rfl⟩
  obtain ⟨m2, k2⟩ : ∃ m2, m2 = yst.length := ⟨_, rfl⟩
  rw [← h0] at e0
  rw [← h1] at e1
  rw [← h2] at e2
  rw [← k0] at f0
  rw [← k1] at f1
  rw [← k2] at f2
  subst e0 e1 e2 f0 f1 f2
  have HLX := hid lx
  have HLY := hid ly
  unfold localeV
  dsimp only
  obtain ⟨wB, hwB⟩ : ∃ wB, wB = (w.alloc (.cells #[.string xid, .int .i64 (-1), .int .i64 xdi, .slice ad0 l0 cap0, .slice ad1 l1 cap1, .slice ad2 l2 cap2] 44)).alloc (.cells #[.string yid, .int .i64 (-1), .int .i64 ydi, .slice bd0 m0 bap0, .slice bd1 m1 bap1, .slice bd2 m2 bap2] 44) := ⟨_, rfl⟩
  have bB : Below w.heap.size w wB := by
    rw [hwB]
    exact ((Below.refl w.heap.size w).alloc (Nat.le_refl _) _).alloc (by simp) _
  have hsB : wB.heap.size = w.heap.size + 1 + 1 := by rw [hwB]; simp
  have HUX := hid (up_alloc wB (.cells #[.string xid, .int .i64 (-1), .int .i64 xdi, .slice ad0 l0 cap0, .slice ad1 l1 cap1, .slice ad2 l2 cap2] 44))
  have HUY := hid (up_alloc (wB.alloc (.cells #[.string xid, .int .i64 (-1), .int .i64 xdi, .slice ad0 l0 cap0, .slice ad1 l1 cap1, .slice ad2 l2 cap2] 44)) (.cells #[.string yid, .int .i64 (-1), .int .i64 ydi, .slice bd0 m0 bap0, .slice bd1 m1 bap1, .slice bd2 m2 bap2] 44))
  have HAX : Hid (LocalesAt ((wB.alloc (.cells #[.string xid, .int .i64 (-1), .int .i64 xdi, .slice ad0 l0 cap0, .slice ad1 l1 cap1, .slice ad2 l2 cap2] 44)).alloc (.cells #[.string yid, .int .i64 (-1), .int .i64 ydi, .slice bd0 m0 bap0, .slice bd1 m1 bap1, .slice bd2 m2 bap2] 44)) (.slice (some ⟨wB.heap.size, 0, none⟩) 1 1) [noP ⟨xid, xpa, xdi, xlx, xrl, xst⟩]) := hid ((Locales_own (xs := [noP ⟨xid, xpa, xdi, xlx, xrl, xst⟩]) (own_lit wB 44 6 1 wB.heap.size _ [.string xid, .int .i64 (-1), .int .i64 xdi, .slice ad0 l0 cap0, .slice ad1 l1 cap1, .slice ad2 l2 cap2] rfl rfl rfl (by decide)) (LocaleC.one _ (noP ⟨xid, xpa, xdi, xlx, xrl, xst⟩) _ _ _ ((hx.1.on bB).on HUX.out) ((hx.2.1.on bB).on HUX.out) ((hx.2.2.on bB).on HUX.out) rfl rfl rfl) (by simp)).on HUY.out)
  have HAY : Hid (LocalesAt ((wB.alloc (.cells #[.string xid, .int .i64 (-1), .int .i64 xdi, .slice ad0 l0 cap0, .slice ad1 l1 cap1, .slice ad2 l2 cap2] 44)).alloc (.cells #[.string yid, .int .i64 (-1), .int .i64 ydi, .slice bd0 m0 bap0, .slice bd1 m1 bap1, .slice bd2 m2 bap2] 44)) (.slice (some ⟨wB.heap.size + 1, 0, none⟩) 1 1) [noP ⟨yid, ypa, ydi, ylx, yrl, yst⟩]) := hid (Locales_own (xs := [noP ⟨yid, ypa, ydi, ylx, yrl, yst⟩]) (own_lit (wB.alloc (.cells #[.string xid, .int .i64 (-1), .int .i64 xdi, .slice ad0 l0 cap0, .slice ad1 l1 cap1, .slice ad2 l2 cap2] 44)) 44 6 1 (wB.heap.size + 1) _ [.string yid, .int .i64 (-1), .int .i64 ydi, .slice bd0 m0 bap0, .slice bd1 m1 bap1, .slice bd2 m2 bap2] rfl (by simp) rfl (by decide)) (LocaleC.one _ (noP ⟨yid, ypa, ydi, ylx, yrl, yst⟩) _ _ _ (((hy.1.on bB).on HUX.out).on HUY.out) (((hy.2.1.on bB).on HUX.out).on HUY.out) (((hy.2.2.on bB).on HUX.out).on HUY.out) rfl rfl rfl) (by simp))
  have HSM := hid (same_any _ _ _ _ _ HAX.out HAY.out HLX.out HLY.out)
  have HB := hid (up_trans (up_trans bB HUX.out) HUY.out)
  rw [hsB, hwB] at HSM
  rw [hwB] at HB
  clear hsB hx hy bB HAX HAY HUX HUY hwB h0 h1 h2 k0 k1 k2 lx ly
  go_enter Tryz.func25, Tryz.ntmps25
  go_wp2_with fail
  refine HSM.out.mono ?_
  rintro e w9 ⟨rfl, hb9⟩
  have HB9 := hid (up_trans HB.out hb9)
  clear hb9 HSM
  go_wp2
  go_ret
  exact ⟨rfl, HB9.out⟩

end Go.Proofs.YtohgaknojkdohaaGreatDoor

/- Of what is resolved: its sizes, what is written of it; that both answer the same; what a shape's locales are, resolved. -/
namespace Go.Proofs.YtohgaknojkdohaaGreatDoor
open Go.RowKit Gr

theorem flat_len {α β : Type} {f : α → List β} {c : Nat} : ∀ (xs : List α), (∀ x ∈ xs, (f x).length ≤ c) → (xs.flatMap f).length ≤ xs.length * c
  | [], _ => by simp
  | x :: xs, h => by
    have h1 := flat_len xs (fun y hy => h y (List.mem_cons_of_mem _ hy))
    have h2 := h x (by simp)
    rw [List.flatMap_cons, List.length_append, List.length_cons, Nat.add_mul, Nat.one_mul]
    omega
theorem nil_ok : OkLocale nilLocale := ⟨by decide, ⟨by decide, by decide⟩, ⟨by decide, by decide⟩, ⟨by decide, fun _ h => (nomatch h)⟩, ⟨by decide, fun _ h => (nomatch h)⟩, ⟨by decide, fun _ h => (nomatch h)⟩⟩
theorem getD_ok {ls : List Locale} (h : rightL ls = true) (k : Nat) : OkLocale (ls.getD k nilLocale) := by
  rw [List.getD_eq_getElem?_getD]
  cases hk : ls[k]? with
  | none => exact nil_ok
  | some x => exact locales_ok h x (List.mem_of_getElem? hk)
/-- What is resolved: no more than ten times as much. -/
def OkRes (x : Locale) : Prop := x.id.size ≤ 12 ∧ (x.lex.length ≤ 300 ∧ ∀ y ∈ x.lex, OkEntry y) ∧ (x.rules.length ≤ 600 ∧ ∀ y ∈ x.rules, OkRule y) ∧ (x.styles.length ≤ 200 ∧ ∀ y ∈ x.styles, OkStyle y)
theorem res_ok {ls : List Locale} (h : rightL ls = true) {i : Nat} (hi : i < ls.length) : OkRes (resOf ls i) := by
  have hc := chainOf_length ls i
  have h10 := rightL_length h
  have e1 := flat_len (f := fun k : Int => (ls.getD k.toNat nilLocale).lex) (c := 30) (chainOf ls i) (fun k _ => (getD_ok h _).2.2.2.1.1)
  have e2 := flat_len (f := fun k : Int => (ls.getD k.toNat nilLocale).rules) (c := 60) (chainOf ls i) (fun k _ => (getD_ok h _).2.2.2.2.1.1)
  have e3 := flat_len (f := fun k : Int => (ls.getD k.toNat nilLocale).styles) (c := 20) (chainOf ls i) (fun k _ => (getD_ok h _).2.2.2.2.2.1)
  refine ⟨(getD_ok h i).1, ⟨Nat.le_trans e1 (by omega), fun y hy => ?_⟩, ⟨Nat.le_trans e2 (by omega), fun y hy => ?_⟩, ⟨Nat.le_trans e3 (by omega), fun y hy => ?_⟩⟩
  · obtain ⟨k, _, hk⟩ := List.mem_flatMap.1 hy
    exact (getD_ok h _).2.2.2.1.2 y hk
  · obtain ⟨k, _, hk⟩ := List.mem_flatMap.1 hy
    exact (getD_ok h _).2.2.2.2.1.2 y hk
  · obtain ⟨k, _, hk⟩ := List.mem_flatMap.1 hy
    exact (getD_ok h _).2.2.2.2.2.2 y hk
theorem res_len {x : Locale} (h : OkRes x) : (encLocales [noP x]).length ≤ 800000 := by
  unfold encLocales
  rw [List.length_append, numB_length, List.flatMap_cons, List.flatMap_nil, List.append_nil]
  unfold encLocale encEntries encRules encStyles noP
  rw [List.length_append, List.length_append, List.length_append, List.length_append, List.length_append, List.length_append, List.length_append, numB_length, numB_length, numB_length, text_len, nums_len]
  have h1 := flat_le (f := encEntry) (c := 44) x.lex (fun y hy => entry_len (h.2.1.2 y hy))
  have h2 := flat_le (f := encRule) (c := 136) x.rules (fun y hy => rule_len (h.2.2.1.2 y hy))
  have h3 := flat_le (f := encStyle) (c := 736) x.styles (fun y hy => style_len (h.2.2.2.2 y hy))
  have k0 := h.1
  have k1 := h.2.1.1
  have k2 := h.2.2.1.1
  have k3 := h.2.2.2.1
  simp only [List.length_cons, List.length_nil]
  omega
theorem nil_res : OkRes nilLocale := ⟨by decide, ⟨by decide, fun _ h => (nomatch h)⟩, ⟨by decide, fun _ h => (nomatch h)⟩, ⟨by decide, fun _ h => (nomatch h)⟩⟩

/-- What a name is resolved to. -/
def Res (ls : List Locale) (id : ByteArray) (y : Locale) (b : Bool) : Prop :=
  (b = true ∧ ∃ i, i < ls.length ∧ (ls.getD i nilLocale).id = id ∧ (∀ j, j < i → (ls.getD j nilLocale).id ≠ id) ∧ y = resOf ls i) ∨ (b = false ∧ (∀ j, j < ls.length → (ls.getD j nilLocale).id ≠ id) ∧ y = nilLocale)
theorem Res.unique {ls : List Locale} {id : ByteArray} {y z : Locale} {b c : Bool} (h : Res ls id y b) (k : Res ls id z c) : y = z ∧ b = c := by
  rcases h with ⟨rfl, i, hi, hid, hf, rfl⟩ | ⟨rfl, hn, rfl⟩
  · rcases k with ⟨rfl, j, hj, hjd, hjf, rfl⟩ | ⟨rfl, hn, rfl⟩
    · have : i = j := by
        rcases Nat.lt_trichotomy i j with e | e | e
        · exact absurd hid (hjf i e)
        · exact e
        · exact absurd hjd (hf j e)
      subst this
      exact ⟨rfl, rfl⟩
    · exact absurd hid (hn i hi)
  · rcases k with ⟨rfl, j, hj, hjd, hjf, rfl⟩ | ⟨rfl, _, rfl⟩
    · exact absurd hjd (hn j hj)
    · exact ⟨rfl, rfl⟩
theorem Res.exists (ls : List Locale) (id : ByteArray) : ∃ y b, Res ls id y b := by
  have key : ∀ n, n ≤ ls.length → (∃ i, i < n ∧ (ls.getD i nilLocale).id = id ∧ ∀ j, j < i → (ls.getD j nilLocale).id ≠ id) ∨ ∀ j, j < n → (ls.getD j nilLocale).id ≠ id := by
    intro n
    induction n with
    | zero => exact fun _ => .inr (fun j hj => by omega)
    | succ n ih =>
      intro hn
      rcases ih (by omega) with ⟨i, h1, h2⟩ | h
      · exact .inl ⟨i, by omega, h2⟩
      · by_cases e : (ls.getD n nilLocale).id = id
        · exact .inl ⟨n, by omega, e, h⟩
        · refine .inr (fun j hj => ?_)
          by_cases hjn : j < n
          · exact h j hjn
          · obtain rfl : j = n := by omega
            exact e
  rcases key ls.length (Nat.le_refl _) with ⟨i, h1, h2, h3⟩ | h
  · exact ⟨_, true, .inl ⟨rfl, i, h1, h2, h3, rfl⟩⟩
  · exact ⟨_, false, .inr ⟨rfl, h, rfl⟩⟩
theorem Res.ok {ls : List Locale} (hr : rightL ls = true) {id : ByteArray} {y : Locale} {b : Bool} (h : Res ls id y b) : OkRes y := by
  rcases h with ⟨_, i, hi, _, _, rfl⟩ | ⟨_, _, rfl⟩
  · exact res_ok hr hi
  · exact nil_res
theorem right_rows {ls : List Locale} (h : rightL ls = true) : ∀ x ∈ ls, (∀ s ∈ x.styles, s.parts.length ≤ 100000) ∧ (∀ r ∈ x.rules, r.rhs.length ≤ 100000 ∧ r.p.length ≤ 100000) := fun x hx => by
  have hk := locales_ok h x hx
  exact ⟨fun s hs => by have := (hk.2.2.2.2.2.2 s hs).2.1; omega, fun r hr => by have h1 := (hk.2.2.2.2.1.2 r hr).2.1.1; have h2 := (hk.2.2.2.2.1.2 r hr).2.2.2.1.1; exact ⟨by omega, by omega⟩⟩
theorem nil_locale (w : World) : LocaleAt w nilLocale (.slice none 0 0) (.slice none 0 0) (.slice none 0 0) := ⟨EntriesAt.nil _, RulesOk.nil _, StylesAt.nil _⟩
/-- blob's Resolve, the reference's: they tell the same. -/
theorem bres_any (ls : List Locale) (id : ByteArray) (v : Value) (w : World) (hl : LocalesAt w v ls) (hT : Tabs w) (hr : rightL ls = true) {y : Locale} {b : Bool} (hy : Res ls id y b) :
    Calls Tryz.prog 23 #[v, .string id] w fun e w' => ∃ v0 v1 v2, e = .returned (.tuple #[localeV y v0 v1 v2, .bool b]) ∧ LocaleAt w' y v0 v1 v2 ∧ Below w.heap.size w w' := by
  refine (Resolve_any ls id v w hl (right_small hr) hT (right_rows hr)).mono ?_
  rintro e w' ⟨hb, ⟨_, i, hi, hid, hf, v0, v1, v2, rfl, hs⟩ | ⟨hn, rfl⟩⟩
  · obtain ⟨rfl, rfl⟩ := hy.unique (.inl ⟨rfl, i, hi, hid, hf, rfl⟩)
    exact ⟨v0, v1, v2, rfl, hs.now, hb⟩
  · rcases hn with hn | hn
    · rw [hr] at hn; cases hn
    · obtain ⟨rfl, rfl⟩ := hy.unique (.inr ⟨rfl, fun j hj => by
        rw [List.getD_eq_getElem?_getD, List.getElem?_eq_getElem hj]
        exact hn _ (List.getElem_mem hj), rfl⟩)
      exact ⟨_, _, _, rfl, nil_locale _, hb⟩
theorem rres_any (ls : List Locale) (id : ByteArray) (v : Value) (w : World) (hl : LocalesAt w v ls) (hr : rightL ls = true) {y : Locale} {b : Bool} (hy : Res ls id y b) :
    Calls Tryz.prog 24 #[v, .string id] w fun e w' => ∃ v0 v1 v2, e = .returned (.tuple #[localeV y v0 v1 v2, .bool b]) ∧ LocaleAt w' y v0 v1 v2 ∧ Below w.heap.size w w' := by
  refine (rresolve_any ls id v w hl (right_small hr) hr (fun i hi => by have := res_ok hr hi; exact ⟨by have := this.2.1.1; omega, by have := this.2.2.1.1; omega, by have := this.2.2.2.1; omega⟩)).mono ?_
  rintro e w' ⟨hb, ⟨i, hi, hid, hf, v0, v1, v2, rfl, hs⟩ | ⟨hn, rfl⟩⟩
  · obtain ⟨rfl, rfl⟩ := hy.unique (.inl ⟨rfl, i, hi, hid, hf, rfl⟩)
    exact ⟨v0, v1, v2, rfl, hs, hb⟩
  · obtain ⟨rfl, rfl⟩ := hy.unique (.inr ⟨rfl, hn, rfl⟩)
    exact ⟨_, _, _, rfl, nil_locale _, hb⟩
theorem res_same {ls : List Locale} (hr : rightL ls = true) {id : ByteArray} {y : Locale} {b : Bool} (hy : Res ls id y b) (v0 v1 v2 u0 u1 u2 : Value) (w : World) (h : LocaleAt w y v0 v1 v2) (k : LocaleAt w y u0 u1 u2) :
    Calls Tryz.prog 25 #[localeV y v0 v1 v2, localeV y u0 u1 u2] w fun e w' => e = .returned (.bool true) ∧ Below w.heap.size w w' := by
  have := same5_any y y v0 v1 v2 u0 u1 u2 w h k (res_len (hy.ok hr)) (res_len (hy.ok hr))
  simpa only [decide_true] using this

/-- The sample's second and third. -/
theorem mk_len (x : Shp) : 3 ≤ (mkL x).length := by
  unfold mkL makeL
  rw [List.length_append]
  show 3 ≤ 3 + _
  omega
theorem mk_at (x : Shp) (k : Nat) (hk : k < 3) : (mkL x).getD k nilLocale = (sampleL x.order x.digits).getD k nilLocale := getD_app (by simpa [sampleL] using hk)
theorem mk_par (x : Shp) (i : Nat) (hi : i < (mkL x).length) : Par (mkL x) i := fun j hj => rightL_par (mkL_right x) j (by omega)
theorem mk_en (x : Shp) : Res (mkL x) ⟨#[101, 110]⟩ (resOf (mkL x) 1) true := .inl ⟨rfl, 1, by have := mk_len x; omega, by rw [mk_at x 1 (by decide)]; rfl, fun j hj => by
  obtain rfl : j = 0 := by omega
  rw [mk_at x 0 (by decide)]
  show (⟨#[98, 97, 115, 101]⟩ : ByteArray) ≠ _
  decide +kernel, rfl⟩
theorem mk_ar (x : Shp) : Res (mkL x) ⟨#[97, 114, 45, 49]⟩ (resOf (mkL x) 2) true := .inl ⟨rfl, 2, by have := mk_len x; omega, by rw [mk_at x 2 (by decide)]; rfl, fun j hj => by
  rcases (by omega : j = 0 ∨ j = 1) with rfl | rfl
  · rw [mk_at x 0 (by decide)]
    show (⟨#[98, 97, 115, 101]⟩ : ByteArray) ≠ _
    decide +kernel
  · rw [mk_at x 1 (by decide)]
    show (⟨#[101, 110]⟩ : ByteArray) ≠ _
    decide +kernel, rfl⟩
theorem sample_chain1 (o d : Int) : chainOf (sampleL o d) 1 = [0, 1] := rfl
theorem sample_chain2 (o d : Int) : chainOf (sampleL o d) 2 = [0, 1, 2] := rfl
theorem mk_chain (x : Shp) (i : Nat) (hi : i < 3) : chainOf (mkL x) i = chainOf (sampleL x.order x.digits) i := by
  unfold mkL makeL
  exact chainOf_app _ _ i (by simpa [sampleL] using hi) (fun j hj => rightL_par (sampleL_right _ _) j (by show j < 3; omega))
theorem mk_lex1 (x : Shp) : (resOf (mkL x) 1).lex = wordsL := by
  show lexUp (mkL x) (chainOf (mkL x) 1) = _
  rw [mk_chain x 1 (by decide), sample_chain1]
  show (([0, 1] : List Int).flatMap fun k => ((mkL x).getD k.toNat nilLocale).lex) = _
  simp only [List.flatMap_cons, List.flatMap_nil, List.append_nil, Int.toNat_zero, Int.toNat_one]
  rw [mk_at x 0 (by decide), mk_at x 1 (by decide)]
  exact List.append_nil _
theorem mk_lex2 (x : Shp) : (resOf (mkL x) 2).lex = wordsL ++ [⟨⟨#[109, 97, 105]⟩, 1, 5⟩] := by
  show lexUp (mkL x) (chainOf (mkL x) 2) = _
  rw [mk_chain x 2 (by decide), sample_chain2]
  show (([0, 1, 2] : List Int).flatMap fun k => ((mkL x).getD k.toNat nilLocale).lex) = _
  simp only [List.flatMap_cons, List.flatMap_nil, List.append_nil, Int.toNat_zero, Int.toNat_one]
  rw [mk_at x 0 (by decide), mk_at x 1 (by decide), show (2 : Int).toNat = 2 from rfl, mk_at x 2 (by decide)]
  rfl
theorem mk_rules1 (x : Shp) : (resOf (mkL x) 1).rules = othersM 7 ++ datesL (x.order % 3) := by
  show rulesOf (mkL x) 1 = _
  unfold rulesOf
  rw [mk_chain x 1 (by decide), sample_chain1]
  simp only [List.flatMap_cons, List.flatMap_nil, List.append_nil, Int.toNat_zero, Int.toNat_one]
  rw [mk_at x 0 (by decide), mk_at x 1 (by decide)]
  rfl
theorem mk_rules2 (x : Shp) : (resOf (mkL x) 2).rules = othersM 7 ++ datesL (x.order % 3) := by
  show rulesOf (mkL x) 2 = _
  unfold rulesOf
  rw [mk_chain x 2 (by decide), sample_chain2]
  simp only [List.flatMap_cons, List.flatMap_nil, List.append_nil, Int.toNat_zero, Int.toNat_one]
  rw [mk_at x 0 (by decide), mk_at x 1 (by decide), show (2 : Int).toNat = 2 from rfl, mk_at x 2 (by decide)]
  exact congrArg _ (List.append_nil _)
theorem mk_check (x : Shp) : check (resOf (mkL x) 2).rules = true := by
  have h := rightL_at (mkL_right x) (i := 2) (by have := mk_len x; omega)
  unfold rightAt at h
  simp only [Bool.and_eq_true] at h
  exact h.2.2.2.2.2.2.2.2
theorem jan_text : Fo.textOf (⟨#[106, 97, 110]⟩ : ByteArray).data.toList = [106, 97, 110] := by decide +kernel
end Go.Proofs.YtohgaknojkdohaaGreatDoor
