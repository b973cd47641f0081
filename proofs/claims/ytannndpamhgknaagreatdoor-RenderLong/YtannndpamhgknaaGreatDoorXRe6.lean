/- Styles, Loc, Known, LBase, Wrap: these texts, one behind the other. -/
import Derived.Test.YtannndpamhgknaaGreatDoorXBl1
import Derived.Test.YtannndpamhgknaaGreatDoorXRe5
import Derived.Test.YtannndpamhgknaaGreatDoorXRe0
import Derived.Test.YtannndpamhgknaaGreatDoorXBl7
import Derived.Test.YtannndpamhgknaaGreatDoorMBlMk
import Derived.Laws.ResultCell
import Derived.Laws.Rows
import Derived.Test.YtannndpamhgknaaGreatDoorRows
import Derived.Lib.LaidTab
import Derived.Handed
import Derived.SizedLaws
import Derived.Stop.LaidErr
/- The places of the styles of a kind. -/
namespace Go.Proofs.YtannndpamhgknaaGreatDoor
open Go.RowKit Gr Bl

theorem styles_snoc (k : Int) (styles : List Style) (j : Nat) : (((List.range (j + 1)).filter fun i : Nat => decide ((styles.getD i nilStyle).kind = k)).map fun i : Nat => (i : Int)) = (((List.range j).filter fun i : Nat => decide ((styles.getD i nilStyle).kind = k)).map fun i : Nat => (i : Int)) ++ (if (styles.getD j nilStyle).kind = k then [(j : Int)] else []) := by
  rw [List.range_succ, List.filter_append, List.map_append]
  congr 1
  by_cases h : (styles.getD j nilStyle).kind = k
  · rw [if_pos h]
    simp only [List.filter_cons, List.filter_nil]
    rw [if_pos (decide_eq_true h)]
    rfl
  · rw [if_neg h]
    simp only [List.filter_cons, List.filter_nil]
    rw [if_neg (by rw [decide_eq_false h]; decide)]
    rfl
def upTo (k : Int) (styles : List Style) (j : Nat) : List Int := ((List.range j).filter fun i : Nat => decide ((styles.getD i nilStyle).kind = k)).map fun i : Nat => (i : Int)
theorem upTo_len (k : Int) (styles : List Style) (j : Nat) : (upTo k styles j).length ≤ j := by
  unfold upTo
  rw [List.length_map]
  exact Nat.le_trans (List.length_filter_le _ _) (by simp)
def intsV (xs : List Int) : List Value := xs.map (Value.int .i64)
theorem info_intR : (Tryz.prog.info? 3).map (fun i => (i.zero, i.size, i.bytes)) = some (some (.int .i64 0), 1, 8) := by kernel_rfl
set_option maxRecDepth 8000 in
set_option maxHeartbeats 1000000 in
theorem styles_any (l : Locale) (v0 v1 v2 : Value) (k : Int) (w : World) (hl : LexAt w l v0 v1 v2) :
    Calls Tryz.prog 21 #[localeV l v0 v1 v2, .int .i64 k] w fun e w' => ∃ v, e = .returned v ∧ w'.ownsRow w.heap.size 3 1 v (stylesL k l.styles).length (intsV (stylesL k l.styles)) ∧ Below w.heap.size w w' := by
  obtain ⟨id, pa, di, lex, rules, styles⟩ := l
  obtain ⟨h0, h1, h2⟩ := hl
  obtain ⟨ad0, cap0, rfl, _⟩ := h0.shape
  obtain ⟨ad1, n1, cap1, rfl⟩ := h1
  obtain ⟨ad2, cap2, rfl, hm2, hnil, hc2⟩ := h2
  unfold localeV
  dsimp only at *
  rw [show stylesL k styles = upTo k styles styles.length from rfl]
  have HC := hid (show ∀ j, j < styles.length → ∃ q o v, ad2 = some ⟨q, o, none⟩ ∧ w.cell? ⟨q, o + j * 2, none⟩ = some (.int .i64 (styles.getD j nilStyle).kind) ∧ w.cell? ⟨q, o + j * 2 + 1, none⟩ = some v ∧ (∃ a n c, v = .slice a n c) from fun j hj => by
    obtain ⟨q, o, e, vp, k0, k1, hp⟩ := hc2 j hj
    obtain ⟨a, c, e2, _⟩ := hp.shape
    exact ⟨q, o, vp, e, k0, k1, a, _, c, e2⟩)
  obtain ⟨n2, hn2⟩ : ∃ n, n = styles.length := ⟨_, rfl⟩
  have HN := hid hn2
  rw [← hn2] at hm2 ⊢
  generalize lex.length = n0 at *
  clear h0 hc2 hn2 hnil
  have HB0 := hid (up_alloc w (.cells #[.string id, .int .i64 pa, .int .i64 di, .slice ad0 n0 cap0, .slice ad1 n1 cap1, .slice ad2 n2 cap2] 33))
  go_enter Tryz.func21, Tryz.ntmps21
  go_wp2
  go_loopw [5, 11] (fun v5 v11 wr => ∃ j : Nat, j ≤ n2 ∧ v11 = .int .i64 j ∧ wr.ownsRow w.heap.size 3 1 v5 (upTo k styles j).length (intsV (upTo k styles j)) ∧ Below w.heap.size w wr) (fun _ v _ => n2 - (intOf v).toNat)
  case atStart => exact ⟨0, by omega, rfl, World.ownsRow_nil _ _ _ _, HB0.out⟩
  case round =>
    obtain ⟨j, hj, rfl, hown, hb⟩ := hrel
    by_cases hlt : j < n2
    · have hlt2 : (j : Int) < (n2 : Int) := by omega
      obtain ⟨q, o, vp, e1, k0, k1, a, np, c, rfl⟩ := HC.out j (by rw [← HN.out]; exact hlt)
      subst e1
      have HSN := hid (styles_snoc k styles j)
      have hul := upTo_len k styles j
      obtain ⟨adv, capv, e5, _⟩ := own_shape hown
      have k0 := (hb.cell (lt_of_cell k0)).trans k0
      have k1 := (hb.cell (lt_of_cell k1)).trans k1
      generalize (styles.getD j nilStyle).kind = kk at *
      have HOW := hid hown
      have HB := hid hb
      generalize hul2 : (upTo k styles j).length = ul at *
      have HUL := hid hul2
      clear hown hb hul2
      subst e5
      by_cases hk : kk = k
      · have hk2 : (kk == k) = true := by simp [hk]
        have HU : Hid (upTo k styles (j + 1) = upTo k styles j ++ [(j : Int)]) := hid (by have := HSN.out; rw [if_pos hk] at this; exact this)
        subst hk
        have hba := up_alloc wr (.cells #[.int .i64 kk, .slice a np c] 37)
        have HUA := hid (up_trans hba (up_alloc (wr.alloc (.cells #[.int .i64 kk, .slice a np c] 37)) (.cells #[.int .i64 (j : Int)] 3)))
        have HOA := hid (owns_below HOW.out HUA.out)
        have HLIT := hid (cells_lit (wr.alloc (.cells #[.int .i64 kk, .slice a np c] 37)) 3 [.int .i64 (j : Int)] #[.int .i64 (j : Int)] rfl (wr.heap.size + 1) 1 1 (by simp) rfl (by intro u hu; simp at hu; subst hu; rfl))
        have hws := HB.out.size
        clear hba
        go_wp2_with (at_builtin; refine wpList_append_cells _ rfl (.tmp 20) (.tmp 22) 25 3 rfl (.int .i64 0) 1 8 Tryz.underlying25 info_intR rfl (by decide) (by decide) w.heap.size _ ul _ rfl HOA.out _ 1 _ rfl HLIT.out (by omega) (by simp; omega) ?_; intro v' w' h1 h2 h3; have HO2 := hid h1; have HB2 := hid ((up_trans HB.out HUA.out).grown h2 (by simp; omega) (fun q e => (World.ownsRow.lt HOA.out q e).1)); obtain ⟨adn, capn, en, _⟩ := own_shape h1; subst en; clear h1 h2 h3)
        go_roundw
        case rel => exact ⟨j + 1, by omega, by simp, by rw [HU.out]; have := HO2.out; rw [List.length_append, HUL.out]; unfold intsV at *; rw [List.map_append]; exact this, HB2.out⟩
        case measure => simp [intOf]; omega
      · have hk2 : (kk == k) = false := by simp [hk]
        have HU : Hid (upTo k styles (j + 1) = upTo k styles j) := hid (by have := HSN.out; rw [if_neg hk, List.append_nil] at this; exact this)
        clear hk
        go_wp2
        go_roundw
        case rel => exact ⟨j + 1, by omega, by simp, by rw [HU.out, HUL.out]; exact owns_below HOW.out (up_alloc _ _), up_trans HB.out (up_alloc _ _)⟩
        case measure => simp [intOf]; omega
    · obtain rfl : j = n2 := by omega
      obtain ⟨adv, capv, e5, _⟩ := own_shape hown
      have HOW := hid hown
      have HB := hid hb
      clear hown hb
      generalize hul2 : (upTo k styles j).length = ul at *
      have HUL := hid hul2
      clear hul2
      subst e5
      go_wp2
      go_ret
      exact ⟨_, rfl, by rw [HUL.out]; exact HOW.out, HB.out⟩
end Go.Proofs.YtannndpamhgknaaGreatDoor

/- The languages that the statements speak of. -/
namespace Go.Proofs.YtannndpamhgknaaGreatDoor
open Go.RowKit Gr Bl

theorem inBb {n a b : Int} (h : Gr.inB n a b = true) : a ≤ n ∧ n ≤ b := by unfold Gr.inB at h; simpa using h
theorem sty_ok {s : Style} (h : styleOk s = true) : ∀ p ∈ s.parts, PartG p := by
  intro p hp
  unfold styleOk at h
  simp only [Bool.and_eq_true] at h
  have hq := List.all_eq_true.1 h.2.2 p hp
  unfold partOk at hq
  unfold PartG
  split at hq
  · simp only [Bool.and_eq_true, decide_eq_true_eq] at hq
    omega
  · split at hq
    · simp only [Bool.and_eq_true, decide_eq_true_eq] at hq
      have := inBb hq.2.1
      omega
    · split at hq
      · simp only [Bool.and_eq_true, decide_eq_true_eq] at hq
        omega
      · cases hq
theorem right_at {ls : List Locale} (h : rightL ls = true) {i : Nat} (hi : i < ls.length) : rightAt ls i = true := by
  unfold rightL at h
  simp only [Bool.and_eq_true] at h
  exact List.all_eq_true.1 h.2 i (List.mem_range.2 hi)
/-- What is resolved of languages that may be: its numbers are not too great. -/
theorem locG_of {ls : List Locale} (h : rightL ls = true) {i : Nat} (hi : i < ls.length) : LocG (resOf ls i) := by
  have hr := right_at h hi
  unfold rightAt at hr
  simp only [Bool.and_eq_true] at hr
  have hd := inBb hr.2.2.2.1
  have hk := res_ok h hi
  refine ⟨hd.1, by have := hd.2; show (ls.getD i nilLocale).digits < 4; omega, fun x hx => by have := (hk.2.1.2 x hx).1; omega, fun s hs => ?_⟩
  have hs2 : s ∈ stylesUp ls (chainOf ls i) := hs
  unfold stylesUp at hs2
  obtain ⟨k, _, hsk⟩ := List.mem_flatMap.1 hs2
  by_cases hkl : k.toNat < ls.length
  · have hr2 := right_at h hkl
    unfold rightAt at hr2
    simp only [Bool.and_eq_true] at hr2
    exact sty_ok (List.all_eq_true.1 hr2.2.2.2.2.2.2.2.1 s hsk)
  · rw [List.getD_eq_getElem?_getD, List.getElem?_eq_none (by omega)] at hsk
    exact absurd hsk (by simp [nilLocale])
theorem res_of {ls : List Locale} (h : rightL ls = true) {i : Nat} (hi : i < ls.length) : Res ls (ls.getD i nilLocale).id (resOf ls i) true := by
  refine .inl ⟨rfl, i, hi, rfl, fun j hj e => ?_, rfl⟩
  have hr := right_at h hi
  unfold rightAt at hr
  simp only [Bool.and_eq_true] at hr
  have ht := hr.2.1
  have : takenAt ls i = true := by
    unfold takenAt
    rw [List.any_eq_true]
    refine ⟨ls.getD j nilLocale, ?_, decide_eq_true e⟩
    rw [List.getD_eq_getElem?_getD, List.getElem?_eq_getElem (by omega)]
    have : (ls.take i)[j]? = some (ls[j]'(by omega)) := by rw [List.getElem?_take]; simp [hj, List.getElem?_eq_getElem (show j < ls.length by omega)]
    exact List.mem_of_getElem? this
  rw [this] at ht
  cases ht
set_option maxHeartbeats 1000000 in
theorem within6_any (a n : Int) (w : World) (hn : 0 < n) (hn1 : n ≤ 100000000) : Calls Tryz.prog 30 #[.int .i64 a, .int .i64 n] w fun e w' => e = .returned (.int .i64 (a % n)) ∧ w' = w := by
  have hz : (n == 0) = false := by simp; omega
  have hm1 : n ≠ -1 := by omega
  have hz' : n ≠ 0 := by omega
  have t1 : -n < a.tmod n ∧ a.tmod n < n := by
    rw [Int.tmod_eq_emod]
    have h4 := Int.emod_nonneg a (show n ≠ 0 by omega)
    have h5 := Int.emod_lt_of_pos a hn
    have h6 : ((n.natAbs : Nat) : Int) = n := by omega
    split
    · omega
    · rename_i hc
      have : a % n ≠ 0 := fun h => hc (Or.inr (Int.dvd_of_emod_eq_zero h))
      omega
  by_cases h : a.tmod n < 0
  · have E := hid (Bl.tmod_neg a n hn h)
    generalize a % n = q at *
    go_enter Tryz.func30, Tryz.ntmps30
    go_wp2
    go_ret
    exact ⟨ret_int E.out, rfl⟩
  · have E := hid (Bl.tmod_pos a n hn (by omega))
    generalize a % n = q at *
    go_enter Tryz.func30, Tryz.ntmps30
    go_wp2
    go_ret
    exact ⟨ret_int E.out, rfl⟩
theorem res_nz {ls : List Locale} (h : rightL ls = true) (i : Nat) : (∀ e ∈ (resOf ls i).lex, e.cls ≠ 0) ∧ ∀ s ∈ (resOf ls i).styles, s.kind ≠ 0 := by
  refine ⟨fun e he => ?_, fun s hs => ?_⟩
  · have he2 : e ∈ lexUp ls (chainOf ls i) := he
    unfold lexUp at he2
    obtain ⟨k, _, hek⟩ := List.mem_flatMap.1 he2
    by_cases hkl : k.toNat < ls.length
    · have hr2 := right_at h hkl
      unfold rightAt at hr2
      simp only [Bool.and_eq_true] at hr2
      have := List.all_eq_true.1 hr2.2.2.2.2.2.1 e hek
      unfold entryOk clsOk at this
      simp only [Bool.and_eq_true] at this
      have := this.2.1
      simp only [Gr.inB, decide_eq_true_eq] at this
      omega
    · rw [List.getD_eq_getElem?_getD, List.getElem?_eq_none (by omega)] at hek
      exact absurd hek (by simp [nilLocale])
  · have hs2 : s ∈ stylesUp ls (chainOf ls i) := hs
    unfold stylesUp at hs2
    obtain ⟨k, _, hsk⟩ := List.mem_flatMap.1 hs2
    by_cases hkl : k.toNat < ls.length
    · have hr2 := right_at h hkl
      unfold rightAt at hr2
      simp only [Bool.and_eq_true] at hr2
      have := List.all_eq_true.1 hr2.2.2.2.2.2.2.2.1 s hsk
      unfold styleOk at this
      simp only [Bool.and_eq_true] at this
      have := inBb this.1
      omega
    · rw [List.getD_eq_getElem?_getD, List.getElem?_eq_none (by omega)] at hsk
      exact absurd hsk (by simp [nilLocale])
theorem results_cell1 {fn : Func} {p : Tmp} {ty : TypeId} (h : fn.results = #[.cell p ty]) (tmps : Array Value) (w : World) (g : Nat) (cs : Array Value)
    (hp : tmps.getD p undef = .pointer (some ⟨g, 0, none⟩)) (hl : (loadVar ty ⟨g, 0, none⟩).run Tryz.prog w = .ok (.agg cs) w) :
    (results fn tmps).run Tryz.prog w = .ok (.agg cs) w := by
  have hp' : tmps[p]?.getD undef = .pointer (some ⟨g, 0, none⟩) := by simpa using hp
  simp [results, h, hp', asAddr, hl]
theorem row_new1 (w : World) (a b : Obj) : ((w.alloc a).alloc b).heap[w.heap.size + 1]? = some b := by
  have h := row_new (w.alloc a) b
  rwa [show (w.alloc a).heap.size = w.heap.size + 1 by simp] at h
set_option maxRecDepth 8000 in
set_option maxHeartbeats 1000000 in
theorem locale_of (ls : List Locale) (hr : rightL ls = true) (h0 : 0 < ls.length) (o d wd vl n : Int) (ad : Option Addr) (nr cap : Nat) (m : Bool) (w : World)
    (hM : ∀ W, Below w.heap.size w W → Calls Tryz.prog 28 #[.agg #[.int .i64 o, .int .i64 d, .int .i64 wd, .int .i64 vl, .slice ad nr cap, .bool m]] W fun e w' => ∃ v, e = .returned v ∧ LocalesAt w' v ls ∧ Below W.heap.size W w') :
    Calls Tryz.prog 15 #[.agg #[.int .i64 o, .int .i64 d, .int .i64 wd, .int .i64 vl, .slice ad nr cap, .bool m], .int .i64 n] w fun e w' => ∃ v0 v1 v2, e = .returned (localeV (resOf ls (n % (ls.length : Int)).toNat) v0 v1 v2) ∧ LexAt w' (resOf ls (n % (ls.length : Int)).toNat) v0 v1 v2 ∧ Below w.heap.size w w' := by
  have hi : (n % (ls.length : Int)).toNat < ls.length := by have := Int.emod_lt_of_pos n (show (0 : Int) < ls.length by omega); have := Int.emod_nonneg n (show (ls.length : Int) ≠ 0 by omega); omega
  have hie : (n % (ls.length : Int)) = ((n % (ls.length : Int)).toNat : Int) := by have := Int.emod_nonneg n (show (ls.length : Int) ≠ 0 by omega); omega
  have HR := hid (fun W v (h : LocalesAt W v ls) => rres_any ls _ v W h hr (res_of hr hi))
  have HU0 := hid (up_alloc w (.cells #[.int .i64 o, .int .i64 d, .int .i64 wd, .int .i64 vl, .slice ad nr cap, .bool m] 24))
  have HX0 := hid (row_new w (.cells #[.int .i64 o, .int .i64 d, .int .i64 wd, .int .i64 vl, .slice ad nr cap, .bool m] 24))
  have HM := hid hM
  have HI := hid (And.intro hi hie)
  have HNZ := hid (res_nz hr (n % (ls.length : Int)).toNat)
  clear hM hi hie hr
  go_enter Tryz.func15, Tryz.ntmps15
  go_wp2_with fail
  have HU1 := hid (up_trans HU0.out (up_alloc (w.alloc (.cells #[.int .i64 o, .int .i64 d, .int .i64 wd, .int .i64 vl, .slice ad nr cap, .bool m] 24)) (.cells #[.string ⟨#[]⟩, .int .i64 0, .int .i64 0, .slice none 0 0, .slice none 0 0, .slice none 0 0] 33)))
  refine (HM.out _ HU1.out).mono ?_
  rintro e w1 ⟨lv, rfl, hl1, hb1⟩
  have HX1 := hid ((hb1.block (w.heap.size + 1) (by simp)).trans (row_new1 w _ _))
  have HB1 := hid (up_trans HU1.out hb1)
  have HL1 := hid hl1
  obtain ⟨adl, capl, el, hlen, hcap, hels⟩ := hl1
  obtain ⟨g, oo, ea, v0, v1, v2, p0, _⟩ := hels _ HI.out.1
  subst ea
  have HC := hid hcap
  obtain ⟨nl, hnl⟩ : ∃ nl, nl = ls.length := ⟨_, rfl⟩
  have HW := hid (fun W => within6_any n (nl : Int) W (by rw [hnl]; omega) (by rw [hnl]; omega))
  rw [← hnl] at el
  have HLen := hid (And.intro h0 hlen)
  have HI2 := hid (And.intro hnl HI.out.2)
  have hik : (n % (ls.length : Int)).toNat < nl := by rw [hnl]; exact HI.out.1
  have HE := hid (show n % (nl : Int) = (((n % (ls.length : Int)).toNat : Nat) : Int) by rw [hnl]; exact HI.out.2)
  have hnz : (∀ e ∈ (resOf ls (n % (ls.length : Int)).toNat).lex, e.cls ≠ 0) ∧ ∀ s ∈ (resOf ls (n % (ls.length : Int)).toNat).styles, s.kind ≠ 0 := HNZ.out
  clear hnl HM HNZ HU0 HU1 HX0 hb1 hels hcap h0 hlen
  generalize hk : (n % (ls.length : Int)).toNat = k at *
  have HK := hid hk
  clear hk
  subst el
  go_wp2_with fail
  refine (HW.out w1).mono ?_
  rintro e w2 ⟨rfl, rfl⟩
  rw [HE.out]
  clear HW
  go_wp2_with fail
  refine (HR.out w2 _ HL1.out).mono ?_
  rintro e w3 ⟨u0, u1, u2, rfl, hloc, hb3⟩
  have HB3 := hid (up_trans HB1.out hb3)
  have HX3 := hid ((hb3.block (w.heap.size + 1) (Array.getElem?_eq_some_iff.1 HX1.out).1).trans HX1.out)
  have hlex := LexAt.of hloc
  obtain ⟨a0, n0, k0, a1, n1, k1, a2, n2, k2, rfl, rfl, rfl⟩ := hlex.slices
  clear HR hb3 p0 hloc
  have HN := hid hnz
  clear hnz
  generalize hyy : resOf ls k = y at *
  have HY := hid hyy
  clear hyy
  have HLoc := hid hlex
  clear hlex
  unfold localeV
  have HU4 := hid (up_alloc w3 (.cells #[.string y.id, .int .i64 y.parent, .int .i64 y.digits, .slice a0 n0 k0, .slice a1 n1 k1, .slice a2 n2 k2] 33))
  have HX4 := hid ((HU4.out.block (w.heap.size + 1) (Array.getElem?_eq_some_iff.1 HX3.out).1).trans HX3.out)
  have c0 : (w3.alloc (.cells #[.string y.id, .int .i64 y.parent, .int .i64 y.digits, .slice a0 n0 k0, .slice a1 n1 k1, .slice a2 n2 k2] 33)).cell? ⟨w.heap.size + 1, 0, none⟩ = some (.string ⟨#[]⟩) := by rw [Gr.cell_of_row _ _ _ _ _ _ HX4.out]; rfl
  have c1 : (w3.alloc (.cells #[.string y.id, .int .i64 y.parent, .int .i64 y.digits, .slice a0 n0 k0, .slice a1 n1 k1, .slice a2 n2 k2] 33)).cell? ⟨w.heap.size + 1, 1, none⟩ = some (.int .i64 0) := by rw [Gr.cell_of_row _ _ _ _ _ _ HX4.out]; rfl
  have c2 : (w3.alloc (.cells #[.string y.id, .int .i64 y.parent, .int .i64 y.digits, .slice a0 n0 k0, .slice a1 n1 k1, .slice a2 n2 k2] 33)).cell? ⟨w.heap.size + 1, 2, none⟩ = some (.int .i64 0) := by rw [Gr.cell_of_row _ _ _ _ _ _ HX4.out]; rfl
  have c3 : (w3.alloc (.cells #[.string y.id, .int .i64 y.parent, .int .i64 y.digits, .slice a0 n0 k0, .slice a1 n1 k1, .slice a2 n2 k2] 33)).cell? ⟨w.heap.size + 1, 3, none⟩ = some (.slice none 0 0) := by rw [Gr.cell_of_row _ _ _ _ _ _ HX4.out]; rfl
  have c4 : (w3.alloc (.cells #[.string y.id, .int .i64 y.parent, .int .i64 y.digits, .slice a0 n0 k0, .slice a1 n1 k1, .slice a2 n2 k2] 33)).cell? ⟨w.heap.size + 1, 4, none⟩ = some (.slice none 0 0) := by rw [Gr.cell_of_row _ _ _ _ _ _ HX4.out]; rfl
  have c5 : (w3.alloc (.cells #[.string y.id, .int .i64 y.parent, .int .i64 y.digits, .slice a0 n0 k0, .slice a1 n1 k1, .slice a2 n2 k2] 33)).cell? ⟨w.heap.size + 1, 5, none⟩ = some (.slice none 0 0) := by rw [Gr.cell_of_row _ _ _ _ _ _ HX4.out]; rfl
  have g0 : ∀ c, (w3.alloc (.cells #[.string y.id, .int .i64 y.parent, .int .i64 y.digits, .slice a0 n0 k0, .slice a1 n1 k1, .slice a2 n2 k2] 33)).frozen? ⟨w.heap.size + 1, c, none⟩ = false := fun c => Go.frozen_of_row _ _ _ _ _ HX4.out
  have e0 : (w3.alloc (.cells #[.string y.id, .int .i64 y.parent, .int .i64 y.digits, .slice a0 n0 k0, .slice a1 n1 k1, .slice a2 n2 k2] 33)).cell? ⟨w3.heap.size, 0, none⟩ = some (.string y.id) := by rw [new_cell]; rfl
  go_wp2
  refine bodyPost_ret (results_cell1 rfl _ _ (w.heap.size + 1) _ rfl (run_loadVar_row _ _ 33 33 _ (0, 0) _ (set6_heap HX4.out _ _ _ _ _ _) Tryz.underlying33 rfl (by kernel_rfl))) rfl ?_
  have hbl : Blank (w3.alloc (.cells #[.string y.id, .int .i64 y.parent, .int .i64 y.digits, .slice a0 n0 k0, .slice a1 n1 k1, .slice a2 n2 k2] 33)) (w.heap.size + 1) := ⟨_, _, _, _, _, _, _, _, _, _, HX4.out⟩
  rw [HK.out, HY.out]
  exact ⟨_, _, _, rfl, (HLoc.out.on HU4.out).set6 hbl HN.out.1 HN.out.2 .., below_set6 (up_trans HB3.out HU4.out) (by omega) ..⟩
end Go.Proofs.YtannndpamhgknaaGreatDoor

/- The chapter's example. -/
namespace Go.Proofs.YtannndpamhgknaaGreatDoor
open Go.RowKit Gr Bl

def shp0 : Shp := ⟨0, 0, 0, 0, false, []⟩
def enL : Locale := resOf (mkL shp0) 1
theorem en_digits : enL.digits = 0 := rfl
theorem en_lex : enL.lex = wordsL := by rfl
theorem en_styles : enL.styles = Bl.stylesL := by rfl
theorem en_day : writeL enL.digits enL.lex enL.styles 0 4 [2024, 2, 29] = ([50, 48, 50, 52, 45, 48, 50, 45, 50, 57], 0) := by
  rw [en_digits, en_lex, en_styles]
  decide +kernel
theorem en_far : writeL enL.digits enL.lex enL.styles 0 4 [2023, 2, 29] = ([], 6) := by
  rw [en_digits, en_lex, en_styles]
  decide +kernel
theorem en_none : writeL enL.digits enL.lex enL.styles 99 0 [] = ([], 7) := by
  rw [en_digits, en_lex, en_styles]
  decide +kernel
theorem en_places : stylesL 4 enL.styles = [0, 7] := by
  rw [en_styles]
  decide +kernel
theorem stylesL_nil (k : Int) : stylesL k nilLocale.styles = [] := rfl
theorem en_at : (1 % ((mkL shp0).length : Int)).toNat = 1 := by
  have := mk_len shp0
  rw [Int.emod_eq_of_lt (by omega) (by omega)]
  rfl
theorem raws_nil (W : World) : RawsAt W (.slice none 0 0) [] := ⟨none, 0, rfl, by decide, fun j hj => by simp at hj⟩
theorem en_any (w : World) : Calls Tryz.prog 15 #[.agg #[.int .i64 0, .int .i64 0, .int .i64 0, .int .i64 0, .slice none 0 0, .bool false], .int .i64 1] w fun e w' => ∃ v0 v1 v2, e = .returned (localeV enL v0 v1 v2) ∧ LexAt w' enL v0 v1 v2 ∧ Below w.heap.size w w' := by
  have h := locale_of (mkL shp0) (mkL_right _) (by have := mk_len shp0; omega) 0 0 0 0 1 none 0 0 false w (fun W _ => make_at shp0 (.slice none 0 0) W (raws_nil W))
  rw [en_at] at h
  exact h
theorem ia_at {w : World} {g : Nat} {t : TypeId} {fz : Nat × Nat} (xs : List Int) (h : w.heap[g]? = some (.cells (xs.map (fun x => Value.int .i64 x)).toArray t fz)) (hm : xs.length ≤ 1000) : Ac.IA w (.slice (some ⟨g, 0, none⟩) xs.length xs.length) xs := by
  refine ⟨_, _, rfl, ⟨by omega, Nat.le_refl _, by unfold maxLen; omega⟩, .inr ⟨g, 0, rfl, (Array.getElem?_eq_some_iff.1 h).1, fun j hj => ?_⟩⟩
  rw [Nat.zero_add, Gr.cell_of_row _ _ _ _ _ _ h]
  simp [List.getElem?_eq_getElem hj]
theorem va_lit {w : World} {g : Nat} {t : TypeId} (k : Int) (xs : List Int) (cs : Array Value) (n : Nat) (h : w.heap[g]? = some (.cells cs t (0, 0))) (hc : cs = (xs.map (fun x => Value.int .i64 x)).toArray) (hn : n = xs.length) (hm : xs.length ≤ 1000) : Ac.VA w (.agg #[.int .i64 k, .slice (some ⟨g, 0, none⟩) n n]) ⟨k, xs⟩ := by
  subst hc hn
  exact ⟨_, rfl, ia_at xs h hm⟩
theorem en_good : LocG enL := locG_of (mkL_right _) (by have := mk_len shp0; omega)
theorem en_dayV : writeV (writeL enL.digits enL.lex enL.styles 0 4 [2024, 2, 29]) = .tuple #[.string ⟨#[50, 48, 50, 52, 45, 48, 50, 45, 50, 57]⟩, .int .i64 0] := by rw [en_day]; rfl
theorem en_farV : writeV (writeL enL.digits enL.lex enL.styles 0 4 [2023, 2, 29]) = .tuple #[.string ⟨#[]⟩, .int .i64 6] := by rw [en_far]; rfl
theorem en_noneV : writeV (writeL enL.digits enL.lex enL.styles 99 0 []) = .tuple #[.string ⟨#[]⟩, .int .i64 7] := by rw [en_none]; rfl
set_option maxRecDepth 8000 in
set_option maxHeartbeats 1000000 in
theorem known_any (w : World) (hT : TabR w) : Calls Tryz.prog 13 #[] w fun e w' => e = .returned (.bool true) ∧ Below w.heap.size w w' := by
  have HT := hid hT
  have HE := hid (en_any w)
  clear hT
  go_enter Tryz.func13, Tryz.ntmps13
  go_wp2_with fail
  refine HE.out.mono ?_
  rintro e w1 ⟨v0, v1, v2, rfl, hl1, hb1⟩
  obtain ⟨a0, n0, k0, a1, n1, k1, a2, n2, k2, rfl, rfl, rfl⟩ := hl1.slices
  have HL1 := hid hl1
  have HB1 := hid hb1
  have HG := hid en_good
  have HW1 := hid en_dayV
  have HW2 := hid en_farV
  have HW3 := hid en_noneV
  have HS := hid en_places
  clear hl1 hb1 HE
  generalize enL = y at *
  have HWr := hid (fun (i k : Int) (f : List Int) (vv : Value) (W : World) (h : LexAt W y (.slice a0 n0 k0) (.slice a1 n1 k1) (.slice a2 n2 k2)) (hv : Ac.VA W vv ⟨k, f⟩) (ht : TabR W) => write_any y _ _ _ i ⟨k, f⟩ vv W h HG.out hv ht)
  have HSt := hid (fun (k : Int) (W : World) (h : LexAt W y (.slice a0 n0 k0) (.slice a1 n1 k1) (.slice a2 n2 k2)) => styles_any y _ _ _ k W h)
  have HN := hid (fun (k : Int) (W : World) => styles_any nilLocale _ _ _ k W (LexAt.of (nil_locale W)))
  dsimp only at HWr
  unfold localeV at HWr HSt HN ⊢
  have HU1 := hid (up_alloc w1 (.cells #[.string y.id, .int .i64 y.parent, .int .i64 y.digits, .slice a0 n0 k0, .slice a1 n1 k1, .slice a2 n2 k2] 33))
  have HX1 := hid (row_new w1 (.cells #[.string y.id, .int .i64 y.parent, .int .i64 y.digits, .slice a0 n0 k0, .slice a1 n1 k1, .slice a2 n2 k2] 33))
  go_wp2_with fail
  refine (HWr.out 0 4 [2024, 2, 29] _ _ (HL1.out.on (up_trans HU1.out (up_alloc _ _))) (va_lit 4 [2024, 2, 29] _ _ (row_new1 w1 _ _) rfl rfl (by decide)) (HT.out.on (up_trans (up_trans HB1.out HU1.out) (up_alloc _ _)))).mono ?_
  rintro e w2 ⟨rfl, hb2⟩
  rw [HW1.out]
  have hbx := up_trans (up_trans HU1.out (up_alloc _ (.cells #[.int .i64 2024, .int .i64 2, .int .i64 29] 3))) hb2
  have HX2 := hid ((hb2.block w1.heap.size (by simp; omega)).trans (((up_alloc (w1.alloc (.cells #[.string y.id, .int .i64 y.parent, .int .i64 y.digits, .slice a0 n0 k0, .slice a1 n1 k1, .slice a2 n2 k2] 33)) (.cells #[.int .i64 2024, .int .i64 2, .int .i64 29] 3)).block w1.heap.size (by simp)).trans HX1.out))
  have HB2 := hid hbx
  clear hb2 hbx HX1 HU1
  have c0 : w2.cell? ⟨w1.heap.size, 0, none⟩ = some (.string y.id) := by rw [Gr.cell_of_row _ _ _ _ _ _ HX2.out]; rfl
  have c1 : w2.cell? ⟨w1.heap.size, 1, none⟩ = some (.int .i64 y.parent) := by rw [Gr.cell_of_row _ _ _ _ _ _ HX2.out]; rfl
  have c2 : w2.cell? ⟨w1.heap.size, 2, none⟩ = some (.int .i64 y.digits) := by rw [Gr.cell_of_row _ _ _ _ _ _ HX2.out]; rfl
  have c3 : w2.cell? ⟨w1.heap.size, 3, none⟩ = some (.slice a0 n0 k0) := by rw [Gr.cell_of_row _ _ _ _ _ _ HX2.out]; rfl
  have c4 : w2.cell? ⟨w1.heap.size, 4, none⟩ = some (.slice a1 n1 k1) := by rw [Gr.cell_of_row _ _ _ _ _ _ HX2.out]; rfl
  have c5 : w2.cell? ⟨w1.heap.size, 5, none⟩ = some (.slice a2 n2 k2) := by rw [Gr.cell_of_row _ _ _ _ _ _ HX2.out]; rfl
  go_wp2_with fail
  refine (HWr.out 0 4 [2023, 2, 29] _ _ (HL1.out.on (up_trans HB2.out (up_alloc _ _))) (va_lit 4 [2023, 2, 29] _ _ (row_new w2 _) rfl rfl (by decide)) (HT.out.on (up_trans (up_trans HB1.out HB2.out) (up_alloc _ _)))).mono ?_
  rintro e w3 ⟨rfl, hb3⟩
  rw [HW2.out]
  have hbx := up_trans (up_alloc w2 (.cells #[.int .i64 2023, .int .i64 2, .int .i64 29] 3)) hb3
  have HX3 := hid ((hbx.block w1.heap.size (Array.getElem?_eq_some_iff.1 HX2.out).1).trans HX2.out)
  have HB3 := hid (up_trans HB2.out hbx)
  clear hb3 hbx HX2 HB2 c0 c1 c2 c3 c4 c5
  have c0 : w3.cell? ⟨w1.heap.size, 0, none⟩ = some (.string y.id) := by rw [Gr.cell_of_row _ _ _ _ _ _ HX3.out]; rfl
  have c1 : w3.cell? ⟨w1.heap.size, 1, none⟩ = some (.int .i64 y.parent) := by rw [Gr.cell_of_row _ _ _ _ _ _ HX3.out]; rfl
  have c2 : w3.cell? ⟨w1.heap.size, 2, none⟩ = some (.int .i64 y.digits) := by rw [Gr.cell_of_row _ _ _ _ _ _ HX3.out]; rfl
  have c3 : w3.cell? ⟨w1.heap.size, 3, none⟩ = some (.slice a0 n0 k0) := by rw [Gr.cell_of_row _ _ _ _ _ _ HX3.out]; rfl
  have c4 : w3.cell? ⟨w1.heap.size, 4, none⟩ = some (.slice a1 n1 k1) := by rw [Gr.cell_of_row _ _ _ _ _ _ HX3.out]; rfl
  have c5 : w3.cell? ⟨w1.heap.size, 5, none⟩ = some (.slice a2 n2 k2) := by rw [Gr.cell_of_row _ _ _ _ _ _ HX3.out]; rfl
  go_wp2_with fail
  refine (HWr.out 99 0 [] _ _ (HL1.out.on HB3.out) ⟨_, rfl, Ac.IA.nil _⟩ (HT.out.on (up_trans HB1.out HB3.out))).mono ?_
  rintro e w4 ⟨rfl, hb4⟩
  rw [HW3.out]
  have HX4 := hid ((hb4.block w1.heap.size (Array.getElem?_eq_some_iff.1 HX3.out).1).trans HX3.out)
  have HB4 := hid (up_trans HB3.out hb4)
  clear hb4 HX3 HB3 c0 c1 c2 c3 c4 c5
  have c0 : w4.cell? ⟨w1.heap.size, 0, none⟩ = some (.string y.id) := by rw [Gr.cell_of_row _ _ _ _ _ _ HX4.out]; rfl
  have c1 : w4.cell? ⟨w1.heap.size, 1, none⟩ = some (.int .i64 y.parent) := by rw [Gr.cell_of_row _ _ _ _ _ _ HX4.out]; rfl
  have c2 : w4.cell? ⟨w1.heap.size, 2, none⟩ = some (.int .i64 y.digits) := by rw [Gr.cell_of_row _ _ _ _ _ _ HX4.out]; rfl
  have c3 : w4.cell? ⟨w1.heap.size, 3, none⟩ = some (.slice a0 n0 k0) := by rw [Gr.cell_of_row _ _ _ _ _ _ HX4.out]; rfl
  have c4 : w4.cell? ⟨w1.heap.size, 4, none⟩ = some (.slice a1 n1 k1) := by rw [Gr.cell_of_row _ _ _ _ _ _ HX4.out]; rfl
  have c5 : w4.cell? ⟨w1.heap.size, 5, none⟩ = some (.slice a2 n2 k2) := by rw [Gr.cell_of_row _ _ _ _ _ _ HX4.out]; rfl
  go_wp2_with fail
  refine (HSt.out 4 _ (HL1.out.on HB4.out)).mono ?_
  rintro e w5 ⟨kv, rfl, hk5, hb5⟩
  rw [HS.out] at hk5
  obtain ⟨kg, kc, rfl, _, hkc, hkel⟩ := Bl.own_at hk5 (by decide)
  have p0 := hkel 0 _ rfl
  have HB5 := hid (up_trans HB4.out hb5)
  clear hb5 hk5 hkel HX4 HB4 c0 c1 c2 c3 c4 c5
  go_wp2_with fail
  refine (HN.out 4 _).mono ?_
  rintro e w6 ⟨nv, rfl, hn6, hb6⟩
  obtain ⟨na, nc, rfl, _⟩ := Bl.own_shape hn6
  have q0 := (hb6.cell (lt_of_cell p0)).trans p0
  have HB6 := hid (up_trans HB1.out (up_trans HB5.out hb6))
  clear hb6 hn6 p0 HB5
  rw [stylesL_nil]
  go_wp2
  go_ret
  exact ⟨rfl, HB6.out⟩
end Go.Proofs.YtannndpamhgknaaGreatDoor

/- The helpers of the statements: within, part. -/
namespace Go.Proofs.YtannndpamhgknaaGreatDoor
open Go.RowKit Gr Bl

set_option maxHeartbeats 1000000 in
theorem within_any (a n : Int) (w : World) (hn : 0 < n) (hn1 : n ≤ 100000000) : Calls Tryz.prog 24 #[.int .i64 a, .int .i64 n] w fun e w' => e = .returned (.int .i64 (a % n)) ∧ w' = w := by
  have hz : (n == 0) = false := by simp; omega
  have hm1 : n ≠ -1 := by omega
  have hz' : n ≠ 0 := by omega
  have t1 : -n < a.tmod n ∧ a.tmod n < n := by
    rw [Int.tmod_eq_emod]
    have h4 := Int.emod_nonneg a (show n ≠ 0 by omega)
    have h5 := Int.emod_lt_of_pos a hn
    have h6 : ((n.natAbs : Nat) : Int) = n := by omega
    split
    · omega
    · rename_i hc
      have : a % n ≠ 0 := fun h => hc (Or.inr (Int.dvd_of_emod_eq_zero h))
      omega
  by_cases h : a.tmod n < 0
  · have E := hid (Bl.tmod_neg a n hn h)
    generalize a % n = q at *
    go_enter Tryz.func24, Tryz.ntmps24
    go_wp2
    go_ret
    exact ⟨ret_int E.out, rfl⟩
  · have E := hid (Bl.tmod_pos a n hn (by omega))
    generalize a % n = q at *
    go_enter Tryz.func24, Tryz.ntmps24
    go_wp2
    go_ret
    exact ⟨ret_int E.out, rfl⟩

set_option maxHeartbeats 1000000 in
theorem lpart_any (f wd : Int) (w : World) : Calls Tryz.prog 23 #[.int .i64 f, .int .i64 wd] w fun e w' => e = .returned (.agg #[.int .i64 1, .string ⟨#[]⟩, .int .i64 f, .int .i64 wd, .int .i64 0]) ∧ Below w.heap.size w w' := by
  have HU := hid (up_alloc w (.cells #[.int .i64 1, .string ⟨#[]⟩, .int .i64 f, .int .i64 wd, .int .i64 0] 51))
  go_enter Tryz.func23, Tryz.ntmps23
  go_wp2
  refine bodyPost_ret (results_cell1 rfl _ _ w.heap.size _ rfl (run_loadVar_row _ _ 51 51 _ (0, 0) _ (row_new w _) Tryz.underlying51 rfl (by kernel_rfl))) rfl ?_
  exact ⟨rfl, HU.out⟩
end Go.Proofs.YtannndpamhgknaaGreatDoor

/- The wrap of a row: what it lists and the world's shape, both kept for the contract; the variables that render reads, out of both. -/
namespace Go.Proofs.YtannndpamhgknaaGreatDoor
open Go.RowKit

theorem handed_both {H : Type} {enc : TypeId × Value → H} {a : Assume} {C : Checked} {os : Os} {f : FuncId} {fn : Func} {s : ChangeSpec} {conds : List PathCond} {apart fresh handsOn again : Bool} {X : World → Array Value → Prop}
    (hX : ∀ (w w' : World) (args : Array Value), w.heap = w'.heap → X w args → X w' args)
    (own : ownKnob C.prog.godebug = none) (started : os.Started) (noInit : C.prog.inits.idxOf? f = none) (hfn : C.prog.funcs[f]? = some fn)
    (witness : ∃ (w : World) (tape : Tape) (i : Input), w.os = os ∧ (w.forCall tape i).Shaped C.prog ∧ i.vars = [] ∧ Input.okWide C.prog (w.forCall tape i) .any w.heap.size f i ∧
      ((s.pre enc C.prog fn conds apart (w.forCall tape i).memory i.args ∧ X (w.forCall tape i).memory i.args) ∧ sizedMet enc C.prog fn (OpenSpec.ofChange s) apart (w.forCall tape i).memory i.args) ∧ a.holds C.prog (lone (Frame.enter C.prog f i.args .normal) [] (w.forCall tape i)))
    (contract : ∀ (W : World) (base : Nat) (args : Array Value) (ds gs : List (DataW H)) (before : List MemPlace),
      (∀ (j : Nat) t v, fn.params[j]? = some t → args[j]? = some v → Value.okWide C.prog W .any base t v) →
      DataW.Whole enc C.prog fn.params.toList s.vars apart W args.toList ds gs before →
      W.ShapedOpen C.prog → X W args →
      Calls C.prog f args W fun e W' => ∃ v, e = .returned v ∧ s.post enc C.prog fn apart fresh handsOn again W args v W') :
    ReturnsInHanded a C os f .any (fun w args => (s.pre enc C.prog fn conds apart w args ∧ X w args) ∧ sizedMet enc C.prog fn (OpenSpec.ofChange s) apart w args) (s.post enc C.prog fn apart fresh handsOn again) := by
  refine returnsInHanded_of_calls own started noInit witness ?_
  intro w tape i _ hsh _ hok hpre _
  obtain ⟨_, _, _, fn', hfn', _, _, _, _, hval⟩ := hok
  have e : fn' = fn := Option.some.inj (hfn'.symm.trans hfn)
  subst e
  obtain ⟨⟨⟨ds, gs, before, hw, _⟩, hx⟩, _⟩ := hpre
  have hw' := DataW.Whole.of_heap (w' := w.forCall tape i) (by rfl) hw
  refine (contract (w.forCall tape i) w.heap.size i.args ds gs before hval hw' hsh (hX _ _ _ (by rfl) hx)).mono fun e W' ⟨v, he, hp⟩ => ?_
  subst he
  exact ChangeSpec.post_blind hp

def rowLaid : List (String × DataW Unit) := [("math/bits.deBruijn32tab", Rows.laid_math_bits_deBruijn32tab), ("math/bits.deBruijn64tab", Rows.laid_math_bits_deBruijn64tab), ("internal/strconv.uint64pow10", Rows.laid_internal_strconv_uint64pow10), ("strconv.ErrRange", Rows.laid_strconv_ErrRange), ("strconv.ErrSyntax", Rows.laid_strconv_ErrSyntax), ("interlocutor/act.fields", Rows.laid_interlocutor_act_fields), ("interlocutor/fold.noughts", Rows.laid_interlocutor_fold_noughts)]
set_option maxRecDepth 8000 in
theorem tab_row {W : World} (h : laidMet Tryz.prog rowLaid W) (hs : W.ShapedOpen Tryz.prog) : TabR W := by
  have hn1 : Tryz.prog.globalNamed "internal/strconv.uint64pow10" = some 4 := by kernel_rfl
  have hn2 : Tryz.prog.globalNamed "interlocutor/act.fields" = some 0 := by kernel_rfl
  have hn3 : Tryz.prog.globalNamed "interlocutor/fold.noughts" = some 1 := by kernel_rfl
  have h1 := Lib.tabIs_of_head (k := .u64) (zs := Lib.pow10Tab) hn1 (show (Tryz.prog.globals[4]?).map (·.type) = some 192 by kernel_rfl) Tryz.underlying192 Tryz.underlying173 (by kernel_rfl) (by kernel_rfl) h.tail.tail
  have h2 := Lib.tabIs_of_head (k := .i64) (zs := [0, 2, 1, 0, 3, 3, 6, 2, 2, 1, 6]) hn2 (show (Tryz.prog.globals[0]?).map (·.type) = some 123 by kernel_rfl) Tryz.underlying123 Tryz.underlying3 (by kernel_rfl) (by kernel_rfl) h.tail.tail.tail.tail.tail
  have h3 := Lib.tabIs_of_head (k := .i64) (zs := [48, 1632, 1776, 2406]) hn3 (show (Tryz.prog.globals[1]?).map (·.type) = some 156 by kernel_rfl) Tryz.underlying156 Tryz.underlying3 (by kernel_rfl) (by kernel_rfl) h.tail.tail.tail.tail.tail.tail
  exact ⟨⟨h1, maxlen_of hs⟩, ⟨h3.cell hn3 0 (by decide), h3.cell hn3 1 (by decide), h3.cell hn3 2 (by decide), h3.cell hn3 3 (by decide)⟩, ⟨.pointer none, ⟨fun k hk => h2.cell hn2 k hk⟩⟩⟩
end Go.Proofs.YtannndpamhgknaaGreatDoor
