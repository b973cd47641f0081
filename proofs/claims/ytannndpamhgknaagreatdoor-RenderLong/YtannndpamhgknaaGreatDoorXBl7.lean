/- BlRRes, BlResM: these texts, one behind the other. -/
import Derived.Test.YtannndpamhgknaaGreatDoorMBlAtC
import Derived.Test.YtannndpamhgknaaGreatDoorXBl1
import Derived.Test.YtannndpamhgknaaGreatDoorXBl2
import Derived.Test.YtannndpamhgknaaGreatDoorXBl6
/- A name, resolved: what the reference's Resolve answers; whether two locales are one, as the statements ask it. -/
namespace Go.Proofs.YtannndpamhgknaaGreatDoor.Bl
open Go.RowKit Gr

/-- The first of that name, or none. -/
def RFound (w : World) (ls : List Locale) (id : ByteArray) (e : Ending) (w' : World) : Prop :=
  Below w.heap.size w w' ∧ ((∃ i, i < ls.length ∧ (ls.getD i nilLocale).id = id ∧ (∀ j, j < i → (ls.getD j nilLocale).id ≠ id) ∧ ∃ v0 v1 v2, e = .returned (.tuple #[localeV (resOf ls i) v0 v1 v2, .bool true]) ∧ LocaleAt w' (resOf ls i) v0 v1 v2) ∨
    ((∀ j, j < ls.length → (ls.getD j nilLocale).id ≠ id) ∧ e = .returned (.tuple #[localeV nilLocale (.slice none 0 0) (.slice none 0 0) (.slice none 0 0), .bool false])))

set_option maxRecDepth 8000 in
theorem rresolve_any (ls : List Locale) (id : ByteArray) (v : Value) (w : World) (hl : LocalesAt w v ls) (hS : Small ls) (hr : rightL ls = true) (hrs : ∀ i, i < ls.length → (resOf ls i).lex.length ≤ 1000000 ∧ (resOf ls i).rules.length ≤ 1000000 ∧ (resOf ls i).styles.length ≤ 1000000) :
    Calls Tryz.prog 29 #[v, .string id] w (RFound w ls id) := by
  have HL := hid hl
  have HRS := hid hrs
  have HU := hid (up_alloc w (.cells #[.string ⟨#[]⟩, .int .i64 0, .int .i64 0, .slice none 0 0, .slice none 0 0, .slice none 0 0] 33))
  have HX := hid (row_new w (.cells #[.string ⟨#[]⟩, .int .i64 0, .int .i64 0, .slice none 0 0, .slice none 0 0, .slice none 0 0] 33))
  have H10 := hid (rightL_length hr)
  have HPR := hid (rightL_par hr)
  have HAT := hid (fun i w' b hi h10 hp => atc_any ls v hS w hl (i + 1) i w' (Nat.lt_succ_self i) b hi h10 hp)
  obtain ⟨ad, cap, ev, hm, _, hc⟩ := hl
  have HC := hid hc
  generalize hn : ls.length = n at ev hm hc
  have HN := hid hn
  subst ev
  clear hc hn hS hr hrs
  go_enter Tryz.func29, Tryz.ntmps29
  go_wp2
  go_loopw [6] (fun v6 wr => ∃ j : Nat, j ≤ n ∧ v6 = .int .i64 j ∧ (∀ k, k < j → (ls.getD k nilLocale).id ≠ id) ∧ wr = w.alloc (.cells #[.string ⟨#[]⟩, .int .i64 0, .int .i64 0, .slice none 0 0, .slice none 0 0, .slice none 0 0] 33)) (fun v6 _ => n - (intOf v6).toNat)
  case atStart => exact ⟨0, by omega, rfl, fun k hk => by omega, rfl⟩
  case round =>
    obtain ⟨j, hj, rfl, hno, hw⟩ := hrel
    rw [← hw] at HU HX
    have HWR := hid hw
    clear hw
    have HNO := hid hno
    clear hno
    by_cases hlt : j < n
    · have hlt2 : (j : Int) < (n : Int) := by omega
      obtain ⟨g, o, eg, hx⟩ := HC.out j (by rw [HN.out]; exact hlt)
      subst eg
      obtain ⟨v0, v1, v2, c0, _⟩ := hx
      replace c0 := (HU.out.cell (lt_of_cell c0)).trans c0
      have HI : Hid ((ls.getD j nilLocale).id = (ls.getD j nilLocale).id) := hid rfl
      obtain ⟨yi, hyi⟩ : ∃ yi, yi = (ls.getD j nilLocale).id := ⟨_, rfl⟩
      rw [← hyi] at c0
      have HYI := hid hyi
      clear hyi HI
      by_cases q : yi = id
      · subst q
        have HA := hid (HAT.out j wr HU.out (by rw [HN.out]; exact hlt) (by have := H10.out; rw [HN.out] at this; omega) (fun k hk => HPR.out k (by rw [HN.out]; omega)))
        go_wp2_with fail
        refine HA.out.mono ?_
        rintro e w2 ⟨u0, u1, u2, cs0, cs1, cs2, rfl, ⟨p0, p1, p2⟩, ⟨r0, r1, r2⟩, ⟨s0, s1, s2⟩, hoff, hb⟩
        have hb2 := up_trans HU.out hb
        have hl0 : w.heap.size < wr.heap.size := (Array.getElem?_eq_some_iff.1 HX.out).1
        have HK := hid ((hb.block _ hl0).trans HX.out)
        have HB2 := hid hb2
        have HF : Hid (∀ z0 z1 z2 z3 z4 z5 : Value, LocaleAt ((((((w2.setCell ⟨w.heap.size, 0, none⟩ z0).setCell ⟨w.heap.size, 1, none⟩ z1).setCell ⟨w.heap.size, 2, none⟩ z2).setCell ⟨w.heap.size, 3, none⟩ z3).setCell ⟨w.heap.size, 4, none⟩ z4).setCell ⟨w.heap.size, 5, none⟩ z5) (resOf ls j) u0 u1 u2) := hid (fun z0 z1 z2 z3 z4 z5 => by
          have hrs := HRS.out j (by rw [HN.out]; exact hlt)
          have ho := hoff w.heap.size (by omega) (Nat.le_refl _)
          have hbf := below_set6 hb2 (Nat.le_refl w.heap.size) z0 z1 z2 z3 z4 z5
          exact ⟨entries_of_cells (cells_set6 p0 ho.1) s0 (r0.on hbf) hrs.1, rules_of_cells (cells_set6 p1 ho.2.1) s1.plain (r1.on hbf) hrs.2.1, styles_of_cells (cells_set6 p2 ho.2.2) s2 (r2.on hbf) hrs.2.2⟩)
        obtain ⟨ad0, cap0, e0, _⟩ := p0
        obtain ⟨ad1, cap1, e1, _⟩ := p1
        obtain ⟨ad2, cap2, e2, _⟩ := p2
        have d0 : w2.cell? ⟨w.heap.size, 0, none⟩ = some (.string ⟨#[]⟩) := by rw [cell_of_row _ _ _ _ _ _ HK.out]; rfl
        have d1 : w2.cell? ⟨w.heap.size, 1, none⟩ = some (.int .i64 0) := by rw [cell_of_row _ _ _ _ _ _ HK.out]; rfl
        have d2 : w2.cell? ⟨w.heap.size, 2, none⟩ = some (.int .i64 0) := by rw [cell_of_row _ _ _ _ _ _ HK.out]; rfl
        have d3 : w2.cell? ⟨w.heap.size, 3, none⟩ = some (.slice none 0 0) := by rw [cell_of_row _ _ _ _ _ _ HK.out]; rfl
        have d4 : w2.cell? ⟨w.heap.size, 4, none⟩ = some (.slice none 0 0) := by rw [cell_of_row _ _ _ _ _ _ HK.out]; rfl
        have d5 : w2.cell? ⟨w.heap.size, 5, none⟩ = some (.slice none 0 0) := by rw [cell_of_row _ _ _ _ _ _ HK.out]; rfl
        have g0 : ∀ c, w2.frozen? ⟨w.heap.size, c, none⟩ = false := fun c => frozen_of_row _ _ _ _ _ HK.out
        obtain ⟨y, hy⟩ : ∃ y, y = resOf ls j := ⟨_, rfl⟩
        have HY := hid hy
        rw [← hy] at HF e0 e1 e2 ⊢
        obtain ⟨yid, ypa, ydi, ylx, yrl, yst⟩ := y
        dsimp only at e0 e1 e2
        unfold localeV
        dsimp only
        generalize ylx.length = l0 at e0
        generalize yrl.length = l1 at e1
        generalize yst.length = l2 at e2
        subst e0 e1 e2
        clear hy hb hb2 r0 r1 r2 s0 s1 s2 hoff
        go_wp2
        refine bodyPost_ret (results_cell_tmp rfl _ _ w.heap.size _ rfl (run_loadVar_row _ _ 33 33 _ (0, 0) _ (set6_heap HK.out _ _ _ _ _ _) Tryz.underlying33 rfl (by kernel_rfl))) rfl ?_
        exact ⟨below_set6 HB2.out (Nat.le_refl _) _ _ _ _ _ _, .inl ⟨j, by rw [HN.out]; exact hlt, HYI.out.symm, HNO.out, .slice ad0 l0 cap0, .slice ad1 l1 cap1, .slice ad2 l2 cap2, by rw [← HY.out]; rfl, by rw [← HY.out]; exact HF.out _ _ _ _ _ _⟩⟩
      · have q2 : (yi.toList == id.toList) = false := by have := toList_inj q; simpa using this
        have HQ := hid q
        clear q
        go_wp2
        go_roundw
        case rel => exact ⟨j + 1, by omega, by simp, fun k hk => by
          by_cases e : k < j
          · exact HNO.out k e
          · obtain rfl : k = j := by omega
            rw [← HYI.out]; exact HQ.out, HWR.out⟩
        case measure => simp [intOf]; omega
    · obtain rfl : n = j := by omega
      have HK := hid HX.out
      have d0 : wr.cell? ⟨w.heap.size, 0, none⟩ = some (.string ⟨#[]⟩) := by rw [cell_of_row _ _ _ _ _ _ HK.out]; rfl
      have d1 : wr.cell? ⟨w.heap.size, 1, none⟩ = some (.int .i64 0) := by rw [cell_of_row _ _ _ _ _ _ HK.out]; rfl
      have d2 : wr.cell? ⟨w.heap.size, 2, none⟩ = some (.int .i64 0) := by rw [cell_of_row _ _ _ _ _ _ HK.out]; rfl
      have d3 : wr.cell? ⟨w.heap.size, 3, none⟩ = some (.slice none 0 0) := by rw [cell_of_row _ _ _ _ _ _ HK.out]; rfl
      have d4 : wr.cell? ⟨w.heap.size, 4, none⟩ = some (.slice none 0 0) := by rw [cell_of_row _ _ _ _ _ _ HK.out]; rfl
      have d5 : wr.cell? ⟨w.heap.size, 5, none⟩ = some (.slice none 0 0) := by rw [cell_of_row _ _ _ _ _ _ HK.out]; rfl
      have g0 : ∀ c, wr.frozen? ⟨w.heap.size, c, none⟩ = false := fun c => frozen_of_row _ _ _ _ _ HK.out
      go_wp2
      refine bodyPost_ret (results_cell_tmp rfl _ _ w.heap.size _ rfl (run_loadVar_row _ _ 33 33 _ (0, 0) _ (set6_heap HK.out _ _ _ _ _ _) Tryz.underlying33 rfl (by kernel_rfl))) rfl ?_
      exact ⟨below_set6 HU.out (Nat.le_refl _) _ _ _ _ _ _, .inr ⟨fun k hk => HNO.out k (by rw [← HN.out]; exact hk), rfl⟩⟩

/-- A locale with another parent. -/
def noP (x : Locale) : Locale := { x with parent := -1 }
end Go.Proofs.YtannndpamhgknaaGreatDoor.Bl

/- Of what is resolved: its sizes, what is written of it; that both answer the same; what a shape's locales are, resolved. -/
namespace Go.Proofs.YtannndpamhgknaaGreatDoor.Bl
open Go.RowKit Gr

theorem flat_len {α β : Type} {f : α → List β} {c : Nat} : ∀ (xs : List α), (∀ x ∈ xs, (f x).length ≤ c) → (xs.flatMap f).length ≤ xs.length * c
  | [], _ => by simp
  | x :: xs, h => by
    have h1 := flat_len xs (fun y hy => h y (List.mem_cons_of_mem _ hy))
    have h2 := h x (by simp)
    rw [List.flatMap_cons, List.length_append, List.length_cons, Nat.add_mul, Nat.one_mul]
    omega
theorem nil_ok : OkLocale nilLocale := ⟨by decide, ⟨by decide, by decide⟩, ⟨by decide, by decide⟩, ⟨by decide, fun _ h => (nomatch h)⟩, ⟨by decide, fun _ h => (nomatch h)⟩, ⟨by decide, fun _ h => (nomatch h)⟩⟩
theorem getD_ok {ls : List Locale} (h : rightL ls = true) (k : Nat) : OkLocale (ls.getD k nilLocale) := by
  rw [List.getD_eq_getElem?_getD]
  cases hk : ls[k]? with
  | none => exact nil_ok
  | some x => exact locales_ok h x (List.mem_of_getElem? hk)
/-- What is resolved: no more than ten times as much. -/
def OkRes (x : Locale) : Prop := x.id.size ≤ 12 ∧ (x.lex.length ≤ 300 ∧ ∀ y ∈ x.lex, OkEntry y) ∧ (x.rules.length ≤ 600 ∧ ∀ y ∈ x.rules, OkRule y) ∧ (x.styles.length ≤ 200 ∧ ∀ y ∈ x.styles, OkStyle y)
theorem res_ok {ls : List Locale} (h : rightL ls = true) {i : Nat} (hi : i < ls.length) : OkRes (resOf ls i) := by
  have hc := chainOf_length ls i
  have h10 := rightL_length h
  have e1 := flat_len (f := fun k : Int => (ls.getD k.toNat nilLocale).lex) (c := 30) (chainOf ls i) (fun k _ => (getD_ok h _).2.2.2.1.1)
  have e2 := flat_len (f := fun k : Int => (ls.getD k.toNat nilLocale).rules) (c := 60) (chainOf ls i) (fun k _ => (getD_ok h _).2.2.2.2.1.1)
  have e3 := flat_len (f := fun k : Int => (ls.getD k.toNat nilLocale).styles) (c := 20) (chainOf ls i) (fun k _ => (getD_ok h _).2.2.2.2.2.1)
  refine ⟨(getD_ok h i).1, ⟨Nat.le_trans e1 (by omega), fun y hy => ?_⟩, ⟨Nat.le_trans e2 (by omega), fun y hy => ?_⟩, ⟨Nat.le_trans e3 (by omega), fun y hy => ?_⟩⟩
  · obtain ⟨k, _, hk⟩ := List.mem_flatMap.1 hy
    exact (getD_ok h _).2.2.2.1.2 y hk
  · obtain ⟨k, _, hk⟩ := List.mem_flatMap.1 hy
    exact (getD_ok h _).2.2.2.2.1.2 y hk
  · obtain ⟨k, _, hk⟩ := List.mem_flatMap.1 hy
    exact (getD_ok h _).2.2.2.2.2.2 y hk
theorem res_len {x : Locale} (h : OkRes x) : (encLocales [noP x]).length ≤ 800000 := by
  unfold encLocales
  rw [List.length_append, numB_length, List.flatMap_cons, List.flatMap_nil, List.append_nil]
  unfold encLocale encEntries encRules encStyles noP
  rw [List.length_append, List.length_append, List.length_append, List.length_append, List.length_append, List.length_append, List.length_append, numB_length, numB_length, numB_length, text_len, nums_len]
  have h1 := flat_le (f := encEntry) (c := 44) x.lex (fun y hy => entry_len (h.2.1.2 y hy))
  have h2 := flat_le (f := encRule) (c := 136) x.rules (fun y hy => rule_len (h.2.2.1.2 y hy))
  have h3 := flat_le (f := encStyle) (c := 736) x.styles (fun y hy => style_len (h.2.2.2.2 y hy))
  have k0 := h.1
  have k1 := h.2.1.1
  have k2 := h.2.2.1.1
  have k3 := h.2.2.2.1
  simp only [List.length_cons, List.length_nil]
  omega
theorem nil_res : OkRes nilLocale := ⟨by decide, ⟨by decide, fun _ h => (nomatch h)⟩, ⟨by decide, fun _ h => (nomatch h)⟩, ⟨by decide, fun _ h => (nomatch h)⟩⟩

/-- What a name is resolved to. -/
def Res (ls : List Locale) (id : ByteArray) (y : Locale) (b : Bool) : Prop :=
  (b = true ∧ ∃ i, i < ls.length ∧ (ls.getD i nilLocale).id = id ∧ (∀ j, j < i → (ls.getD j nilLocale).id ≠ id) ∧ y = resOf ls i) ∨ (b = false ∧ (∀ j, j < ls.length → (ls.getD j nilLocale).id ≠ id) ∧ y = nilLocale)
theorem Res.unique {ls : List Locale} {id : ByteArray} {y z : Locale} {b c : Bool} (h : Res ls id y b) (k : Res ls id z c) : y = z ∧ b = c := by
  rcases h with ⟨rfl, i, hi, hid, hf, rfl⟩ | ⟨rfl, hn, rfl⟩
  · rcases k with ⟨rfl, j, hj, hjd, hjf, rfl⟩ | ⟨rfl, hn, rfl⟩
    · have : i = j := by
        rcases Nat.lt_trichotomy i j with e | e | e
        · exact absurd hid (hjf i e)
        · exact e
        · exact absurd hjd (hf j e)
      subst this
      exact ⟨rfl, rfl⟩
    · exact absurd hid (hn i hi)
  · rcases k with ⟨rfl, j, hj, hjd, hjf, rfl⟩ | ⟨rfl, _, rfl⟩
    · exact absurd hjd (hn j hj)
    · exact ⟨rfl, rfl⟩
theorem Res.exists (ls : List Locale) (id : ByteArray) : ∃ y b, Res ls id y b := by
  have key : ∀ n, n ≤ ls.length → (∃ i, i < n ∧ (ls.getD i nilLocale).id = id ∧ ∀ j, j < i → (ls.getD j nilLocale).id ≠ id) ∨ ∀ j, j < n → (ls.getD j nilLocale).id ≠ id := by
    intro n
    induction n with
    | zero => exact fun _ => .inr (fun j hj => by omega)
    | succ n ih =>
      intro hn
      rcases ih (by omega) with ⟨i, h1, h2⟩ | h
      · exact .inl ⟨i, by omega, h2⟩
      · by_cases e : (ls.getD n nilLocale).id = id
        · exact .inl ⟨n, by omega, e, h⟩
        · refine .inr (fun j hj => ?_)
          by_cases hjn : j < n
          · exact h j hjn
          · obtain rfl : j = n := by omega
            exact e
  rcases key ls.length (Nat.le_refl _) with ⟨i, h1, h2, h3⟩ | h
  · exact ⟨_, true, .inl ⟨rfl, i, h1, h2, h3, rfl⟩⟩
  · exact ⟨_, false, .inr ⟨rfl, h, rfl⟩⟩
theorem Res.ok {ls : List Locale} (hr : rightL ls = true) {id : ByteArray} {y : Locale} {b : Bool} (h : Res ls id y b) : OkRes y := by
  rcases h with ⟨_, i, hi, _, _, rfl⟩ | ⟨_, _, rfl⟩
  · exact res_ok hr hi
  · exact nil_res
theorem right_rows {ls : List Locale} (h : rightL ls = true) : ∀ x ∈ ls, (∀ s ∈ x.styles, s.parts.length ≤ 100000) ∧ (∀ r ∈ x.rules, r.rhs.length ≤ 100000 ∧ r.p.length ≤ 100000) := fun x hx => by
  have hk := locales_ok h x hx
  exact ⟨fun s hs => by have := (hk.2.2.2.2.2.2 s hs).2.1; omega, fun r hr => by have h1 := (hk.2.2.2.2.1.2 r hr).2.1.1; have h2 := (hk.2.2.2.2.1.2 r hr).2.2.2.1.1; exact ⟨by omega, by omega⟩⟩
theorem nil_locale (w : World) : LocaleAt w nilLocale (.slice none 0 0) (.slice none 0 0) (.slice none 0 0) := ⟨EntriesAt.nil _, RulesOk.nil _, StylesAt.nil _⟩
theorem rres_any (ls : List Locale) (id : ByteArray) (v : Value) (w : World) (hl : LocalesAt w v ls) (hr : rightL ls = true) {y : Locale} {b : Bool} (hy : Res ls id y b) :
    Calls Tryz.prog 29 #[v, .string id] w fun e w' => ∃ v0 v1 v2, e = .returned (.tuple #[localeV y v0 v1 v2, .bool b]) ∧ LocaleAt w' y v0 v1 v2 ∧ Below w.heap.size w w' := by
  refine (rresolve_any ls id v w hl (right_small hr) hr (fun i hi => by have := res_ok hr hi; exact ⟨by have := this.2.1.1; omega, by have := this.2.2.1.1; omega, by have := this.2.2.2.1; omega⟩)).mono ?_
  rintro e w' ⟨hb, ⟨i, hi, hid, hf, v0, v1, v2, rfl, hs⟩ | ⟨hn, rfl⟩⟩
  · obtain ⟨rfl, rfl⟩ := hy.unique (.inl ⟨rfl, i, hi, hid, hf, rfl⟩)
    exact ⟨v0, v1, v2, rfl, hs, hb⟩
  · obtain ⟨rfl, rfl⟩ := hy.unique (.inr ⟨rfl, hn, rfl⟩)
    exact ⟨_, _, _, rfl, nil_locale _, hb⟩
/-- The sample's second and third. -/
theorem mk_len (x : Shp) : 3 ≤ (mkL x).length := by
  unfold mkL makeL
  rw [List.length_append]
  show 3 ≤ 3 + _
  omega
theorem mk_at (x : Shp) (k : Nat) (hk : k < 3) : (mkL x).getD k nilLocale = (sampleL x.order x.digits).getD k nilLocale := getD_app (by simpa [sampleL] using hk)
theorem mk_par (x : Shp) (i : Nat) (hi : i < (mkL x).length) : Par (mkL x) i := fun j hj => rightL_par (mkL_right x) j (by omega)
theorem mk_en (x : Shp) : Res (mkL x) ⟨#[101, 110]⟩ (resOf (mkL x) 1) true := .inl ⟨rfl, 1, by have := mk_len x; omega, by rw [mk_at x 1 (by decide)]; rfl, fun j hj => by
  obtain rfl : j = 0 := by omega
  rw [mk_at x 0 (by decide)]
  show (⟨#[98, 97, 115, 101]⟩ : ByteArray) ≠ _
  decide +kernel, rfl⟩
theorem mk_ar (x : Shp) : Res (mkL x) ⟨#[97, 114, 45, 49]⟩ (resOf (mkL x) 2) true := .inl ⟨rfl, 2, by have := mk_len x; omega, by rw [mk_at x 2 (by decide)]; rfl, fun j hj => by
  rcases (by omega : j = 0 ∨ j = 1) with rfl | rfl
  · rw [mk_at x 0 (by decide)]
    show (⟨#[98, 97, 115, 101]⟩ : ByteArray) ≠ _
    decide +kernel
  · rw [mk_at x 1 (by decide)]
    show (⟨#[101, 110]⟩ : ByteArray) ≠ _
    decide +kernel, rfl⟩
theorem sample_chain1 (o d : Int) : chainOf (sampleL o d) 1 = [0, 1] := rfl
theorem sample_chain2 (o d : Int) : chainOf (sampleL o d) 2 = [0, 1, 2] := rfl
theorem mk_chain (x : Shp) (i : Nat) (hi : i < 3) : chainOf (mkL x) i = chainOf (sampleL x.order x.digits) i := by
  unfold mkL makeL
  exact chainOf_app _ _ i (by simpa [sampleL] using hi) (fun j hj => rightL_par (sampleL_right _ _) j (by show j < 3; omega))
theorem mk_lex1 (x : Shp) : (resOf (mkL x) 1).lex = wordsL := by
  show lexUp (mkL x) (chainOf (mkL x) 1) = _
  rw [mk_chain x 1 (by decide), sample_chain1]
  show (([0, 1] : List Int).flatMap fun k => ((mkL x).getD k.toNat nilLocale).lex) = _
  simp only [List.flatMap_cons, List.flatMap_nil, List.append_nil, Int.toNat_zero, Int.toNat_one]
  rw [mk_at x 0 (by decide), mk_at x 1 (by decide)]
  exact List.append_nil _
theorem mk_lex2 (x : Shp) : (resOf (mkL x) 2).lex = wordsL ++ [⟨⟨#[109, 97, 105]⟩, 1, 5⟩] := by
  show lexUp (mkL x) (chainOf (mkL x) 2) = _
  rw [mk_chain x 2 (by decide), sample_chain2]
  show (([0, 1, 2] : List Int).flatMap fun k => ((mkL x).getD k.toNat nilLocale).lex) = _
  simp only [List.flatMap_cons, List.flatMap_nil, List.append_nil, Int.toNat_zero, Int.toNat_one]
  rw [mk_at x 0 (by decide), mk_at x 1 (by decide), show (2 : Int).toNat = 2 from rfl, mk_at x 2 (by decide)]
  rfl
theorem mk_rules1 (x : Shp) : (resOf (mkL x) 1).rules = othersM 7 ++ datesL (x.order % 3) := by
  show rulesOf (mkL x) 1 = _
  unfold rulesOf
  rw [mk_chain x 1 (by decide), sample_chain1]
  simp only [List.flatMap_cons, List.flatMap_nil, List.append_nil, Int.toNat_zero, Int.toNat_one]
  rw [mk_at x 0 (by decide), mk_at x 1 (by decide)]
  rfl
theorem mk_rules2 (x : Shp) : (resOf (mkL x) 2).rules = othersM 7 ++ datesL (x.order % 3) := by
  show rulesOf (mkL x) 2 = _
  unfold rulesOf
  rw [mk_chain x 2 (by decide), sample_chain2]
  simp only [List.flatMap_cons, List.flatMap_nil, List.append_nil, Int.toNat_zero, Int.toNat_one]
  rw [mk_at x 0 (by decide), mk_at x 1 (by decide), show (2 : Int).toNat = 2 from rfl, mk_at x 2 (by decide)]
  exact congrArg _ (List.append_nil _)
theorem mk_check (x : Shp) : check (resOf (mkL x) 2).rules = true := by
  have h := rightL_at (mkL_right x) (i := 2) (by have := mk_len x; omega)
  unfold rightAt at h
  simp only [Bool.and_eq_true] at h
  exact h.2.2.2.2.2.2.2.2
theorem jan_text : Fo.textOf (⟨#[106, 97, 110]⟩ : ByteArray).data.toList = [106, 97, 110] := by decide +kernel
end Go.Proofs.YtannndpamhgknaaGreatDoor.Bl
