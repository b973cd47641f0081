/- Fits, Write, LexAt, Wany: these texts, one behind the other. -/
import Derived.Test.YtannndpamhgknaaGreatDoorMPart
import Derived.Test.YtannndpamhgknaaGreatDoorMFld4
import Derived.Deep.RegionHeld
import Derived.Laws.IdiomStrings
import Derived.Test.YtannndpamhgknaaGreatDoorXBl0
/- What a value that is right has in it, is not too great. -/
namespace Go.Proofs.YtannndpamhgknaaGreatDoor
open Go.RowKit Gr Bl

theorem ci_in {n a b : Int} (h : Ci.inB n a b = true) : a ≤ n ∧ n ≤ b := by unfold Ci.inB at h; simpa using h
theorem day_i18 {y m d : Int} (h : Ci.dayB y m d = true) : i18 y ∧ i18 m ∧ i18 d := by
  unfold Ci.dayB at h
  simp only [Bool.and_eq_true] at h
  obtain ⟨h1, h2⟩ := h
  obtain ⟨a, b⟩ := ci_in h1
  obtain ⟨c, e, f, g⟩ := (Ci.Civ.vld_iff y m d).1 h2
  have hl : Ci.Civ.len y m ≤ 31 := by
    unfold Ci.Civ.len
    repeat' split
    all_goals omega
  unfold i18
  omega
theorem clock_i18 {a b c : Int} (h : Ci.clockB a b c = true) : i18 a ∧ i18 b ∧ i18 c := by
  unfold Ci.clockB at h
  simp only [Bool.and_eq_true] at h
  obtain ⟨⟨h1, h2⟩, h3⟩ := h
  have := ci_in h1
  have := ci_in h2
  have := ci_in h3
  unfold i18
  omega
/-- What is in it, kind by kind. -/
inductive Fits : Int → List Int → Prop where
  | nums {k : Int} {f : List Int} (hk : k = 4 ∨ k = 5 ∨ k = 6 ∨ k = 10) (hf : ∀ n ∈ f, i18 n) (hl : f.length ≤ 10) : Fits k f
  | dec {m s : Int} (h0 : -1000000000000000000 < m) (h1 : m < 1000000000000000000) (hs0 : 0 ≤ s) (hs1 : s ≤ 18) : Fits 7 [m, s]
  | mon {c m : Int} (c0 : 0 ≤ c) (c1 : c ≤ 1000000000) (h0 : -1000000000000000000 < m) (h1 : m < 1000000000000000000) : Fits 8 [c, m]
  | dur {n : Int} (h0 : 0 ≤ n) (h1 : n ≤ 9007199254740991) : Fits 9 [n]
theorem fits_of {k : Int} {f : List Int} (h : Ac.rightB ⟨k, f⟩ = true) : Fits k f := by
  obtain ⟨h4, h10, hl, hb⟩ := right_fits h
  rcases (by omega : k = 4 ∨ k = 5 ∨ k = 6 ∨ k = 7 ∨ k = 8 ∨ k = 9 ∨ k = 10) with rfl | rfl | rfl | rfl | rfl | rfl | rfl
  · obtain ⟨a, b, c, rfl⟩ := Ac.len3 (f := f) (by have : (f.length : Int) = 3 := hl; omega)
    have := day_i18 (show Ci.dayB a b c = true from hb)
    exact .nums (.inl rfl) (by intro n hn; simp at hn; rcases hn with rfl | rfl | rfl; exact this.1; exact this.2.1; exact this.2.2) (by simp)
  · obtain ⟨a, b, c, rfl⟩ := Ac.len3 (f := f) (by have : (f.length : Int) = 3 := hl; omega)
    have := clock_i18 (show Ci.clockB a b c = true from hb)
    exact .nums (.inr (.inl rfl)) (by intro n hn; simp at hn; rcases hn with rfl | rfl | rfl; exact this.1; exact this.2.1; exact this.2.2) (by simp)
  · obtain ⟨a, b, c, d, e, g, rfl⟩ := Ac.len6 (f := f) (by have : (f.length : Int) = 6 := hl; omega)
    have hb2 : (Ci.dayB a b c && Ci.clockB d e g) = true := hb
    rw [Bool.and_eq_true] at hb2
    have h1 := day_i18 hb2.1
    have h2 := clock_i18 hb2.2
    exact .nums (.inr (.inr (.inl rfl))) (by intro n hn; simp at hn; rcases hn with rfl | rfl | rfl | rfl | rfl | rfl; exact h1.1; exact h1.2.1; exact h1.2.2; exact h2.1; exact h2.2.1; exact h2.2.2) (by simp)
  · obtain ⟨a, b, rfl⟩ := Ac.len2 (f := f) (by have : (f.length : Int) = 2 := hl; omega)
    have hb2 : Ac.normB a b = true := hb
    unfold Ac.normB at hb2
    simp only [Bool.and_eq_true] at hb2
    obtain ⟨a0, a1⟩ := Ac.inB_iff.1 hb2.1.1
    obtain ⟨b0, b1⟩ := Ac.inB_iff.1 hb2.1.2
    exact .dec (by omega) (by omega) b0 b1
  · obtain ⟨a, b, rfl⟩ := Ac.len2 (f := f) (by have : (f.length : Int) = 2 := hl; omega)
    have hb2 : (Ac.inB a 0 1000000000 && Ac.inB b (-999999999999999999) 999999999999999999) = true := hb
    simp only [Bool.and_eq_true] at hb2
    obtain ⟨a0, a1⟩ := Ac.inB_iff.1 hb2.1
    obtain ⟨b0, b1⟩ := Ac.inB_iff.1 hb2.2
    exact .mon a0 a1 (by omega) (by omega)
  · obtain ⟨a, rfl⟩ := Ac.len1 (f := f) (by have : (f.length : Int) = 1 := hl; omega)
    have hb2 : Ac.inB a 0 9007199254740991 = true := hb
    obtain ⟨a0, a1⟩ := Ac.inB_iff.1 hb2
    exact .dur a0 a1
  · obtain ⟨a, b, c, d, e, g, rfl⟩ := Ac.len6 (f := f) (by have : (f.length : Int) = 6 := hl; omega)
    have hb2 : (Ci.dayB a b c && Ci.dayB d e g && decide (Ac.cmpL ([a, b, c, d, e, g].take 3) ([a, b, c, d, e, g].drop 3) ≤ 0)) = true := hb
    rw [Bool.and_eq_true, Bool.and_eq_true] at hb2
    have h1 := day_i18 hb2.1.1
    have h2 := day_i18 hb2.1.2
    exact .nums (.inr (.inr (.inr rfl))) (by intro n hn; simp at hn; rcases hn with rfl | rfl | rfl | rfl | rfl | rfl; exact h1.1; exact h1.2.1; exact h1.2.2; exact h2.1; exact h2.2.1; exact h2.2.2) (by simp)
theorem fields_ok {k : Int} {f : List Int} (h : Fits k f) : ∀ x ∈ fieldsV k f, FldG x := by
  have nums : ∀ (l : List Int), (∀ n ∈ l, i18 n) → ∀ x ∈ numsF l, FldG x := fun l hl x hx => by
    refine ⟨numsF_ok l hl x hx, ?_⟩
    obtain ⟨n, _, rfl⟩ := List.mem_map.1 hx
    exact Nat.zero_le _
  cases h with
  | nums hk hf hl =>
    have e : fieldsV k f = numsF f := by unfold fieldsV; rw [if_neg (by omega), if_neg (by omega), if_neg (by omega)]
    rw [e]; exact nums f hf
  | @dec m s h0 h1 hs0 hs1 =>
    intro x hx
    have hx2 : x ∈ decF m s.toNat := hx
    simp only [decF, List.mem_cons, List.not_mem_nil, or_false] at hx2
    rcases hx2 with rfl | rfl
    · exact ⟨wholeN_ok m _ (by omega) (by omega), by simp⟩
    · exact ⟨partN_ok m _ (by omega) (by omega) (by omega), by simp⟩
  | @mon c m c0 c1 h0 h1 =>
    intro x hx
    have hx2 : x ∈ monF c m := hx
    simp only [monF, List.mem_cons, List.not_mem_nil, or_false] at hx2
    rcases hx2 with rfl | rfl | rfl
    · exact ⟨nI_ok c (by omega) (by omega), by simp⟩
    · exact ⟨wholeN_ok m _ (by omega) (by omega), by simp⟩
    · exact ⟨partN_ok m _ (by omega) (by omega) (by omega), by simp⟩
  | @dur n h0 h1 =>
    intro x hx
    refine nums [n, n / 3600, n % 3600 / 60, n % 60] ?_ x hx
    intro q hq
    unfold i18
    simp only [List.mem_cons, List.not_mem_nil, or_false] at hq
    rcases hq with rfl | rfl | rfl | rfl <;> omega
theorem fieldsOf_any (k : Int) (f : List Int) (v : Value) (w : World) (hv : Ac.VA w v ⟨k, f⟩) (hr : Fits k f) (hT : TabN w) :
    Calls Tryz.prog 37 #[v] w (FRet w (fieldsV k f)) := by
  obtain ⟨fv, rfl, hf⟩ := hv
  dsimp only at *
  obtain ⟨ad, cap, rfl, _⟩ := hf.shape
  cases hr with
  | nums hk hff hl =>
    have e : fieldsV k f = numsF f := by unfold fieldsV; rw [if_neg (by omega), if_neg (by omega), if_neg (by omega)]
    rw [e]
    have hF : ∀ w', Below w.heap.size w w' → Calls Tryz.prog 57 #[.slice ad f.length cap] w' (FRet w' (numsF f)) := fun w' hb => (numbers_any f _ w' (hf.on hb) hff hl (hT.on hb).tab).mono fun e w2 ⟨g, h1, h2, h3⟩ => by
      have hl2 : (numsF f).length = f.length := by unfold numsF; rw [List.length_map]
      exact ⟨g, f.length, by rw [h1, hl2], by rw [hl2]; exact h2, h3⟩
    rcases hk with rfl | rfl | rfl | rfl
    · exact fieldsOf_4 _ ad _ cap w hF
    · exact fieldsOf_5 _ ad _ cap w hF
    · exact fieldsOf_6 _ ad _ cap w hF
    · exact fieldsOf_10 _ ad _ cap w hF
  | @dec m s h0 h1 hs0 hs1 =>
    obtain ⟨sn, rfl⟩ := Int.eq_ofNat_of_zero_le hs0
    exact fieldsOf_7 _ ad _ cap w fun w' hb => decimal_any m sn _ w' (hf.on hb) (by omega) h0 h1 (hT.on hb)
  | @mon c m c0 c1 h0 h1 =>
    exact fieldsOf_8 _ ad _ cap w fun w' hb => money_any c m _ w' (hf.on hb) c0 c1 h0 h1 (hT.on hb)
  | @dur n h0 h1 =>
    exact fieldsOf_9 _ ad _ cap w fun w' hb => duration_any n _ w' (hf.on hb) h0 h1 (hT.on hb).tab
end Go.Proofs.YtannndpamhgknaaGreatDoor

/- A value, written in a style of a language: what render.Write answers; the places of the styles of a kind. -/
namespace Go.Proofs.YtannndpamhgknaaGreatDoor
open Go.RowKit Gr Bl

/-- All variables that render's calls read. -/
structure TabR (w : World) : Prop where
  num : TabN w
  dig : Fo.Tab w
  act : ∃ p, Ac.Tabs p w
theorem TabR.on {w w' : World} (h : TabR w) (hb : Below w.heap.size w w') : TabR w' := by
  refine ⟨h.num.on hb, ?_, ?_⟩
  · obtain ⟨h0, h1, h2, h3⟩ := h.dig
    exact ⟨(hb.cell (lt_of_cell h0)).trans h0, (hb.cell (lt_of_cell h1)).trans h1, (hb.cell (lt_of_cell h2)).trans h2, (hb.cell (lt_of_cell h3)).trans h3⟩
  · obtain ⟨p, hp⟩ := h.act
    exact ⟨p, hp.on hb⟩
theorem TabR.size {w : World} (h : TabR w) : 2 ≤ w.heap.size := by
  have : 1 < w.heap.size := lt_of_cell h.dig.1
  omega
/-- A language whose numbers are not too great. -/
structure LocG (l : Locale) : Prop where
  d0 : 0 ≤ l.digits
  d1 : l.digits < 4
  lex : ∀ x ∈ l.lex, x.text.size ≤ 1000000
  sty : ∀ s ∈ l.styles, ∀ p ∈ s.parts, PartG p

set_option maxRecDepth 8000 in
set_option maxHeartbeats 1000000 in
/-- A place that no style has. -/
theorem write_out (id : ByteArray) (pa di i k : Int) (ad0 ad1 ad2 ad : Option Addr) (n0 n1 n2 n cap0 cap1 cap2 cap : Nat) (w : World) (hn : i < 0 ∨ (n2 : Int) ≤ i) (hm : n2 ≤ 1000000) :
    Calls Tryz.prog 18 #[.agg #[.string id, .int .i64 pa, .int .i64 di, .slice ad0 n0 cap0, .slice ad1 n1 cap1, .slice ad2 n2 cap2], .int .i64 i, .agg #[.int .i64 k, .slice ad n cap]] w fun e w' => e = .returned (.tuple #[.string ⟨#[]⟩, .int .i64 7]) ∧ Below w.heap.size w w' := by
  have HR := hid (rwithin_any i 0 ((n2 : Int) - 1))
  have hin : inB3 i 0 ((n2 : Int) - 1) = false := by unfold inB3; simp; omega
  rw [hin] at HR
  have HB := hid (show Below w.heap.size w ((w.alloc (.cells #[.string id, .int .i64 pa, .int .i64 di, .slice ad0 n0 cap0, .slice ad1 n1 cap1, .slice ad2 n2 cap2] 33)).alloc (.cells #[.int .i64 k, .slice ad n cap] 27)) from ((Below.refl w.heap.size w).alloc (Nat.le_refl _) _).alloc (by simp) _)
  clear hin hn
  go_enter Tryz.func18, Tryz.ntmps18
  go_wp2
  go_quiet ((go_at_call 35; exact (HR.out _).mono (fun e w' h => ⟨h.1, _, h.2⟩)))
  go_wp2
  exact bodyPost_ret (v := .tuple #[.string ⟨#[]⟩, .int .i64 7]) (by simp [results, Tryz.results18, go_sem]) rfl ⟨rfl, below_drewN HB.out _⟩

set_option maxRecDepth 8000 in
set_option maxHeartbeats 1000000 in
/-- A style of another kind. -/
theorem write_kind (id : ByteArray) (pa di k sk : Int) (j q o : Nat) (ad0 ad1 ad : Option Addr) (n0 n1 n2 n cap0 cap1 cap2 cap : Nat) (w : World) (hj : j < n2) (hm : n2 ≤ 1000000) (hk : w.cell? ⟨q, o + j * 2, none⟩ = some (.int .i64 sk)) (hne : sk ≠ k) :
    Calls Tryz.prog 18 #[.agg #[.string id, .int .i64 pa, .int .i64 di, .slice ad0 n0 cap0, .slice ad1 n1 cap1, .slice (some ⟨q, o, none⟩) n2 cap2], .int .i64 (j : Int), .agg #[.int .i64 k, .slice ad n cap]] w fun e w' => e = .returned (.tuple #[.string ⟨#[]⟩, .int .i64 7]) ∧ Below w.heap.size w w' := by
  have HR := hid (rwithin_any (j : Int) 0 ((n2 : Int) - 1))
  have hin : inB3 (j : Int) 0 ((n2 : Int) - 1) = true := by unfold inB3; simp; omega
  rw [hin] at HR
  have hj2 : (j : Int) < (n2 : Int) := by omega
  obtain ⟨w1, hw1⟩ : ∃ w1, w1 = (w.alloc (.cells #[.string id, .int .i64 pa, .int .i64 di, .slice ad0 n0 cap0, .slice ad1 n1 cap1, .slice (some ⟨q, o, none⟩) n2 cap2] 33)).alloc (.cells #[.int .i64 k, .slice ad n cap] 27) := ⟨_, rfl⟩
  have hb1 : Below w.heap.size w w1 := by rw [hw1]; exact ((Below.refl w.heap.size w).alloc (Nat.le_refl _) _).alloc (by simp) _
  have HB := hid hb1
  have c0 := (hb1.cell (p := ⟨q, o + j * 2, none⟩) (lt_of_cell hk)).trans hk
  have hne2 : (sk != k) = true := by simp [hne]
  have hne3 : (sk == k) = false := by simp [hne]
  clear hin hne hb1 hk
  go_enter Tryz.func18, Tryz.ntmps18
  go_wp2
  subst hw1
  go_quiet ((go_at_call 35; exact (HR.out _).mono (fun e w' h => ⟨h.1, _, h.2⟩)))
  go_wp2
  exact bodyPost_ret (v := .tuple #[.string ⟨#[]⟩, .int .i64 7]) (by simp [results, Tryz.results18, go_sem]) rfl ⟨rfl, below_drewN HB.out _⟩

set_option maxRecDepth 8000 in
set_option maxHeartbeats 1000000 in
/-- A value that is not right. -/
theorem write_wrong (id : ByteArray) (pa di k : Int) (j q o : Nat) (ad0 ad1 ad : Option Addr) (n0 n1 n2 n cap0 cap1 cap2 cap : Nat) (w : World) (hj : j < n2) (hm : n2 ≤ 1000000) (hk : w.cell? ⟨q, o + j * 2, none⟩ = some (.int .i64 k)) (hA : ∀ w', Below w.heap.size w w' → Calls Tryz.prog 36 #[.agg #[.int .i64 k, .slice ad n cap]] w' fun e w2 => e = .returned (.bool false) ∧ Below w'.heap.size w' w2) :
    Calls Tryz.prog 18 #[.agg #[.string id, .int .i64 pa, .int .i64 di, .slice ad0 n0 cap0, .slice ad1 n1 cap1, .slice (some ⟨q, o, none⟩) n2 cap2], .int .i64 (j : Int), .agg #[.int .i64 k, .slice ad n cap]] w fun e w' => e = .returned (.tuple #[.string ⟨#[]⟩, .int .i64 6]) ∧ Below w.heap.size w w' := by
  have HR := hid (rwithin_any (j : Int) 0 ((n2 : Int) - 1))
  have hin : inB3 (j : Int) 0 ((n2 : Int) - 1) = true := by unfold inB3; simp; omega
  rw [hin] at HR
  have hj2 : (j : Int) < (n2 : Int) := by omega
  obtain ⟨w1, hw1⟩ : ∃ w1, w1 = (w.alloc (.cells #[.string id, .int .i64 pa, .int .i64 di, .slice ad0 n0 cap0, .slice ad1 n1 cap1, .slice (some ⟨q, o, none⟩) n2 cap2] 33)).alloc (.cells #[.int .i64 k, .slice ad n cap] 27) := ⟨_, rfl⟩
  have hb1 : Below w.heap.size w w1 := by rw [hw1]; exact ((Below.refl w.heap.size w).alloc (Nat.le_refl _) _).alloc (by simp) _
  have HB := hid hb1
  have c0 := (hb1.cell (p := ⟨q, o + j * 2, none⟩) (lt_of_cell hk)).trans hk
  have HA := hid hA
  have hne2 : (k != k) = false := by simp
  have hne3 : (k == k) = true := by simp
  have hx : w1.heap[w.heap.size + 1]? = some (.cells #[.int .i64 k, .slice ad n cap] 27) := by
    rw [hw1]
    have := row_new (w.alloc (.cells #[.string id, .int .i64 pa, .int .i64 di, .slice ad0 n0 cap0, .slice ad1 n1 cap1, .slice (some ⟨q, o, none⟩) n2 cap2] 33)) (.cells #[.int .i64 k, .slice ad n cap] 27)
    simpa using this
  have d0 : w1.cell? ⟨w.heap.size + 1, 0, none⟩ = some (.int .i64 k) := by rw [cell_of_row _ _ _ _ _ _ hx]; rfl
  have d1 : w1.cell? ⟨w.heap.size + 1, 1, none⟩ = some (.slice ad n cap) := by rw [cell_of_row _ _ _ _ _ _ hx]; rfl
  clear hin hb1 hk hA hx
  go_enter Tryz.func18, Tryz.ntmps18
  go_wp2
  subst hw1
  go_quiet ((go_at_call 35; exact (HR.out _).mono (fun e w' h => ⟨h.1, _, h.2⟩)))
  go_wp2_with fail
  refine (HA.out _ (below_drewN HB.out _)).mono ?_
  rintro e w2 ⟨rfl, hb2⟩
  have HB2 := hid (up_trans (below_drewN HB.out _) hb2)
  clear hb2
  go_wp2
  exact bodyPost_ret (v := .tuple #[.string ⟨#[]⟩, .int .i64 6]) (by simp [results, Tryz.results18, go_sem]) rfl ⟨rfl, HB2.out⟩
theorem toolong_any (g : Nat) (lv fv : Value) (ds : Int) (bs : List UInt8) (w : World) (h : WrR w g lv ds fv bs) : Calls Tryz.prog 39 #[.pointer (some ⟨g, 0, none⟩)] w fun e w' => e = .returned (.bool (decide (256 < bs.length))) ∧ w' = w := by
  obtain ⟨tv, h1, h2⟩ := h
  obtain ⟨ad, cap, rfl, _⟩ := own_shape h2
  have c0 : w.cell? ⟨g, 3, none⟩ = some (.slice ad bs.length cap) := by rw [cell_of_row _ _ _ _ _ _ h1]; rfl
  clear h1 h2
  generalize bs.length = n at *
  go_enter Tryz.func39, Tryz.ntmps39
  go_wp2
  go_ret
  exact ⟨ret_bool (by rw [decide_eq_decide]; omega), rfl⟩
theorem parts_snoc (ds : Int) (lex : List Entry) (fs : List Fld) (p : Part) : ∀ (xs : List Part), partsL ds lex fs (xs ++ [p]) = (partsL ds lex fs xs).bind fun a => (partL ds lex fs p).map fun b => a ++ b
  | [] => by cases h : partL ds lex fs p <;> simp [partsL, h]
  | x :: xs => by
    simp only [List.cons_append, partsL, parts_snoc ds lex fs p xs]
    cases partL ds lex fs x with
    | none => rfl
    | some a =>
      cases partsL ds lex fs xs with
      | none => rfl
      | some b =>
        cases partL ds lex fs p with
        | none => rfl
        | some c => simp
theorem parts_app (ds : Int) (lex : List Entry) (fs : List Fld) : ∀ (xs ys : List Part), partsL ds lex fs (xs ++ ys) = (partsL ds lex fs xs).bind fun a => (partsL ds lex fs ys).map fun b => a ++ b
  | [], ys => by simp [partsL]
  | x :: xs, ys => by
    simp only [List.cons_append, partsL, parts_app ds lex fs xs ys]
    cases partL ds lex fs x with
    | none => rfl
    | some a =>
      cases partsL ds lex fs xs with
      | none => rfl
      | some b =>
        cases partsL ds lex fs ys with
        | none => rfl
        | some c => simp
theorem part_at {xs : List Part} {t : Nat} (h : t < xs.length) : xs.take (t + 1) = xs.take t ++ [xs.getD t nilPart] := by
  rw [List.take_add_one, Part_at h]; rfl
theorem parts_fail {ds : Int} {lex : List Entry} {fs : List Fld} {xs : List Part} {t : Nat} (h : t < xs.length) (hp : partL ds lex fs (xs.getD t nilPart) = none) : partsL ds lex fs xs = none := by
  have e : xs = xs.take (t + 1) ++ xs.drop (t + 1) := (List.take_append_drop _ _).symm
  rw [e, parts_app, part_at h, parts_snoc, hp]
  cases partsL ds lex fs (xs.take t) <;> rfl
/-- The bytes that are written, as a string. -/
theorem text_of {w : World} {B : Nat} {v : Value} {bs : List UInt8} (h : w.ownsRow B 5 1 v bs.length (bytesV bs)) (hn : 0 < bs.length) : (convert 79 9 v).run Tryz.prog w = .ok (.string ⟨bs.toArray⟩) w := by
  obtain ⟨q, cap, rfl, _, hc, hcs⟩ := own_at h hn
  have := run_convert_bytes_back (P := Tryz.prog) w 79 9 5 ⟨q, 0, none⟩ cap bs Tryz.underlying79 Tryz.underlying5 Tryz.underlying9 (fun j hj => by
    rw [Addr.add_lit, Nat.zero_add, hcs j (.int .u8 ((bs[j]'hj).toNat : Int)) (by unfold bytesV; rw [List.getElem?_map, List.getElem?_eq_getElem hj]; rfl)])
  exact this

theorem own_under {w w' : World} {g B n size : Nat} {e : TypeId} {v : Value} {cs : List Value} (h : w.ownsRow B e size v n cs) (hb : Below g w w') (hl : ∀ k, v.ownBlock = some k → k < g) : w'.ownsRow B e size v n cs := by
  obtain ⟨h1, h2⟩ := h
  refine ⟨h1, ?_⟩
  rcases h2 with h2 | ⟨q, cap, cur, hv, h3, h4, h5⟩
  · exact .inl h2
  · exact .inr ⟨q, cap, cur, hv, h3, (hb.block q (hl q (by rw [hv]; rfl))).trans h4, h5⟩
theorem heldW_on {w0 W W' : World} {a b c d : Addr} {x y z u : Value} (hb : Below W.heap.size W W') (h : (W.cell? a = some x ∧ W.cell? b = some y ∧ W.cell? c = some z ∧ W.cell? d = some u) ∧ Hid (Below w0.heap.size w0 W)) : (W'.cell? a = some x ∧ W'.cell? b = some y ∧ W'.cell? c = some z ∧ W'.cell? d = some u) ∧ Hid (Below w0.heap.size w0 W') :=
  ⟨⟨(hb.cell (lt_of_cell h.1.1)).trans h.1.1, (hb.cell (lt_of_cell h.1.2.1)).trans h.1.2.1, (hb.cell (lt_of_cell h.1.2.2.1)).trans h.1.2.2.1, (hb.cell (lt_of_cell h.1.2.2.2)).trans h.1.2.2.2⟩, up_trans h.2.out hb⟩
theorem heldW_below {w0 W : World} {a b c d : Addr} {x y z u : Value} (h : (W.cell? a = some x ∧ W.cell? b = some y ∧ W.cell? c = some z ∧ W.cell? d = some u) ∧ Hid (Below w0.heap.size w0 W)) : Below w0.heap.size w0 W := h.2.out

/-- How Write ends at these parts. -/
def WRes (o : Option (List UInt8)) (e : Ending) : Prop := match o with
  | none => e = .returned (.tuple #[.string ⟨#[]⟩, .int .i64 7])
  | some T => if 256 < T.length then e = .returned (.tuple #[.string ⟨#[]⟩, .int .i64 6]) else e = .returned (.tuple #[.string ⟨T.toArray⟩, .int .i64 0])
set_option maxRecDepth 8000 in
set_option maxHeartbeats 2000000 in
/-- A value that is right, in a style of its kind. -/
theorem write_main (id : ByteArray) (pa di k : Int) (f : List Int) (lex : List Entry) (parts : List Part) (j q o : Nat) (ad0 ad1 ad adp : Option Addr) (n0 n1 n2 n np cap0 cap1 cap2 cap capp : Nat) (w : World) (hj : j < n2) (hm : n2 ≤ 1000000) (hk : w.cell? ⟨q, o + j * 2, none⟩ = some (.int .i64 k)) (hpc : w.cell? ⟨q, o + j * 2 + 1, none⟩ = some (.slice adp np capp)) (hnp : np = parts.length) (hps : PartsAt w (.slice adp np capp) parts)
    (hlx : EntriesAt w (.slice ad0 n0 cap0) lex) (htx : ∀ x ∈ lex, x.text.size ≤ 1000000) (hpg : ∀ p ∈ parts, PartG p) (hd0 : 0 ≤ di) (hd1 : di < 4) (hfit : Fits k f) (hv : Ac.VA w (.agg #[.int .i64 k, .slice ad n cap]) ⟨k, f⟩) (hT : TabR w)
    (hA : ∀ w', Below w.heap.size w w' → Calls Tryz.prog 36 #[.agg #[.int .i64 k, .slice ad n cap]] w' fun e w2 => e = .returned (.bool true) ∧ Below w'.heap.size w' w2) :
    Calls Tryz.prog 18 #[.agg #[.string id, .int .i64 pa, .int .i64 di, .slice ad0 n0 cap0, .slice ad1 n1 cap1, .slice (some ⟨q, o, none⟩) n2 cap2], .int .i64 (j : Int), .agg #[.int .i64 k, .slice ad n cap]] w fun e w' => WRes (partsL di lex (fieldsV k f) parts) e ∧ Below w.heap.size w w' := by
  have HR := hid (rwithin_any (j : Int) 0 ((n2 : Int) - 1))
  have hin : inB3 (j : Int) 0 ((n2 : Int) - 1) = true := by unfold inB3; simp; omega
  rw [hin] at HR
  have hj2 : (j : Int) < (n2 : Int) := by omega
  obtain ⟨w1, hw1⟩ : ∃ w1, w1 = (w.alloc (.cells #[.string id, .int .i64 pa, .int .i64 di, .slice ad0 n0 cap0, .slice ad1 n1 cap1, .slice (some ⟨q, o, none⟩) n2 cap2] 33)).alloc (.cells #[.int .i64 k, .slice ad n cap] 27) := ⟨_, rfl⟩
  have hb1 : Below w.heap.size w w1 := by rw [hw1]; exact ((Below.refl w.heap.size w).alloc (Nat.le_refl _) _).alloc (by simp) _
  have HB := hid hb1
  have c0 := (hb1.cell (p := ⟨q, o + j * 2, none⟩) (lt_of_cell hk)).trans hk
  have HA := hid hA
  have hne2 : (k != k) = false := by simp
  have hne3 : (k == k) = true := by simp
  have hx : w1.heap[w.heap.size + 1]? = some (.cells #[.int .i64 k, .slice ad n cap] 27) := by
    rw [hw1]
    have := row_new (w.alloc (.cells #[.string id, .int .i64 pa, .int .i64 di, .slice ad0 n0 cap0, .slice ad1 n1 cap1, .slice (some ⟨q, o, none⟩) n2 cap2] 33)) (.cells #[.int .i64 k, .slice ad n cap] 27)
    simpa using this
  have hx0 : w1.heap[w.heap.size]? = some (.cells #[.string id, .int .i64 pa, .int .i64 di, .slice ad0 n0 cap0, .slice ad1 n1 cap1, .slice (some ⟨q, o, none⟩) n2 cap2] 33) := by
    rw [hw1]
    exact ((up_alloc _ _).block w.heap.size (by simp)).trans (row_new w _)
  have cp := (hb1.cell (p := ⟨q, o + j * 2 + 1, none⟩) (lt_of_cell hpc)).trans hpc
  have d0 : w1.cell? ⟨w.heap.size + 1, 0, none⟩ = some (.int .i64 k) := by rw [cell_of_row _ _ _ _ _ _ hx]; rfl
  have d1 : w1.cell? ⟨w.heap.size + 1, 1, none⟩ = some (.slice ad n cap) := by rw [cell_of_row _ _ _ _ _ _ hx]; rfl
  have e2 : w1.cell? ⟨w.heap.size, 2, none⟩ = some (.int .i64 di) := by rw [cell_of_row _ _ _ _ _ _ hx0]; rfl
  have e3 : w1.cell? ⟨w.heap.size, 3, none⟩ = some (.slice ad0 n0 cap0) := by rw [cell_of_row _ _ _ _ _ _ hx0]; rfl
  have e5 : w1.cell? ⟨w.heap.size, 5, none⟩ = some (.slice (some ⟨q, o, none⟩) n2 cap2) := by rw [cell_of_row _ _ _ _ _ _ hx0]; rfl
  have HFO := hid (fun w' (hb : Below w.heap.size w w') => fieldsOf_any k f _ w' (hv.on hb) hfit (hT.on hb).num)
  have HOK := hid (fields_ok hfit)
  have HT := hid hT
  have HLX := hid hlx
  have HTX := hid htx
  have HPG := hid hpg
  have HPS := hid hps
  have HNP := hid hnp
  have hnpm : np ≤ 1000000 := by
    obtain ⟨_, _, _, hh⟩ := hps.shape
    omega
  have hw2 := hT.size
  generalize hfs : fieldsV k f = fs at *
  clear hin hb1 hk hA hx hx0 hpc hnp hps hlx htx hpg hfit hv hT hfs
  go_enter Tryz.func18, Tryz.ntmps18
  go_wp2
  subst hw1
  go_quiet ((go_at_call 35; exact (HR.out _).mono (fun e w' h => ⟨h.1, _, h.2⟩)))
  go_wp2_with fail
  refine (HA.out _ (below_drewN HB.out _)).mono ?_
  rintro e w2 ⟨rfl, hb2⟩
  have hbd := (below_drewN (Below.refl _ _) nq).trans hb2
  have HB2 := hid (up_trans (below_drewN HB.out _) hb2)
  have c0 := (hb2.cell (p := ⟨q, o + j * 2, none⟩) (lt_of_cell c0)).trans c0
  have cp := (hb2.cell (p := ⟨q, o + j * 2 + 1, none⟩) (lt_of_cell cp)).trans cp
  have d0 := (hb2.cell (p := ⟨w.heap.size + 1, 0, none⟩) (lt_of_cell d0)).trans d0
  have d1 := (hb2.cell (p := ⟨w.heap.size + 1, 1, none⟩) (lt_of_cell d1)).trans d1
  have e2 := (hb2.cell (p := ⟨w.heap.size, 2, none⟩) (lt_of_cell e2)).trans e2
  have e3 := (hb2.cell (p := ⟨w.heap.size, 3, none⟩) (lt_of_cell e3)).trans e3
  have e5 := (hb2.cell (p := ⟨w.heap.size, 5, none⟩) (lt_of_cell e5)).trans e5
  clear hb2 hbd HA HR
  go_wp2
  go_region_held (fun w' => (w'.cell? ⟨w.heap.size, 3, none⟩ = some (.slice ad0 n0 cap0) ∧ w'.cell? ⟨w.heap.size, 2, none⟩ = some (.int .i64 di) ∧ w'.cell? ⟨w.heap.size + 1, 0, none⟩ = some (.int .i64 k) ∧ w'.cell? ⟨w.heap.size + 1, 1, none⟩ = some (.slice ad n cap)) ∧ Hid (Below w2.heap.size w2 w')) (first | assumption | exact ⟨⟨e3, e2, d0, d1⟩, hid (Below.refl _ _).drew⟩ | exact heldW_on (by assumption) (by assumption) | exact heldW_on (up_alloc _ _) (by assumption)) (first | (refine (HFO.out _ (up_trans HB2.out (heldW_below (by assumption)))).mono ?_; rintro e w3 ⟨g3, cap3, rfl, ho, hb3⟩; have HO3 := hid ho; have HB3 := hid hb3; clear ho))
  have hb3' : Below w2.heap.size w2 w3 := (Below.refl w2.heap.size w2).drew.trans hb3
  obtain ⟨w4, hw4⟩ : ∃ w4, w4 = w3.alloc (.cells #[.slice ad0 n0 cap0, .int .i64 di, .slice (some ⟨g3, 0, none⟩) fs.length cap3, .slice none 0 0] 81) := ⟨_, rfl⟩
  have hb4 : Below w3.heap.size w3 w4 := by rw [hw4]; exact up_alloc _ _
  have hW4 : WrR w4 w3.heap.size (.slice ad0 n0 cap0) di (.slice (some ⟨g3, 0, none⟩) fs.length cap3) [] := ⟨.slice none 0 0, by rw [hw4]; exact row_new _ _, World.ownsRow_nil _ _ _ _⟩
  have hb24 := up_trans hb3' hb4
  have HB24 := hid hb24
  have HW4 := hid hW4
  have HO4 := hid (owns_below HO3.out.1 hb4)
  have HFL := hid HO3.out.2
  have HOG := hid HO3.out.1
  have HB04 := hid (up_trans HB2.out hb24)
  have e5 := (hb24.cell (p := ⟨w.heap.size, 5, none⟩) (lt_of_cell e5)).trans e5
  have cp := (hb24.cell (p := ⟨q, o + j * 2 + 1, none⟩) (lt_of_cell cp)).trans cp
  have hg2 : w2.heap.size ≤ w3.heap.size := hb3'.size
  have hgw : w.heap.size ≤ w3.heap.size := Nat.le_trans HB2.out.size hg2
  obtain ⟨g, hg⟩ : ∃ g, g = w3.heap.size := ⟨_, rfl⟩
  rw [← hg] at hW4 HW4 hg2 hgw ⊢
  have HG := hid hg
  clear hb3 hb3' hb4 hW4 hb24 c0 d0 d1 e2 e3 HO3 HB3 HB HFO
  rw [← hw4]
  clear hw4 hg
  go_wp2
  go_loopw [47] (fun v wr => ∃ (t : Nat) (T : List UInt8), t ≤ np ∧ v = .int .i64 t ∧ partsL di lex fs (parts.take t) = some T ∧ WrR wr g (.slice ad0 n0 cap0) di (.slice (some ⟨g3, 0, none⟩) fs.length cap3) (T.take 257) ∧ Below g w4 wr) (fun v _ => np - (intOf v).toNat)
  case atStart => exact ⟨0, [], by omega, rfl, rfl, HW4.out, Below.refl _ _⟩
  case round =>
    obtain ⟨t, T, ht, rfl, hT, hW, hb⟩ := hrel
    have hbw : Below w.heap.size w wr := HB04.out.trans (hb.mono hgw)
    have HBW := hid hbw
    by_cases hlt : t < np
    · have hlt2 : (t : Int) < (np : Int) := by omega
      obtain ⟨adq, capq, eq, _, _, hcq⟩ := HPS.out.on hbw
      obtain ⟨gp, op, e1, p0, p1, p2, p3, p4⟩ := hcq t (by rw [← HNP.out]; exact hlt)
      injection eq with eq ea eb
      subst eq
      clear ea eb
      have HPT := hid (part_at (show t < parts.length by rw [← HNP.out]; exact hlt))
      have HPGT := hid (HPG.out (parts.getD t nilPart) (by rw [List.getD_eq_getElem?_getD, List.getElem?_eq_getElem (by rw [← HNP.out]; exact hlt)]; exact List.getElem_mem _))
      have HPF := hid (fun h => parts_fail (ds := di) (lex := lex) (fs := fs) (show t < parts.length by rw [← HNP.out]; exact hlt) h)
      generalize parts.getD t nilPart = pp at *
      obtain ⟨kind, text, field, width, cls⟩ := pp
      dsimp only at *
      have hb5 := up_alloc wr (.cells #[.int .i64 kind, .string text, .int .i64 field, .int .i64 width, .int .i64 cls] 51)
      have hbg5 : Below g w4 (wr.alloc (.cells #[.int .i64 kind, .string text, .int .i64 field, .int .i64 width, .int .i64 cls] 51)) := hb.trans (hb5.mono (Nat.le_of_lt hW.lt))
      have hbw5 := up_trans hbw hb5
      have HPA := hid (part_any ⟨kind, text, field, width, cls⟩ lex fs g _ _ di (T.take 257) _ (hW.on hb5) (by rw [List.length_take]; omega) HPGT.out (B := w2.heap.size) ⟨own_under HO4.out hbg5 (fun k e => by have := (World.ownsRow.lt HOG.out k e).2; have := HG.out; omega), HFL.out⟩ HOK.out hd0 hd1 (HT.out.on hbw5).dig (by omega) (HLX.out.on hbw5) HTX.out)
      unfold partV at HPA
      dsimp only at HPA
      have HB5 := hid hbg5
      have HTT := hid hT
      subst e1
      clear hb hW hT hbw hcq hb5 hbg5 hbw5
      go_wp2_with fail
      refine HPA.out.mono ?_
      rintro e w6 ⟨hb6, hK6, hr⟩
      have HB6 := hid (HB5.out.trans hb6)
      cases hpl : partL di lex fs ⟨kind, text, field, width, cls⟩ with
      | none =>
        rw [hpl] at hr
        obtain rfl : e = .returned (.bool false) := hr
        have HNO := hid (HPF.out hpl)
        clear hb6 hK6 hpl HPA
        go_wp2
        refine bodyPost_ret (v := .tuple #[.string ⟨#[]⟩, .int .i64 7]) (by simp [results, Tryz.results18, go_sem]) rfl ⟨?_, HB04.out.trans (HB6.out.mono hgw)⟩
        rw [HNO.out]; rfl
      | some b =>
        rw [hpl] at hr
        obtain ⟨rfl, hW6⟩ := hr
        have HW6 := hid hW6
        have HNX : Hid (partsL di lex fs (parts.take (t + 1)) = some (T ++ b)) := hid (by rw [HPT.out, parts_snoc, HTT.out, hpl]; rfl)
        have HTK : Hid ((T.take 257 ++ b).take 257 = (T ++ b).take 257) := hid (by have := take_more [] T b 257; simpa using this)
        clear hb6 hK6 hpl hW6 HPA
        go_wp2
        go_roundw
        case rel => exact ⟨t + 1, T ++ b, by omega, by simp, HNX.out, by rw [← HTK.out]; exact HW6.out, HB6.out⟩
        case measure => simp [intOf]; omega
    · obtain rfl : t = np := by omega
      rw [HNP.out, List.take_of_length_le (Nat.le_refl _)] at hT
      have HTT := hid hT
      have HTL := hid (toolong_any g _ _ di _ wr hW)
      obtain ⟨tv, h1, h2⟩ := hW
      obtain ⟨adt, capt, et, _⟩ := own_shape h2
      have c3 : wr.cell? ⟨g, 3, none⟩ = some tv := by rw [cell_of_row _ _ _ _ _ _ h1]; rfl
      have hlen : (T.take 257).length = min 257 T.length := List.length_take
      have HOT := hid h2
      clear hT h1 h2 hb hbw
      by_cases hbig : 256 < T.length
      · have hd : decide (256 < (T.take 257).length) = true := by rw [decide_eq_true_eq, hlen]; omega
        rw [hd] at HTL
        clear hd hlen
        go_wp2_with fail
        refine HTL.out.mono ?_
        rintro e w6 ⟨rfl, rfl⟩
        go_wp2
        refine bodyPost_ret (v := .tuple #[.string ⟨#[]⟩, .int .i64 6]) (by simp [results, Tryz.results18, go_sem]) rfl ⟨?_, HBW.out⟩
        rw [HTT.out]
        unfold WRes
        dsimp only
        rw [if_pos hbig]
      · have hd : decide (256 < (T.take 257).length) = false := by rw [decide_eq_false_iff_not, hlen]; omega
        rw [hd] at HTL
        rw [List.take_of_length_le (show T.length ≤ 257 by omega)] at HOT et
        have hcv : (convert 79 9 tv).run Tryz.prog wr = .ok (.string ⟨T.toArray⟩) wr := by
          rw [List.take_of_length_le (show T.length ≤ 257 by omega)] at hlen
          by_cases h0 : T.length = 0
          · have hnil : T = [] := List.eq_nil_of_length_eq_zero h0
            subst hnil
            rw [et]
            cases adt with
            | none => exact run_convert_bytes_string wr 79 9 5 none 0 capt Tryz.underlying79 Tryz.underlying5 Tryz.underlying9
            | some a => exact run_convert_bytes_back (P := Tryz.prog) wr 79 9 5 a capt [] Tryz.underlying79 Tryz.underlying5 Tryz.underlying9 (fun j hj => by simp at hj)
          · exact text_of HOT.out (by omega)
        subst et
        generalize T.length = tl at hcv HOT c3
        clear hd hlen
        go_wp2_with fail
        refine HTL.out.mono ?_
        rintro e w6 ⟨rfl, rfl⟩
        go_wp2
        refine bodyPost_ret (v := .tuple #[.string ⟨T.toArray⟩, .int .i64 0]) (by simp [results, Tryz.results18, go_sem]) rfl ⟨?_, HBW.out⟩
        rw [HTT.out]
        unfold WRes
        dsimp only
        rw [if_neg hbig]
end Go.Proofs.YtannndpamhgknaaGreatDoor

/- What of a language render reads: its words and its styles; its rules are a value alone. -/
namespace Go.Proofs.YtannndpamhgknaaGreatDoor
open Go.RowKit Gr Bl

def LexAt (w : World) (y : Locale) (v0 v1 v2 : Value) : Prop := EntriesAt w v0 y.lex ∧ (∃ a n c, v1 = Value.slice a n c) ∧ StylesAt w v2 y.styles
theorem LexAt.of {w : World} {y : Locale} {v0 v1 v2 : Value} (h : LocaleAt w y v0 v1 v2) : LexAt w y v0 v1 v2 := by
  obtain ⟨a1, c1, e, _⟩ := h.2.1.shape
  exact ⟨h.1, ⟨_, _, _, e⟩, h.2.2⟩
theorem LexAt.on {w w' : World} {y : Locale} {v0 v1 v2 : Value} (h : LexAt w y v0 v1 v2) (hb : Below w.heap.size w w') : LexAt w' y v0 v1 v2 := ⟨h.1.on hb, h.2.1, h.2.2.on hb⟩
theorem LexAt.slices {w : World} {y : Locale} {u0 u1 u2 : Value} (h : LexAt w y u0 u1 u2) : ∃ (a0 : Option Addr) (n0 c0 : Nat) (a1 : Option Addr) (n1 c1 : Nat) (a2 : Option Addr) (n2 c2 : Nat), u0 = .slice a0 n0 c0 ∧ u1 = .slice a1 n1 c1 ∧ u2 = .slice a2 n2 c2 := by
  obtain ⟨⟨a0, c0, rfl, _⟩, ⟨a1, n1, c1, rfl⟩, ⟨a2, c2, rfl, _⟩⟩ := h
  exact ⟨_, _, _, _, _, _, _, _, _, rfl, rfl, rfl⟩

/-- A place made for a language that was not yet put there. -/
def Blank (w : World) (b : Nat) : Prop := ∃ (t : TypeId) (a3 a4 a5 : Option Addr) (n3 c3 n4 c4 n5 c5 : Nat), w.heap[b]? = some (.cells #[.string ⟨#[]⟩, .int .i64 0, .int .i64 0, .slice a3 n3 c3, .slice a4 n4 c4, .slice a5 n5 c5] t (0, 0))
theorem Blank.at {w : World} {b o : Nat} {v : Value} (h : Blank w b) (hc : w.cell? ⟨b, o, none⟩ = some v) : (o = 0 ∧ v = .string ⟨#[]⟩) ∨ ((o = 1 ∨ o = 2) ∧ v = .int .i64 0) ∨ (o ≠ 0 ∧ o ≠ 1 ∧ o ≠ 2 ∧ ∃ a n c, v = .slice a n c) := by
  obtain ⟨t, a3, a4, a5, n3, c3, n4, c4, n5, c5, hr⟩ := h
  have e : w.cell? ⟨b, o, none⟩ = (#[.string ⟨#[]⟩, .int .i64 0, .int .i64 0, .slice a3 n3 c3, .slice a4 n4 c4, .slice a5 n5 c5] : Array Value)[o]? := by
    unfold World.cell?; rw [hr]; rfl
  rw [e] at hc
  rcases (by omega : o = 0 ∨ o = 1 ∨ o = 2 ∨ o = 3 ∨ o = 4 ∨ o = 5 ∨ 6 ≤ o) with rfl | rfl | rfl | rfl | rfl | rfl | h6
  · left; exact ⟨rfl, by simpa using hc.symm⟩
  · right; left; exact ⟨.inl rfl, by simpa using hc.symm⟩
  · right; left; exact ⟨.inr rfl, by simpa using hc.symm⟩
  · right; right; exact ⟨by omega, by omega, by omega, _, _, _, by simpa using hc.symm⟩
  · right; right; exact ⟨by omega, by omega, by omega, _, _, _, by simpa using hc.symm⟩
  · right; right; exact ⟨by omega, by omega, by omega, _, _, _, by simpa using hc.symm⟩
  · rw [Array.getElem?_eq_none (by simpa using h6)] at hc
    cases hc
theorem Blank.entry {w : World} {b g o : Nat} {x : Entry} (h : Blank w b) (he : EntryIn w g o x) (hx : x.cls ≠ 0) : g ≠ b := by
  rintro rfl
  obtain ⟨h0, h1, _⟩ := he
  rcases h.at h0 with ⟨rfl, _⟩ | ⟨_, e⟩ | ⟨_, _, _, a, n, c, e⟩
  · rcases h.at h1 with ⟨e, _⟩ | ⟨_, e⟩ | ⟨_, e, _⟩
    · omega
    · injection e with _ e; exact hx e
    · omega
  · cases e
  · cases e
theorem Blank.style {w : World} {b g o : Nat} {x : Style} (h : Blank w b) (he : w.cell? ⟨g, o, none⟩ = some (.int .i64 x.kind)) (hx : x.kind ≠ 0) : g ≠ b := by
  rintro rfl
  rcases h.at he with ⟨_, e⟩ | ⟨_, e⟩ | ⟨_, _, _, a, n, c, e⟩
  · cases e
  · injection e with _ e; exact hx e
  · cases e
theorem Blank.part {w : World} {b g o : Nat} {x : Part} (h : Blank w b) (he : PartIn w g o x) : g ≠ b := by
  rintro rfl
  rcases h.at he.2.1 with ⟨e, _⟩ | ⟨_, e⟩ | ⟨_, _, _, a, n, c, e⟩
  · omega
  · cases e
  · cases e
def set6 (w : World) (b : Nat) (z0 z1 z2 z3 z4 z5 : Value) : World := (((((w.setCell ⟨b, 0, none⟩ z0).setCell ⟨b, 1, none⟩ z1).setCell ⟨b, 2, none⟩ z2).setCell ⟨b, 3, none⟩ z3).setCell ⟨b, 4, none⟩ z4).setCell ⟨b, 5, none⟩ z5
theorem set6_far {w : World} {b g : Nat} (h : g ≠ b) (o : Nat) (z0 z1 z2 z3 z4 z5 : Value) : (set6 w b z0 z1 z2 z3 z4 z5).cell? ⟨g, o, none⟩ = w.cell? ⟨g, o, none⟩ := by
  unfold set6
  have h' : b ≠ g := Ne.symm h
  rw [World.cell?_setCell_far _ _ _ _ h', World.cell?_setCell_far _ _ _ _ h', World.cell?_setCell_far _ _ _ _ h', World.cell?_setCell_far _ _ _ _ h', World.cell?_setCell_far _ _ _ _ h', World.cell?_setCell_far _ _ _ _ h']
theorem LexAt.set6 {w : World} {y : Locale} {v0 v1 v2 : Value} {b : Nat} (h : LexAt w y v0 v1 v2) (hb : Blank w b) (he : ∀ e ∈ y.lex, e.cls ≠ 0) (hs : ∀ s ∈ y.styles, s.kind ≠ 0) (z0 z1 z2 z3 z4 z5 : Value) : LexAt (set6 w b z0 z1 z2 z3 z4 z5) y v0 v1 v2 := by
  obtain ⟨⟨a0, c0, e0, l0, n0, h0⟩, h1, ⟨a2, c2, e2, l2, n2, h2⟩⟩ := h
  refine ⟨⟨a0, c0, e0, l0, n0, fun j hj => ?_⟩, h1, ⟨a2, c2, e2, l2, n2, fun j hj => ?_⟩⟩
  · obtain ⟨g, o, e, hi⟩ := h0 j hj
    have hg := hb.entry hi (he _ (by rw [List.getD_eq_getElem?_getD, List.getElem?_eq_getElem hj]; exact List.getElem_mem _))
    obtain ⟨k0, k1, k2⟩ := hi
    exact ⟨g, o, e, (set6_far hg _ ..).trans k0, (set6_far hg _ ..).trans k1, (set6_far hg _ ..).trans k2⟩
  · obtain ⟨g, o, e, vp, k0, k1, ⟨ap, cp, ep, lp, np, hp⟩⟩ := h2 j hj
    have hg := hb.style k0 (hs _ (by rw [List.getD_eq_getElem?_getD, List.getElem?_eq_getElem hj]; exact List.getElem_mem _))
    refine ⟨g, o, e, vp, (set6_far hg _ ..).trans k0, (set6_far hg _ ..).trans k1, ⟨ap, cp, ep, lp, np, fun i hi => ?_⟩⟩
    obtain ⟨q, oo, eq, hq⟩ := hp i hi
    have hg2 := hb.part hq
    obtain ⟨m0, m1, m2, m3, m4⟩ := hq
    exact ⟨q, oo, eq, (set6_far hg2 _ ..).trans m0, (set6_far hg2 _ ..).trans m1, (set6_far hg2 _ ..).trans m2, (set6_far hg2 _ ..).trans m3, (set6_far hg2 _ ..).trans m4⟩
end Go.Proofs.YtannndpamhgknaaGreatDoor

/- render.Write and render.Styles, of every language that lies in memory. -/
namespace Go.Proofs.YtannndpamhgknaaGreatDoor
open Go.RowKit Gr Bl

/-- What Write answers, as a value. -/
def writeV (r : List UInt8 × Int) : Value := .tuple #[.string ⟨r.1.toArray⟩, .int .i64 r.2]
theorem write_any (l : Locale) (v0 v1 v2 : Value) (i : Int) (x : Ac.Val) (vv : Value) (w : World) (hl : LexAt w l v0 v1 v2) (hG : LocG l) (hv : Ac.VA w vv x) (hT : TabR w) :
    Calls Tryz.prog 18 #[localeV l v0 v1 v2, .int .i64 i, vv] w fun e w' => e = .returned (writeV (writeL l.digits l.lex l.styles i x.kind x.f)) ∧ Below w.heap.size w w' := by
  obtain ⟨k, f⟩ := x
  obtain ⟨p, hp⟩ := hT.act
  have hA := fun w' (hb : Below w.heap.size w w') => Ac.right_any p ⟨k, f⟩ vv w' (hv.on hb) (hp.on hb)
  have hv0 := hv
  obtain ⟨fv, rfl, hf⟩ := hv
  obtain ⟨ad, cap, rfl, _⟩ := hf.shape
  dsimp only at *
  obtain ⟨id, pa, di, lex, rules, styles⟩ := l
  obtain ⟨h0, h1, h2⟩ := hl
  have hlx := h0
  obtain ⟨ad0, cap0, rfl, _⟩ := h0.shape
  obtain ⟨ad1, n1, cap1, rfl⟩ := h1
  have h2' := h2
  obtain ⟨ad2, cap2, rfl, hm2, _, hc2⟩ := h2
  obtain ⟨hd0, hd1, hgx, hgs⟩ := hG
  unfold localeV
  dsimp only at *
  by_cases ho : i < 0 ∨ (styles.length : Int) ≤ i
  · have e : writeL di lex styles i k f = ([], 7) := by unfold writeL; rw [if_pos ho]
    rw [e]
    exact write_out id pa di i k ad0 ad1 ad2 ad _ _ _ _ cap0 cap1 cap2 cap w ho hm2
  · obtain ⟨j, hj⟩ := Int.eq_ofNat_of_zero_le (show 0 ≤ i by omega)
    subst hj
    have hjl : j < styles.length := by omega
    obtain ⟨q, o, e1, vp, k0, k1, hps⟩ := hc2 j hjl
    subst e1
    have hmem : styles.getD j nilStyle ∈ styles := by rw [List.getD_eq_getElem?_getD, List.getElem?_eq_getElem hjl]; exact List.getElem_mem _
    have hpg := hgs _ hmem
    by_cases hk : (styles.getD j nilStyle).kind = k
    · rw [hk] at k0
      cases hr : Ac.rightB ⟨k, f⟩ with
      | false =>
        have e : writeL di lex styles j k f = ([], 6) := by
          unfold writeL
          rw [if_neg ho, show ((j : Int)).toNat = j from rfl, if_neg (by simpa using hk), if_pos hr]
        rw [e]
        refine write_wrong id pa di k j q o ad0 ad1 ad _ _ _ _ cap0 cap1 cap2 cap w hjl hm2 k0 (fun w' hb => ?_)
        have := hA w' hb
        rwa [hr] at this
      | true =>
        obtain ⟨adp, capp, rfl, _⟩ := hps.shape
        refine (write_main id pa di k f lex _ j q o ad0 ad1 ad adp _ _ _ _ _ cap0 cap1 cap2 cap capp w hjl hm2 k0 k1 rfl hps hlx hgx hpg hd0 hd1 (fits_of hr) hv0 hT (fun w' hb => ?_)).mono fun e w' h => ⟨?_, h.2⟩
        · have := hA w' hb
          rwa [hr] at this
        · have h1 := h.1
          unfold WRes at h1
          unfold writeL
          rw [if_neg ho, show ((j : Int)).toNat = j from rfl, if_neg (by simpa using hk), if_neg (by rw [hr]; decide)]
          cases hpp : partsL di lex (fieldsV k f) (styles.getD j nilStyle).parts with
          | none => rw [hpp] at h1; exact h1
          | some T =>
            rw [hpp] at h1
            dsimp only at h1 ⊢
            split
            · rename_i hb; rw [if_pos hb] at h1; exact h1
            · rename_i hb; rw [if_neg hb] at h1; exact h1
    · have e : writeL di lex styles j k f = ([], 7) := by
        unfold writeL
        rw [if_neg ho, show ((j : Int)).toNat = j from rfl, if_pos hk]
      rw [e]
      exact write_kind id pa di k _ j q o ad0 ad1 ad _ _ _ _ cap0 cap1 cap2 cap w hjl hm2 k0 hk
end Go.Proofs.YtannndpamhgknaaGreatDoor
