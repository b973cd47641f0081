/- All, Word, Taken, Chain, Right, Cells, RdM: these texts, one behind the other. -/
import Derived.Test.YtohgaknojkdohaaGreatDoorPart
import Derived.Test.YtohgaknojkdohaaGreatDoorFoText
import Derived.Laws.IdiomStrings
import Derived.Deep.QuietTactic
import Derived.Test.YtohgaknojkdohaaGreatDoorGrGrow4
import Derived.Test.YtohgaknojkdohaaGreatDoorGrGram
import Derived.Test.YtohgaknojkdohaaGreatDoorGrRowN
/- What package blob's 'all' answers of rows of parts, entries, styles, bytes, and of what they hold. -/
namespace Go.Proofs.YtohgaknojkdohaaGreatDoor
open Go.RowKit Gr

/-- The two tables, as they were laid. -/
def Tabs (w : World) : Prop := Gr.Tab w ∧ Fo.Tab w
theorem Tabs.on {w w' : World} (h : Tabs w) (hb : Below w.heap.size w w') : Tabs w' := ⟨h.1.on hb, h.2.on hb⟩

theorem all_Part (xs : List Part) (v : Value) (w : World) (h : PartsAt w v xs) : Calls Tryz.prog 112 #[v, .func (.func 113) #[] #[]] w fun e w' => e = .returned (.bool (xs.all partOk)) ∧ Below w.heap.size w w' := by
  obtain ⟨ad, cap, rfl, hmx, _, hc⟩ := h
  have HC := hid hc
  clear hc
  generalize hlen : xs.length = n at *
  have HL := hid hlen
  clear hlen
  go_enter Tryz.func112, Tryz.ntmps112
  go_wp2
  go_loopw [9] (fun v wr => ∃ j : Nat, j ≤ n ∧ v = .int .i64 j ∧ Hid ((xs.take j).all partOk = true) ∧ Below w.heap.size w wr) (fun v _ => n - (intOf v).toNat)
  case atStart => exact ⟨0, by omega, rfl, hid (by simp), Below.refl _ _⟩
  case round =>
    obtain ⟨j, hj, rfl, ht, hb⟩ := hrel
    by_cases hlt : j < n
    · obtain ⟨g, o, rfl, hcj⟩ := HC.out j hlt
      have HX : Hid (xs[j]? = some (xs.getD j nilPart)) := hid (Part_at (by rw [HL.out]; exact hlt))
      generalize xs.getD j nilPart = x at *
      have hcj2 := hcj.on hb
      obtain ⟨c0, c1, c2, c3, c4⟩ := hcj2
      have HB := hid hb
      clear hb hcj
      have hlt2 : (j : Int) < (n : Int) := by omega
      go_wp2_with fail
      refine (isPart_any x _).mono ?_
      rintro e w1 ⟨rfl, bel⟩
      have HB2 := hid (up_trans HB.out (up_trans (up_alloc _ _) bel))
      clear bel
      cases hp : partOk x with
      | true =>
        go_wp2
        go_roundw
        case rel => exact ⟨j + 1, by omega, by simp, hid (by rw [List.take_add_one, HX.out, List.all_append, ht.out]; simp [hp]), HB2.out⟩
        case measure => simp [intOf]; omega
      | false =>
        go_wp2
        go_ret
        refine ⟨ret_bool ?_, HB2.out⟩
        refine (Bool.eq_false_iff.2 fun hh => ?_).symm
        have := List.all_eq_true.1 hh x (List.mem_of_getElem? HX.out)
        rw [hp] at this
        cases this
    · obtain rfl : j = n := by omega
      have HB := hid hb
      clear hb
      go_wp2
      go_ret
      refine ⟨ret_bool ?_, HB.out⟩
      rw [← ht.out, ← HL.out, List.take_length]

theorem isStyle_any (x : Style) (v0 : Value) (w : World) (h : PartsAt w v0 x.parts) : Calls Tryz.prog 72 #[styleV x v0] w fun e w' => e = .returned (.bool (styleOk x)) ∧ Below w.heap.size w w' := by
  obtain ⟨kind, parts⟩ := x
  have HP := hid h
  obtain ⟨ad, cap, rfl, hm⟩ := h.shape
  unfold styleV styleOk
  dsimp only at *
  have H1 := hid (fun w => bwithin_any kind 4 10 w)
  have H2 := hid (fun w => bwithin_any (parts.length : Int) 1 12 w)
  have H3 := hid (fun w' (bel : Below w.heap.size w w') => all_Part parts _ w' (HP.out.on bel))
  generalize inB kind 4 10 = b1 at *
  generalize inB (parts.length : Int) 1 12 = b2 at *
  generalize parts.all partOk = b3 at *
  clear h HP
  generalize parts.length = n at *
  go_enter Tryz.func72, Tryz.ntmps72
  go_wp2_with fail
  refine (H1.out _).mono ?_
  rintro e w1 ⟨rfl, hw⟩
  obtain rfl := hw.symm
  cases b1 with
  | false =>
    go_wp2
    go_ret
    exact ⟨rfl, up_alloc _ _⟩
  | true =>
    go_wp2_with fail
    refine (H2.out _).mono ?_
    rintro e w2 ⟨rfl, hw2⟩
    obtain rfl := hw2.symm
    cases b2 with
    | false =>
      go_wp2
      go_ret
      exact ⟨rfl, up_alloc _ _⟩
    | true =>
      go_wp2_with fail
      refine (H3.out _ (up_alloc _ _)).mono ?_
      rintro e w3 ⟨rfl, bel⟩
      have HB := hid (up_trans (up_alloc _ _) bel)
      clear bel
      go_wp2
      go_ret
      exact ⟨ret_bool (by cases b3 <;> rfl), HB.out⟩

theorem all_Style (xs : List Style) (v : Value) (w : World) (h : StylesAt w v xs) : Calls Tryz.prog 71 #[v, .func (.func 72) #[] #[]] w fun e w' => e = .returned (.bool (xs.all styleOk)) ∧ Below w.heap.size w w' := by
  obtain ⟨ad, cap, rfl, hmx, _, hc⟩ := h
  have HC := hid hc
  clear hc
  generalize hlen : xs.length = n at *
  have HL := hid hlen
  clear hlen
  go_enter Tryz.func71, Tryz.ntmps71
  go_wp2
  go_loopw [9] (fun v wr => ∃ j : Nat, j ≤ n ∧ v = .int .i64 j ∧ Hid ((xs.take j).all styleOk = true) ∧ Below w.heap.size w wr) (fun v _ => n - (intOf v).toNat)
  case atStart => exact ⟨0, by omega, rfl, hid (by simp), Below.refl _ _⟩
  case round =>
    obtain ⟨j, hj, rfl, ht, hb⟩ := hrel
    by_cases hlt : j < n
    · obtain ⟨g, o, rfl, hcj⟩ := HC.out j hlt
      have HX : Hid (xs[j]? = some (xs.getD j nilStyle)) := hid (Style_at (by rw [HL.out]; exact hlt))
      generalize xs.getD j nilStyle = x at *
      have hcj2 := hcj.on hb
      obtain ⟨v0, c0, c1, q0⟩ := hcj2
      have HQ0 := hid q0
      obtain ⟨ad0, cap0, rfl, hm0⟩ := q0.shape
      clear q0
      have HB := hid hb
      clear hb hcj
      have hlt2 : (j : Int) < (n : Int) := by omega
      go_wp2_with fail
      refine (isStyle_any x _ _ (HQ0.out.on (up_alloc _ _))).mono ?_
      rintro e w1 ⟨rfl, bel⟩
      have HB2 := hid (up_trans HB.out (up_trans (up_alloc _ _) bel))
      clear bel
      cases hp : styleOk x with
      | true =>
        go_wp2
        go_roundw
        case rel => exact ⟨j + 1, by omega, by simp, hid (by rw [List.take_add_one, HX.out, List.all_append, ht.out]; simp [hp]), HB2.out⟩
        case measure => simp [intOf]; omega
      | false =>
        go_wp2
        go_ret
        refine ⟨ret_bool ?_, HB2.out⟩
        refine (Bool.eq_false_iff.2 fun hh => ?_).symm
        have := List.all_eq_true.1 hh x (List.mem_of_getElem? HX.out)
        rw [hp] at this
        cases this
    · obtain rfl : j = n := by omega
      have HB := hid hb
      clear hb
      go_wp2
      go_ret
      refine ⟨ret_bool ?_, HB.out⟩
      rw [← ht.out, ← HL.out, List.take_length]

end Go.Proofs.YtohgaknojkdohaaGreatDoor

/- What package blob answers of words, entries, names. -/
namespace Go.Proofs.YtohgaknojkdohaaGreatDoor
open Go.RowKit Gr

/-- A string's first and last byte. -/
theorem ends_of (s : ByteArray) (h : 1 ≤ s.size) : ∃ x y : Nat, (∀ h, (s[0]'h).toNat = x) ∧ (∀ h, (s[s.size - 1]'h).toNat = y) ∧ decide (s.data.toList.head? ≠ some 32) = decide (x ≠ 32) ∧ decide (s.data.toList.getLast? ≠ some 32) = decide (y ≠ 32) := by
  have u : ∀ b : UInt8, (b.toNat = 32 ↔ b = 32) := fun b => ⟨fun h => UInt8.toNat_inj.1 h, fun h => by rw [h]; rfl⟩
  refine ⟨(s[0]'(by omega)).toNat, (s[s.size - 1]'(by omega)).toNat, fun _ => rfl, fun _ => rfl, ?_, ?_⟩
  · rw [List.head?_eq_getElem?, List.getElem?_eq_getElem (by simp; omega)]
    refine decide_eq_decide.2 (not_congr ?_)
    rw [u, Option.some.injEq]
    rfl
  · rw [List.getLast?_eq_getElem?, List.getElem?_eq_getElem (by simp; omega)]
    refine decide_eq_decide.2 (not_congr ?_)
    rw [u, Option.some.injEq]
    rfl
theorem isWord_any (s : ByteArray) (w : World) (hT : Tabs w) : Calls Tryz.prog 110 #[.string s] w fun e w' => e = .returned (.bool (wordOk s)) ∧ Below w.heap.size w w' := by
  have H1 := hid (fun w => bwithin_any (s.size : Int) 1 20 w)
  unfold wordOk
  by_cases h1 : 1 ≤ s.size ∧ s.size ≤ 20
  · have e1 : inB (s.size : Int) 1 20 = true := inB_true (by omega)
    rw [e1] at H1 ⊢
    have H2 := hid (Fo.text_walk s w (by omega) hT.2)
    obtain ⟨x, y, hx, hy, hx1, hy1⟩ := ends_of s h1.1
    have ht : (decide (Fo.textOf s.data.toList = s.data.toList)) = decide ((⟨(Fo.textOf s.data.toList).toArray⟩ : ByteArray) = s) := decide_eq_decide.2 ⟨fun h => by rw [h], fun h => by
      have := congrArg (fun b : ByteArray => b.data.toList) h
      simpa using this⟩
    rw [ht, hx1, hy1]
    clear hx1 hy1 ht e1 hT
    generalize (⟨(Fo.textOf s.data.toList).toArray⟩ : ByteArray) = t at *
    have hi1 : 0 < s.size := h1.1
    have hi2 : s.size - 1 < s.size := by omega
    have hi3 : ((s.size : Int) - 1).toNat = s.size - 1 := by omega
    have hi4 : (0 : Int) ≤ (s.size : Int) - 1 := by omega
    have hi5 : (s.size : Int) - 1 < (s.size : Int) := by omega
    go_enter Tryz.func110, Tryz.ntmps110
    go_wp2_with fail
    refine (H1.out _).mono ?_
    rintro e w1 ⟨rfl, hw⟩
    obtain rfl := hw.symm
    go_wp2_with fail
    refine H2.out.mono ?_
    rintro e w2 ⟨rfl, bel⟩
    have HB := hid bel
    clear bel H2 H1
    by_cases q1 : t = s
    · subst q1
      by_cases q2 : x = 32
      · subst q2
        go_wp2
        all_goals
          go_ret
          exact ⟨ret_bool (by simp_all), HB.out⟩
      · have q5 : ¬ (x : Int) = 32 := by omega
        by_cases q3 : y = 32
        · subst q3
          go_wp2
          all_goals
            go_ret
            exact ⟨ret_bool (by simp_all), HB.out⟩
        · have q6 : ¬ (y : Int) = 32 := by omega
          go_wp2
          all_goals
            go_ret
            exact ⟨ret_bool (by simp_all), HB.out⟩
    · have q4 := toList_inj q1
      go_wp2
      all_goals
        go_ret
        exact ⟨ret_bool (by simp_all), HB.out⟩
  · have e1 : inB (s.size : Int) 1 20 = false := inB_false (by omega)
    rw [e1] at H1 ⊢
    go_enter Tryz.func110, Tryz.ntmps110
    go_wp2_with fail
    refine (H1.out _).mono ?_
    rintro e w1 ⟨rfl, hw⟩
    obtain rfl := hw.symm
    go_wp2
    go_ret
    exact ⟨rfl, Below.refl _ _⟩

theorem isEntry_any (x : Entry) (w : World) (hT : Tabs w) : Calls Tryz.prog 70 #[entryV x] w fun e w' => e = .returned (.bool (entryOk x)) ∧ Below w.heap.size w w' := by
  obtain ⟨text, cls, val⟩ := x
  unfold entryV entryOk
  dsimp only
  have H1 := hid (fun w (hT : Tabs w) => isWord_any text w hT)
  have H2 := hid (isClass_any cls)
  have H3 := hid (fun w => bwithin_any val (-1000000000) 1000000000 w)
  have HT := hid hT
  generalize wordOk text = b1 at *
  generalize clsOk cls = b2 at *
  generalize inB val (-1000000000) 1000000000 = b3 at *
  clear hT
  go_enter Tryz.func70, Tryz.ntmps70
  go_wp2_with fail
  refine (H1.out _ (HT.out.on (up_alloc _ _))).mono ?_
  rintro e w1 ⟨rfl, bel⟩
  have HB := hid (up_trans (up_alloc _ _) bel)
  have k1 := (bel.cell (p := ⟨w.heap.size, 1, none⟩) (by simp)).trans (new_cell w #[.string text, .int .i64 cls, .int .i64 val] 46 1)
  have k2 := (bel.cell (p := ⟨w.heap.size, 2, none⟩) (by simp)).trans (new_cell w #[.string text, .int .i64 cls, .int .i64 val] 46 2)
  simp only [List.getElem?_toArray, List.getElem?_cons_succ, List.getElem?_cons_zero] at k1 k2
  clear bel
  cases b1 with
  | false =>
    go_wp2
    go_ret
    exact ⟨rfl, HB.out⟩
  | true =>
    go_wp2_with fail
    refine (H2.out _).mono ?_
    rintro e w2 ⟨rfl, hw2⟩
    obtain rfl := hw2.symm
    cases b2 with
    | false =>
      go_wp2
      go_ret
      exact ⟨rfl, HB.out⟩
    | true =>
      go_wp2_with fail
      refine (H3.out _).mono ?_
      rintro e w3 ⟨rfl, hw3⟩
      obtain rfl := hw3.symm
      go_wp2
      go_ret
      exact ⟨ret_bool (by cases b3 <;> rfl), HB.out⟩

theorem all_Entry (xs : List Entry) (v : Value) (w : World) (h : EntriesAt w v xs) (hT : Tabs w) : Calls Tryz.prog 69 #[v, .func (.func 70) #[] #[]] w fun e w' => e = .returned (.bool (xs.all entryOk)) ∧ Below w.heap.size w w' := by
  obtain ⟨ad, cap, rfl, hmx, _, hc⟩ := h
  have HC := hid hc
  have HT := hid hT
  clear hc hT
  generalize hlen : xs.length = n at *
  have HL := hid hlen
  clear hlen
  go_enter Tryz.func69, Tryz.ntmps69
  go_wp2
  go_loopw [9] (fun v wr => ∃ j : Nat, j ≤ n ∧ v = .int .i64 j ∧ Hid ((xs.take j).all entryOk = true) ∧ Below w.heap.size w wr) (fun v _ => n - (intOf v).toNat)
  case atStart => exact ⟨0, by omega, rfl, hid (by simp), Below.refl _ _⟩
  case round =>
    obtain ⟨j, hj, rfl, ht, hb⟩ := hrel
    by_cases hlt : j < n
    · obtain ⟨g, o, rfl, hcj⟩ := HC.out j hlt
      have HX : Hid (xs[j]? = some (xs.getD j nilEntry)) := hid (Entry_at (by rw [HL.out]; exact hlt))
      generalize xs.getD j nilEntry = x at *
      have hcj2 := hcj.on hb
      obtain ⟨c0, c1, c2⟩ := hcj2
      have HB := hid hb
      clear hb hcj
      have hlt2 : (j : Int) < (n : Int) := by omega
      go_wp2_with fail
      refine (isEntry_any x _ (HT.out.on (up_trans HB.out (up_alloc _ _)))).mono ?_
      rintro e w1 ⟨rfl, bel⟩
      have HB2 := hid (up_trans HB.out (up_trans (up_alloc _ _) bel))
      clear bel
      cases hp : entryOk x with
      | true =>
        go_wp2
        go_roundw
        case rel => exact ⟨j + 1, by omega, by simp, hid (by rw [List.take_add_one, HX.out, List.all_append, ht.out]; simp [hp]), HB2.out⟩
        case measure => simp [intOf]; omega
      | false =>
        go_wp2
        go_ret
        refine ⟨ret_bool ?_, HB2.out⟩
        refine (Bool.eq_false_iff.2 fun hh => ?_).symm
        have := List.all_eq_true.1 hh x (List.mem_of_getElem? HX.out)
        rw [hp] at this
        cases this
    · obtain rfl : j = n := by omega
      have HB := hid hb
      clear hb
      go_wp2
      go_ret
      refine ⟨ret_bool ?_, HB.out⟩
      rw [← ht.out, ← HL.out, List.take_length]


/-- A slice of bytes, in numbers. -/
def Bytes (w : World) (v : Value) (xs : List Int) : Prop :=
  ∃ (ad : Option Addr) (cap : Nat), v = .slice ad xs.length cap ∧ xs.length ≤ maxLen ∧ ∀ j, j < xs.length → ∃ a, ad = some a ∧ w.cell? (a.add j) = some (.int .u8 (xs.getD j 0))
theorem Bytes.on {w w' : World} {v : Value} {xs : List Int} (h : Bytes w v xs) (hb : Below w.heap.size w w') : Bytes w' v xs := by
  obtain ⟨ad, cap, h1, h0, h2⟩ := h
  refine ⟨ad, cap, h1, h0, fun j hj => ?_⟩
  obtain ⟨a, h3, h4⟩ := h2 j hj
  exact ⟨a, h3, (hb.cell (lt_of_cell h4)).trans h4⟩
theorem all_byte (xs : List Int) (v : Value) (w : World) (h : Bytes w v xs) : Calls Tryz.prog 106 #[v, .func (.func 107) #[] #[]] w fun e w' => e = .returned (.bool (xs.all idSign)) ∧ Below w.heap.size w w' := by
  obtain ⟨ad, cap, rfl, hmx, hc⟩ := h
  have HC := hid hc
  have HP := hid (fun n w => idSign_any n w)
  have HM := hid hmx
  unfold maxLen at hmx
  clear hc
  generalize hlen : xs.length = n at *
  have HL := hid hlen
  clear hlen
  go_enter Tryz.func106, Tryz.ntmps106
  go_wp2
  go_loopw [9] (fun v wr => ∃ j : Nat, j ≤ n ∧ v = .int .i64 j ∧ Hid ((xs.take j).all idSign = true) ∧ Below w.heap.size w wr) (fun v _ => n - (intOf v).toNat)
  case atStart => exact ⟨0, by omega, rfl, hid (by simp), Below.refl _ _⟩
  case round =>
    obtain ⟨j, hj, rfl, ht, hb⟩ := hrel
    by_cases hlt : j < n
    · obtain ⟨a, rfl, hcj⟩ := HC.out j hlt
      have hcj2 := (hb.cell (lt_of_cell hcj)).trans hcj
      have HX : Hid (xs[j]? = some (xs.getD j 0)) := hid (getD_at (by rw [HL.out]; exact hlt))
      generalize xs.getD j 0 = y at *
      have HB := hid hb
      clear hb hcj
      have hlt2 : (j : Int) < (n : Int) := by omega
      go_wp2_with fail
      refine (HP.out y _).mono ?_
      rintro e w1 ⟨rfl, rfl⟩
      cases hp : idSign y with
      | true =>
        go_wp2
        go_roundw
        case rel => exact ⟨j + 1, by omega, by simp, hid (by rw [List.take_add_one, HX.out, List.all_append, ht.out]; simp [hp]), HB.out⟩
        case measure => simp [intOf]; omega
      | false =>
        go_wp2
        go_ret
        refine ⟨ret_bool ?_, HB.out⟩
        refine (Bool.eq_false_iff.2 fun hh => ?_).symm
        have := List.all_eq_true.1 hh y (List.mem_of_getElem? HX.out)
        rw [hp] at this
        cases this
    · obtain rfl : j = n := by omega
      have HB := hid hb
      clear hb
      go_wp2
      go_ret
      refine ⟨ret_bool ?_, HB.out⟩
      rw [← ht.out, ← HL.out, List.take_length]

/-- A string's bytes, in numbers. -/
def nums (s : ByteArray) : List Int := s.data.toList.map fun b => (b.toNat : Int)
theorem nums_length (s : ByteArray) : (nums s).length = s.size := by simp [nums]
theorem nums_all (s : ByteArray) : (nums s).all idSign = s.data.toList.all fun b => idSign (b.toNat : Int) := by simp [nums, List.all_map, Function.comp_def]
theorem conv_bytes (s : ByteArray) (w : World) (hs : s.size ≤ 100000000) : ∃ cap W2, (convert 9 28 (.string s)).run Tryz.prog w = .ok (.slice (some ⟨w.heap.size, 0, none⟩) s.size cap) W2 ∧ Bytes W2 (.slice (some ⟨w.heap.size, 0, none⟩) s.size cap) (nums s) ∧ Below w.heap.size w W2 := by
  refine ⟨_, _, run_bytes_of_string w 9 28 5 s Tryz.underlying9 Tryz.underlying28 Tryz.underlying5, ⟨some ⟨w.heap.size, 0, none⟩, _, by rw [nums_length], by rw [nums_length]; unfold maxLen; omega, fun j hj => ⟨_, rfl, ?_⟩⟩, ((Below.refl _ _).drew).alloc (by simp) _⟩
  rw [nums_length] at hj
  rw [Addr.add_lit, Nat.zero_add]
  have hr := cell_of_row (w.drew.alloc (.cells (bytesRow s (grownCap w s.size 0 5)) 5 ((bytesRow s (grownCap w s.size 0 5)).size, (bytesRow s (grownCap w s.size 0 5)).size + 1))) w.heap.size j _ 5 _ (row_new w.drew _)
  rw [hr, bytesRow_at s _ j hj, List.getD_eq_getElem?_getD]
  simp only [nums, List.getElem?_map]
  rw [List.getElem?_eq_getElem (show j < s.data.toList.length from hj)]
  rfl
theorem isId_any (s : ByteArray) (w : World) : Calls Tryz.prog 66 #[.string s] w fun e w' => e = .returned (.bool (idOk s)) ∧ Below w.heap.size w w' := by
  have H1 := hid (fun w => bwithin_any (s.size : Int) 1 12 w)
  unfold idOk
  by_cases h1 : 1 ≤ s.size ∧ s.size ≤ 12
  · rw [inB_true (show (1 : Int) ≤ (s.size : Int) ∧ (s.size : Int) ≤ 12 by omega)] at H1 ⊢
    obtain ⟨cap, W2, hcv, hb2, hbel⟩ := conv_bytes s w (by omega)
    have H2 := hid (all_byte _ _ W2 hb2)
    rw [nums_all] at H2
    have HB := hid hbel
    clear hb2 hbel
    generalize (s.data.toList.all fun b => idSign (b.toNat : Int)) = b2 at *
    go_enter Tryz.func66, Tryz.ntmps66
    go_wp2_with fail
    refine (H1.out _).mono ?_
    rintro e w1 ⟨rfl, hw⟩
    obtain rfl := hw.symm
    go_wp2_with fail
    refine H2.out.mono ?_
    rintro e w3 ⟨rfl, bel⟩
    have HB3 := hid (up_trans HB.out bel)
    clear bel
    go_wp2
    go_ret
    exact ⟨ret_bool (by cases b2 <;> rfl), HB3.out⟩
  · rw [inB_false (show ¬ ((1 : Int) ≤ (s.size : Int) ∧ (s.size : Int) ≤ 12) by omega)] at H1 ⊢
    go_enter Tryz.func66, Tryz.ntmps66
    go_wp2_with fail
    refine (H1.out _).mono ?_
    rintro e w1 ⟨rfl, hw⟩
    obtain rfl := hw.symm
    go_wp2
    go_ret
    exact ⟨rfl, Below.refl _ _⟩

end Go.Proofs.YtohgaknojkdohaaGreatDoor

/- Whether a locale's name is taken by one ahead of it. -/
namespace Go.Proofs.YtohgaknojkdohaaGreatDoor
open Go.RowKit Gr

theorem taken1_any (x y : Locale) (v0 v1 v2 : Value) (gl ga g o n cap i : Nat) (w : World) (hgl : w.cell? ⟨gl, 0, none⟩ = some (.slice (some ⟨g, o, none⟩) n cap)) (hga : w.cell? ⟨ga, 0, none⟩ = some (.int .i64 i)) (hi : i < n) (_ : n ≤ 1000000) (hy : w.cell? ⟨g, o + i * 6, none⟩ = some (.string y.id)) :
    Calls Tryz.prog 109 #[localeV x v0 v1 v2, .pointer (some ⟨gl, 0, none⟩), .pointer (some ⟨ga, 0, none⟩)] w fun e w' => e = .returned (.bool (decide (x.id = y.id))) ∧ Below w.heap.size w w' := by
  unfold localeV
  have k1 := lt_of_cell hgl
  have k2 := lt_of_cell hga
  have k3 := lt_of_cell hy
  dsimp only at k1 k2 k3
  have hi2 : (i : Int) < (n : Int) := by omega
  have e1 : (w.alloc (.cells #[.string x.id, .int .i64 x.parent, .int .i64 x.digits, v0, v1, v2] 44)).cell? ⟨w.heap.size, 0, none⟩ = some (.string x.id) := by rw [new_cell]; rfl
  have e2 := ((up_alloc w (.cells #[.string x.id, .int .i64 x.parent, .int .i64 x.digits, v0, v1, v2] 44)).cell (p := ⟨gl, 0, none⟩) k1).trans hgl
  have e3 := ((up_alloc w (.cells #[.string x.id, .int .i64 x.parent, .int .i64 x.digits, v0, v1, v2] 44)).cell (p := ⟨ga, 0, none⟩) k2).trans hga
  have e4 := ((up_alloc w (.cells #[.string x.id, .int .i64 x.parent, .int .i64 x.digits, v0, v1, v2] 44)).cell (p := ⟨g, o + i * 6, none⟩) k3).trans hy
  have HB := hid (up_alloc w (.cells #[.string x.id, .int .i64 x.parent, .int .i64 x.digits, v0, v1, v2] 44))
  go_enter Tryz.func109, Tryz.ntmps109
  go_wp2
  by_cases q : x.id = y.id
  · go_quiet (fail)
    all_goals
      go_wp2
      go_ret
      exact ⟨ret_bool (by simp [q]), below_drewN HB.out _⟩
  · have q2 := toList_inj q
    go_quiet (fail)
    all_goals
      go_wp2
      go_ret
      exact ⟨ret_bool (by simp [q, q2]), below_drewN HB.out _⟩
theorem index_taken (gl ga : Nat) (lv : Value) (i : Nat) (ls : List Locale) (ts : List Locale) (v : Value) (w : World) (hgl : w.cell? ⟨gl, 0, none⟩ = some lv) (hga : w.cell? ⟨ga, 0, none⟩ = some (.int .i64 i)) (hl : LocalesAt w lv ls) (hi : i < ls.length) (hv : LocalesAt w v ts) :
    Calls Tryz.prog 136 #[v, .func (.func 109) #[] #[.pointer (some ⟨gl, 0, none⟩), .pointer (some ⟨ga, 0, none⟩)]] w fun e w' => ∃ k : Int, e = .returned (.int .i64 k) ∧ (0 ≤ k ↔ (ts.any fun x => decide (x.id = (ls.getD i nilLocale).id)) = true) ∧ Below w.heap.size w w' := by
  obtain ⟨ad, cap, rfl, hmx, _, hc⟩ := hv
  have HC := hid hc
  have H := hid hl
  clear hc hl
  generalize hlen : ts.length = n at *
  have HL := hid hlen
  clear hlen
  go_enter Tryz.func136, Tryz.ntmps136
  go_wp2
  go_loopw [8] (fun v wr => ∃ j : Nat, j ≤ n ∧ v = .int .i64 j ∧ Hid ((ts.take j).any (fun x => decide (x.id = (ls.getD i nilLocale).id)) = false) ∧ Below w.heap.size w wr) (fun v _ => n - (intOf v).toNat)
  case atStart => exact ⟨0, by omega, rfl, hid (by simp), Below.refl _ _⟩
  case round =>
    obtain ⟨j, hj, rfl, ht, hb⟩ := hrel
    by_cases hlt : j < n
    · obtain ⟨g, o, rfl, hcj⟩ := HC.out j hlt
      have HX : Hid (ts[j]? = some (ts.getD j nilLocale)) := hid (Locale_at (by rw [HL.out]; exact hlt))
      generalize ts.getD j nilLocale = x at *
      obtain ⟨v0, v1, v2, c0, c1, c2, c3, c4, c5, q0, q1, q2⟩ := hcj.on hb
      obtain ⟨ad0, cap0, rfl, hm0⟩ := q0.shape
      obtain ⟨ad1, cap1, rfl, hm1⟩ := q1.shape
      obtain ⟨ad2, cap2, rfl, hm2⟩ := q2.shape
      have HB := hid hb
      clear hb hcj q0 q1 q2
      have hlt2 : (j : Int) < (n : Int) := by omega
      have hga2 := (HB.out.cell (lt_of_cell hga)).trans hga
      have hgl2 := (HB.out.cell (lt_of_cell hgl)).trans hgl
      obtain ⟨adL, capL, rfl, hmL, _, hcL⟩ := H.out
      obtain ⟨gL, oL, rfl, hyL⟩ := hcL i hi
      obtain ⟨_, _, _, hy, _⟩ := hyL.on HB.out
      have HP := hid (taken1_any x (ls.getD i nilLocale) (.slice ad0 x.lex.length cap0) (.slice ad1 x.rules.length cap1) (.slice ad2 x.styles.length cap2) gl ga gL oL _ capL i wr hgl2 hga2 hi hmL hy)
      unfold localeV at HP
      clear hga2 hgl2 hyL hcL hy
      cases hp : decide (x.id = (ls.getD i nilLocale).id) with
      | false =>
        rw [hp] at HP
        go_wp2_with fail
        refine HP.out.mono ?_
        rintro e w1 ⟨rfl, bel⟩
        have HB2 := hid (up_trans HB.out bel)
        clear bel
        go_wp2
        go_roundw
        case rel => exact ⟨j + 1, by omega, by simp, hid (by rw [List.take_add_one, HX.out, List.any_append, ht.out]; show (false || (decide (x.id = (ls.getD i nilLocale).id) || false)) = false; rw [hp]; rfl), HB2.out⟩
        case measure => simp [intOf]; omega
      | true =>
        rw [hp] at HP
        go_wp2_with fail
        refine HP.out.mono ?_
        rintro e w1 ⟨rfl, bel⟩
        have HB2 := hid (up_trans HB.out bel)
        clear bel
        go_wp2
        go_ret
        exact ⟨_, rfl, ⟨fun _ => List.any_eq_true.2 ⟨x, List.mem_of_getElem? HX.out, hp⟩, fun _ => by omega⟩, HB2.out⟩
    · obtain rfl : j = n := by omega
      have HB := hid hb
      clear hb
      go_wp2
      go_ret
      refine ⟨_, rfl, ⟨fun h => by omega, fun h => ?_⟩, HB.out⟩
      have := ht.out
      rw [← HL.out, List.take_length, h] at this
      cases this

theorem contains_taken (gl ga : Nat) (lv : Value) (i : Nat) (ls : List Locale) (ts : List Locale) (v : Value) (w : World) (hgl : w.cell? ⟨gl, 0, none⟩ = some lv) (hga : w.cell? ⟨ga, 0, none⟩ = some (.int .i64 i)) (hl : LocalesAt w lv ls) (hi : i < ls.length) (hv : LocalesAt w v ts) :
    Calls Tryz.prog 108 #[v, .func (.func 109) #[] #[.pointer (some ⟨gl, 0, none⟩), .pointer (some ⟨ga, 0, none⟩)]] w fun e w' => e = .returned (.bool (ts.any fun x => decide (x.id = (ls.getD i nilLocale).id))) ∧ Below w.heap.size w w' := by
  have HI := hid (index_taken gl ga lv i ls ts v w hgl hga hl hi hv)
  obtain ⟨ad, cap, rfl, _⟩ := hv.shape
  clear hgl hga hl hv
  generalize (ts.any fun x => decide (x.id = (ls.getD i nilLocale).id)) = q at *
  go_enter Tryz.func108, Tryz.ntmps108
  go_wp2_with fail
  refine HI.out.mono ?_
  rintro e w1 ⟨k, rfl, hk, bel⟩
  have HL := hid bel
  have HH := hid hk
  clear bel hk
  by_cases h0 : 0 ≤ k
  · obtain rfl : q = true := HH.out.1 h0
    go_wp2
    go_ret
    exact ⟨rfl, HL.out⟩
  · obtain rfl : q = false := by
      cases q with
      | false => rfl
      | true => exact absurd (HH.out.2 rfl) h0
    go_wp2
    go_ret
    exact ⟨ret_bool (decide_eq_false (by omega)), HL.out⟩
theorem LocalesAt.take {w : World} {ad : Option Addr} {n cap : Nat} {ls : List Locale} (h : LocalesAt w (.slice ad n cap) ls) (i : Nat) (hi : i ≤ ls.length) : LocalesAt w (.slice ad i cap) (ls.take i) := by
  obtain ⟨ad', cap', e, hm, hn, hc⟩ := h
  injection e with e1 e2 e3
  subst e1 e2 e3
  have hl : (ls.take i).length = i := by simp; omega
  refine ⟨ad, cap, by rw [hl], by omega, ⟨hn.1, by omega⟩, fun j hj => ?_⟩
  obtain ⟨g, o, e, hx⟩ := hc j (by omega)
  refine ⟨g, o, e, ?_⟩
  have : (ls.take i).getD j nilLocale = ls.getD j nilLocale := by
    rw [List.getD_eq_getElem?_getD, List.getD_eq_getElem?_getD, List.getElem?_take, if_pos (by omega)]
  rw [this]
  exact hx
theorem isTaken_any (ls : List Locale) (v : Value) (i : Nat) (w : World) (hl : LocalesAt w v ls) (hi : i < ls.length) :
    Calls Tryz.prog 67 #[v, .int .i64 i] w fun e w' => e = .returned (.bool (takenAt ls i)) ∧ Below w.heap.size w w' := by
  have H := hid hl
  obtain ⟨ad, cap, rfl, hm, hcap, _⟩ := hl
  have hcap := hcap.2
  have HU := hid (up_trans (up_alloc w (.cells #[.slice ad ls.length cap] 79)) (up_alloc _ (.cells #[.int .i64 i] 3)))
  have HC := hid (contains_taken w.heap.size (w.heap.size + 1) _ i ls (ls.take i) _ _ ((((up_alloc _ (.cells #[.int .i64 i] 3)).cell (by simp)).trans (new_cell w #[.slice ad ls.length cap] 79 0))) (by simp) (H.out.on HU.out) hi ((H.out.take i (by omega)).on HU.out))
  unfold takenAt
  generalize ((ls.take i).any fun x => decide (x.id = (ls.getD i nilLocale).id)) = q at *
  generalize hn : ls.length = n at *
  have HN := hid hn
  clear hn
  have hi2 : (i : Int) ≤ (cap : Int) := by omega
  have hi3 : i ≤ cap := by omega
  go_enter Tryz.func67, Tryz.ntmps67
  go_wp2_with fail
  refine HC.out.mono ?_
  rintro e w1 ⟨rfl, bel⟩
  have HB := hid (up_trans HU.out bel)
  clear bel
  go_wp2
  go_ret
  exact ⟨rfl, HB.out⟩

end Go.Proofs.YtohgaknojkdohaaGreatDoor

/- Where a locale's Parents are, the farthest first: what package blob's 'chain' answers. -/
namespace Go.Proofs.YtohgaknojkdohaaGreatDoor
open Go.RowKit Gr

/-- Turned about from both ends, i steps far. -/
def RevTo (xs ys : List Int) (i : Nat) : Prop := ys.length = xs.length ∧ ∀ k, k < xs.length → ys.getD k 0 = if k < i ∨ xs.length < k + 1 + i then xs.getD (xs.length - 1 - k) 0 else xs.getD k 0
theorem RevTo.zero (xs : List Int) : RevTo xs xs 0 := ⟨rfl, fun k hk => by rw [if_neg (by omega)]⟩
theorem getD_set (l : List Int) (i j : Nat) (x : Int) (h : i < l.length) : (l.set i x).getD j 0 = if j = i then x else l.getD j 0 := by
  rw [List.getD_eq_getElem?_getD, List.getD_eq_getElem?_getD, List.getElem?_set]
  by_cases e : i = j
  · subst e
    simp [h]
  · simp [e, Ne.symm e]
theorem RevTo.step {xs ys : List Int} {i : Nat} (h : RevTo xs ys i) (hi : 2 * i + 1 < xs.length) : RevTo xs ((ys.set i (ys.getD (xs.length - 1 - i) 0)).set (xs.length - 1 - i) (ys.getD i 0)) (i + 1) := by
  obtain ⟨hl, hc⟩ := h
  refine ⟨by simp [hl], fun k hk => ?_⟩
  rw [getD_set _ _ _ _ (by simp; omega), getD_set _ _ _ _ (by omega)]
  have h1 := hc i (by omega)
  have h2 := hc (xs.length - 1 - i) (by omega)
  rw [if_neg (by omega)] at h1 h2
  by_cases e1 : k = xs.length - 1 - i
  · rw [if_pos e1, if_pos (by omega), h1]
    congr 1
    omega
  · rw [if_neg e1]
    by_cases e2 : k = i
    · subst e2
      rw [if_pos rfl, if_pos (by omega), h2]
    · rw [if_neg e2, hc k hk]
      by_cases e3 : k < i ∨ xs.length < k + 1 + i
      · rw [if_pos e3, if_pos (by omega)]
      · rw [if_neg e3, if_neg (by omega)]
theorem RevTo.done {xs ys : List Int} {i : Nat} (h : RevTo xs ys i) (hi : xs.length ≤ 2 * i + 1) : ys = xs.reverse := by
  obtain ⟨hl, hc⟩ := h
  refine List.ext_getElem? fun k => ?_
  by_cases hk : k < xs.length
  · have h1 := hc k hk
    rw [getD_at (by omega), List.getElem?_reverse hk, getD_at (by omega), h1]
    congr 1
    by_cases e : k < i ∨ xs.length < k + 1 + i
    · rw [if_pos e]
    · rw [if_neg e]
      congr 1
      omega
  · rw [List.getElem?_eq_none (by omega), List.getElem?_eq_none (by simp; omega)]
theorem RowNew.set1 {w : World} {B g n cap : Nat} {xs : List Int} (h : RowNew w B (.slice (some ⟨g, 0, none⟩) n cap) xs) (j : Nat) (z : Int) : RowNew (w.setCell ⟨g, j, none⟩ (.int .i64 z)) B (.slice (some ⟨g, 0, none⟩) n cap) (xs.set j z) := by
  have hn : n = xs.length := by
    obtain ⟨ad, cap', e⟩ := h.shape
    injection e with _ e _
  subst hn
  have := (World.ownsRow.stored h j (.int .i64 z)).1
  unfold RowNew
  rw [List.length_set, List.map_set]
  exact this

set_option maxRecDepth 8000 in
theorem reverse_any (xs : List Int) (v : Value) (B : Nat) (w : World) (h : RowNew w B v xs) (hl : xs.length ≤ 1000000) :
    Calls Tryz.prog 122 #[v] w fun e w' => e = .returned (.tuple #[]) ∧ RowNew w' B v xs.reverse ∧ Below B w w' := by
  by_cases hx : xs.length = 0
  · obtain ⟨ad, cap, rfl⟩ := h.shape
    have H := hid h
    rw [hx]
    clear h
    go_enter Tryz.func122, Tryz.ntmps122
    go_wp2
    go_loopw [2, 3] (fun v2 v3 wr => v2 = .int .i64 0 ∧ v3 = .int .i64 (-1) ∧ wr = w) (fun _ _ _ => 0)
    case atStart => exact ⟨rfl, rfl, rfl⟩
    case round =>
      obtain ⟨rfl, rfl, rfl⟩ := hrel
      go_wp2
      go_end0
      exact ⟨rfl, by rw [List.length_eq_zero_iff.1 hx] at H ⊢; exact H.out, Below.refl _ _⟩
  · obtain ⟨g, cap, rfl, hg, _⟩ := h.at (by omega)
    have H := hid h
    clear h
    generalize hn : xs.length = n at *
    have HN := hid hn
    clear hn
    go_enter Tryz.func122, Tryz.ntmps122
    go_wp2
    go_loopw [2, 3] (fun v2 v3 wr => ∃ (i j : Nat) (ys : List Int), i + j + 1 = n ∧ i ≤ j + 1 ∧ v2 = .int .i64 i ∧ v3 = .int .i64 j ∧ RowNew wr B (.slice (some ⟨g, 0, none⟩) n cap) ys ∧ Hid (RevTo xs ys i) ∧ Below B w wr) (fun v2 _ _ => n - (intOf v2).toNat)
    case atStart => exact ⟨0, n - 1, xs, by omega, by omega, rfl, by congr 1; omega, H.out, hid (RevTo.zero xs), Below.refl _ _⟩
    case round =>
      obtain ⟨i, j, ys, hij, hij2, rfl, rfl, hR, hV, hb⟩ := hrel
      by_cases hlt : i < j
      · have hlt2 : (i : Int) < (j : Int) := by omega
        have hyl : ys.length = n := by rw [hV.out.1, HN.out]
        obtain ⟨g', cap', e, hg', hcell⟩ := hR.at (by omega)
        injection e with e1 e2 e3
        injection e1 with e1
        injection e1 with e1 _ _
        subst e1
        have ci := (hcell i (by omega)).1
        have fi := (hcell i (by omega)).2
        have cj := (hcell j (by omega)).1
        have fj := (hcell j (by omega)).2
        have HR := hid hR
        have HB := hid hb
        have HG := hid hg
        have hne : i ≠ j := by omega
        have hne2 : j ≠ i := by omega
        have b1 : (i : Int) < (n : Int) := by omega
        have b2 : (j : Int) < (n : Int) := by omega
        have b3 : i < n := by omega
        have b4 : j < n := by omega
        generalize hyi : ys.getD i 0 = yi at *
        generalize hyj : ys.getD j 0 = yj at *
        have HY := hid (And.intro hyi hyj)
        have hij3 := hid hij
        clear hcell hR hb hg hyi hyj hg' e2 e3 hyl hij
        go_wp2
        go_region
        go_wp2
        go_roundw
        case rel =>
          have hs := hV.out.step (by rw [HN.out]; have := hij3.out; omega)
          have hij := hij3.out
          rw [HN.out, show n - 1 - i = j by omega, HY.out.1, HY.out.2] at hs
          exact ⟨i + 1, j - 1, _, by omega, by omega, by simp, by congr 1; omega, ((RowNew.set1 (RowNew.set1 HR.out i yj) j yi).on (Below.refl _ _).drew), hid hs, ((HB.out.setCell (p := ⟨g, i, none⟩) HG.out _).setCell (p := ⟨g, j, none⟩) HG.out _).drew⟩
        case measure => simp [intOf]; omega
      · have hlt2 : ¬ (i : Int) < (j : Int) := by omega
        have HR := hid hR
        have HB := hid hb
        clear hR hb
        go_wp2
        go_end0
        exact ⟨rfl, by rw [← hV.out.done (by rw [HN.out]; omega)]; exact HR.out, HB.out⟩

/-- Each Parent, from a locale down, is ahead. -/
def Par (ls : List Locale) (i : Nat) : Prop := ∀ j, j ≤ i → -1 ≤ (ls.getD j nilLocale).parent ∧ (ls.getD j nilLocale).parent < (j : Int)
theorem chainUp_length (ls : List Locale) : ∀ (f : Nat) (a : Int), (chainUp ls f a).length ≤ f
  | 0, a => by simp [chainUp]
  | f + 1, a => by
    unfold chainUp
    split
    · simp
    · have := chainUp_length ls f (ls.getD a.toNat nilLocale).parent
      rw [List.length_cons]
      omega
theorem chainUp_neg (ls : List Locale) (f : Nat) (a : Int) (h : a < 0) : chainUp ls f a = [] := by
  cases f with
  | zero => rfl
  | succ f => unfold chainUp; rw [if_pos h]
theorem chainUp_nat (ls : List Locale) (f k : Nat) : chainUp ls (f + 1) (k : Int) = (k : Int) :: chainUp ls f (ls.getD k nilLocale).parent := by
  conv => lhs; unfold chainUp
  rw [if_neg (by omega)]
  simp
theorem chainUp_mem (ls : List Locale) (i : Nat) (hp : Par ls i) : ∀ (f : Nat) (a : Int), a ≤ i → ∀ k ∈ chainUp ls f a, 0 ≤ k ∧ k ≤ i
  | 0, a, _, k, hk => by simp [chainUp] at hk
  | f + 1, a, ha, k, hk => by
    unfold chainUp at hk
    split at hk
    · simp at hk
    · rename_i h0
      rcases List.mem_cons.1 hk with rfl | hk
      · omega
      · have := hp a.toNat (by omega)
        exact chainUp_mem ls i hp f _ (by omega) k hk

set_option maxRecDepth 8000 in
theorem chain_any (ls : List Locale) (v : Value) (i : Nat) (w : World) (hl : LocalesAt w v ls) (hi : i < ls.length) (hp : Par ls i) :
    Calls Tryz.prog 84 #[v, .int .i64 i] w fun e w' => ∃ pv, e = .returned pv ∧ RowNew w' w.heap.size pv (chainOf ls i) ∧ Below w.heap.size w w' := by
  obtain ⟨ad, cap, rfl, hm, _, hc⟩ := hl
  have HC := hid hc
  have HP := hid hp
  clear hc hp
  generalize hn : ls.length = n at *
  have HN := hid hn
  clear hn
  go_enter Tryz.func84, Tryz.ntmps84
  go_wp2
  go_loopw [1, 5] (fun v1 v5 wr => ∃ (a : Int) (f : Nat) (xs : List Int), -1 ≤ a ∧ a ≤ i ∧ a < f ∧ v1 = .int .i64 a ∧ RowNew wr w.heap.size v5 xs ∧ Hid (xs ++ chainUp ls f a = chainUp ls (i + 1) i) ∧ Below w.heap.size w wr) (fun v1 _ _ => (intOf v1 + 1).toNat)
  case atStart => exact ⟨i, i + 1, [], by omega, by omega, by omega, rfl, RowNew.nil _ _, hid rfl, Below.refl _ _⟩
  case round =>
    obtain ⟨a, f, xs, ha1, ha2, haf, rfl, hR, hE, hb⟩ := hrel
    have hxl : xs.length ≤ i + 1 := by
      have h1 := congrArg List.length hE.out
      have h2 := chainUp_length ls (i + 1) i
      rw [List.length_append] at h1
      omega
    by_cases h0 : 0 ≤ a
    · obtain ⟨k, rfl⟩ : ∃ k : Nat, a = (k : Int) := ⟨a.toNat, by omega⟩
      obtain ⟨f', rfl⟩ : ∃ f', f = f' + 1 := ⟨f - 1, by omega⟩
      have hE' := hE.out
      rw [chainUp_nat] at hE'
      have HE := hid hE'
      have hxl2 : xs.length ≤ i := by
        have h1 := congrArg List.length hE'
        have h2 := chainUp_length ls (i + 1) i
        rw [List.length_append, List.length_cons] at h1
        omega
      obtain ⟨g, o, rfl, hx⟩ := HC.out k (by omega)
      have hpk := HP.out k (by omega)
      obtain ⟨_, _, _, _, cp, _⟩ := hx
      generalize (ls.getD k nilLocale).parent = p at *
      have HR := hid hR
      have HB := hid hb
      have hsz := hb.size
      have hlk := lt_of_cell cp
      dsimp only at hlk
      have HCP := hid cp
      have hkn : (k : Int) < (n : Int) := by omega
      have r1 := hid (hR.on (up_alloc wr (.cells #[.int .i64 (k : Int)] 3)))
      have r2 := hid (row_one wr (k : Int) _ rfl)
      clear hR hb hE hE' cp
      go_wp2_with (at_builtin; refine wpList_append_row _ rfl (.tmp 13) (.tmp 15) rfl w.heap.size _ xs rfl r1.out _ [(k : Int)] rfl r2.out (fun n c e => by cases e) (by simp; omega) (by simp; omega) ?_; intro v' w' h1 h2 h3; have HR2 := hid h1; have HB2 := hid ((HB.out.alloc hsz (.cells #[.int .i64 (k : Int)] 3)).grown h2 (by simp; omega) (fun j e => (World.ownsRow.lt r1.out j e).1)); obtain ⟨ad5, cap5, e5⟩ := h1.shape; obtain ⟨n5, hn5⟩ : ∃ n5, n5 = (xs ++ [(k : Int)]).length := ⟨_, rfl⟩; rw [← hn5] at e5; subst e5; clear hn5; have hcp2 := (HB2.out.cell (p := ⟨g, o + k * 6 + 1, none⟩) hlk).trans HCP.out; clear h1 h2 h3)
      go_roundw
      case rel => exact ⟨p, f', xs ++ [(k : Int)], by omega, by omega, by omega, rfl, HR2.out, hid (by rw [List.append_assoc]; exact HE.out), HB2.out⟩
      case measure => simp [intOf]; omega
    · have HR := hid hR
      have HB := hid hb
      have hE' := hE.out
      rw [chainUp_neg ls f a (by omega), List.append_nil] at hE'
      subst hE'
      have HV := hid (reverse_any _ _ w.heap.size wr HR.out (by omega))
      obtain ⟨ad5, cap5, e5⟩ := hR.shape
      subst e5
      clear hR hb hE
      go_wp2_with fail
      refine HV.out.mono ?_
      rintro e w1 ⟨rfl, hr, bel⟩
      have HR2 := hid hr
      have HB2 := hid (HB.out.trans bel)
      clear hr bel
      go_wp2
      go_ret
      exact ⟨_, rfl, HR2.out, HB2.out⟩

end Go.Proofs.YtohgaknojkdohaaGreatDoor

/- Whether locales may be: what package blob's 'rules', 'isRight', 'Right' answer. -/
namespace Go.Proofs.YtohgaknojkdohaaGreatDoor
open Go.RowKit Gr

/-- Locales that are not too great for any count. -/
def Small (ls : List Locale) : Prop := ∀ x ∈ ls, x.rules.length ≤ 10000 ∧ x.lex.length ≤ 10000 ∧ x.styles.length ≤ 10000 ∧ x.id.size ≤ 1000000
theorem Small.at {ls : List Locale} (h : Small ls) (k : Nat) : (ls.getD k nilLocale).rules.length ≤ 10000 ∧ (ls.getD k nilLocale).lex.length ≤ 10000 ∧ (ls.getD k nilLocale).styles.length ≤ 10000 ∧ (ls.getD k nilLocale).id.size ≤ 1000000 := by
  rw [List.getD_eq_getElem?_getD]
  cases hk : ls[k]? with
  | none => exact ⟨by decide, by decide, by decide, by decide⟩
  | some x => exact h x (List.mem_of_getElem? hk)
def rulesUp (ls : List Locale) (l : List Int) : List Rule := l.flatMap fun k => (ls.getD k.toNat nilLocale).rules
theorem rulesUp_snoc (ls : List Locale) (l : List Int) (k : Int) : rulesUp ls (l ++ [k]) = rulesUp ls l ++ (ls.getD k.toNat nilLocale).rules := by simp [rulesUp]
theorem rulesUp_length (ls : List Locale) (hS : Small ls) : ∀ l : List Int, (rulesUp ls l).length ≤ 10000 * l.length
  | [] => by simp [rulesUp]
  | k :: l => by
    have h1 := (hS.at k.toNat).1
    have h2 := rulesUp_length ls hS l
    have h3 : rulesUp ls (k :: l) = (ls.getD k.toNat nilLocale).rules ++ rulesUp ls l := rfl
    rw [h3, List.length_append, List.length_cons]
    omega
theorem rulesNew_base {w : World} {B B' : Nat} {v : Value} {rs : List Rule} (h : RulesNew w B v rs) (hb : B' ≤ B) : RulesNew w B' v rs := by
  obtain ⟨cs, ⟨h1, h2⟩, h3⟩ := h
  refine ⟨cs, ⟨h1, ?_⟩, h3⟩
  rcases h2 with h2 | ⟨g, cap, cur, e, h4, h5⟩
  · exact .inl h2
  · exact .inr ⟨g, cap, cur, e, Nat.le_trans hb h4, h5⟩
theorem rulesNew_ok {w : World} {B : Nat} {v : Value} {rs : List Rule} (h : RulesNew w B v rs) (hl : rs.length ≤ 1000000) : RulesOk w v rs := ⟨h.rules hl, h.none_cap⟩
theorem chainOf_length (ls : List Locale) (i : Nat) : (chainOf ls i).length ≤ i + 1 := by
  unfold chainOf
  rw [List.length_reverse]
  exact chainUp_length _ _ _
theorem chainOf_mem (ls : List Locale) (i : Nat) (hp : Par ls i) {k : Int} (h : k ∈ chainOf ls i) : 0 ≤ k ∧ k ≤ i := by
  unfold chainOf at h
  exact chainUp_mem ls i hp _ _ (by omega) k (List.mem_reverse.1 h)

set_option maxRecDepth 8000 in
theorem rules_any (ls : List Locale) (v : Value) (i : Nat) (w : World) (hl : LocalesAt w v ls) (hi : i < ls.length) (hi10 : i < 10) (hp : Par ls i) (hS : Small ls) :
    Calls Tryz.prog 74 #[v, .int .i64 i] w fun e w' => ∃ rv, e = .returned rv ∧ RulesNew w' w.heap.size rv (rulesOf ls i) ∧ (rulesOf ls i).length ≤ 100000 ∧ Below w.heap.size w w' := by
  have HCH := hid (chain_any ls v i w hl hi hp)
  obtain ⟨ad, cap, rfl, hm, _, hc⟩ := hl
  have HC := hid hc
  have HP := hid hp
  have HS := hid hS
  have hcl := chainOf_length ls i
  have HM : Hid (∀ k ∈ chainOf ls i, 0 ≤ k ∧ k ≤ i) := hid (fun k h => chainOf_mem ls i hp h)
  have HRL : Hid (∀ l : List Int, (rulesUp ls l).length ≤ 10000 * l.length) := hid (rulesUp_length ls hS)
  have hE : rulesOf ls i = rulesUp ls (chainOf ls i) := rfl
  rw [hE]
  clear hc hp hS hE
  generalize hn : ls.length = n at *
  have HN := hid hn
  generalize hch : chainOf ls i = ch at *
  generalize hq : ch.length = q at *
  have HQ := hid hq
  clear hn hch hq
  go_enter Tryz.func74, Tryz.ntmps74
  go_wp2_with fail
  refine HCH.out.mono ?_
  rintro e w1 ⟨pv, rfl, hr, bel⟩
  have HR1 := hid (hr.row (by rw [HQ.out]; unfold maxLen; omega))
  have HB1 := hid bel
  obtain ⟨adp, capp, ep⟩ := hr.shape
  rw [HQ.out] at ep
  subst ep
  have hszw := bel.size
  have HBK : Hid (∀ g, (Value.slice adp q capp).ownBlock = some g → g < w1.heap.size) := hid (fun g e => (World.ownsRow.lt hr g e).2)
  clear hr bel HCH
  go_wp2
  go_loopw [5, 12] (fun v5 v12 wr => ∃ j : Nat, j ≤ q ∧ v12 = .int .i64 j ∧ w1.heap.size ≤ wr.heap.size ∧ RulesNew wr w1.heap.size v5 (rulesUp ls (ch.take j)) ∧ Row wr (.slice adp q capp) ch ∧ Below w.heap.size w wr) (fun _ v12 _ => q - (intOf v12).toNat)
  case atStart => exact ⟨0, by omega, rfl, Nat.le_refl _, RulesNew.nil _ _, HR1.out, HB1.out⟩
  case round =>
    obtain ⟨j, hj, rfl, hsz1, hR, hrow, hb⟩ := hrel
    have ho := fun g e => (hR.own g e).1
    by_cases hlt : j < q
    · have hlt2 : (j : Int) < (q : Int) := by omega
      have HX : Hid (ch[j]? = some (ch.getD j 0)) := hid (getD_at (by rw [HQ.out]; exact hlt))
      have HROW := hid hrow
      obtain ⟨ad', cap', e', _, hcc⟩ := hrow
      injection e' with e1 e2 e3
      subst e1
      clear e2 e3
      obtain ⟨a, rfl, hcj⟩ := hcc j (by rw [HQ.out]; exact hlt)
      have hkk := HM.out _ (List.mem_of_getElem? HX.out)
      generalize ch.getD j 0 = kz at *
      obtain ⟨k, rfl⟩ : ∃ k : Nat, kz = (k : Int) := ⟨kz.toNat, by omega⟩
      obtain ⟨g, o, rfl, hx⟩ := HC.out k (by omega)
      have hrk := (HS.out.at k).1
      obtain ⟨_, _, _, _, _, _, _, cr, _, _, hro, _⟩ := hx
      have HT : Hid (rulesUp ls (ch.take (j + 1)) = rulesUp ls (ch.take j) ++ (ls.getD k nilLocale).rules) := hid (by rw [List.take_add_one, HX.out]; exact rulesUp_snoc ls _ _)
      have hlen : (rulesUp ls (ch.take j)).length ≤ 90000 := by
        have := HRL.out (ch.take j)
        rw [List.length_take, HQ.out] at this
        omega
      generalize (ls.getD k nilLocale).rules = rs at *
      generalize hacc : rulesUp ls (ch.take j) = acc at *
      have cr2 := (hb.cell (lt_of_cell cr)).trans cr
      have HRO := hid hro
      obtain ⟨adr, capr, er, _⟩ := hro.shape
      subst er
      have HR := hid hR
      have HB := hid hb
      have HO := hid ho
      have hsz := hb.size
      have hkn : (k : Int) < (n : Int) := by omega
      obtain ⟨ad5, cap5, e5⟩ := hR.shape
      subst e5
      generalize hal : acc.length = al at *
      have HAL := hid hal
      generalize hrl : rs.length = rl at *
      have HRLEN := hid hrl
      clear hR hb ho cr hro hal hrl hacc
      go_wp2_with (at_builtin; refine wpList_append_rules w _ HB.out rfl (.tmp 16) (.tmp 21) rfl w1.heap.size _ acc rfl HR.out (fun g e => Nat.le_trans hszw (HO.out g e)) _ rs rfl HRO.out.1 HRO.out.2 (by rw [HAL.out, HRLEN.out]; omega) hsz1 ?_; intro v' w' h1 h2 h3; have HR2 := hid h1; have HB2 := hid (HB.out.grown h2 hsz (fun j e => Nat.le_trans hszw (HO.out j e))); have hsz2 : w1.heap.size ≤ w'.heap.size := Nat.le_trans hsz1 h2.size; have HRW2 := hid (row_kept HROW.out h2 (by rcases row_block HROW.out with e | ⟨gg, e, hgg⟩; exact .inl e; exact .inr (fun e2 => by have := HO.out gg (e2.symm.trans e); have := HBK.out gg e; omega))); obtain ⟨adx, capx, ex⟩ := h1.shape; obtain ⟨nx, hnx⟩ : ∃ nx, nx = (acc ++ rs).length := ⟨_, rfl⟩; rw [← hnx] at ex; subst ex; clear h1 h2 h3 hnx)
      go_roundw
      case rel => exact ⟨j + 1, by omega, by simp, hsz2, by rw [HT.out]; exact HR2.out, HRW2.out, HB2.out⟩
      case measure => simp [intOf]; omega
    · have hR' := hR
      rw [List.take_of_length_le (by rw [HQ.out]; omega)] at hR'
      have HR := hid hR'
      have HB := hid hb
      obtain ⟨ad5, cap5, e5⟩ := hR'.shape
      obtain ⟨n5, hn5⟩ : ∃ n5, n5 = (rulesUp ls ch).length := ⟨_, rfl⟩
      rw [← hn5] at e5
      clear hR hb ho hrow hR' hn5
      obtain rfl : j = q := by omega
      subst e5
      have HZ := hid (HRL.out ch)
      have HQ2 := hid HQ.out
      go_wp2
      go_ret
      exact ⟨_, rfl, rulesNew_base HR.out hszw, by have := HZ.out; rw [HQ2.out] at this; omega, HB.out⟩

/-- A block's six cells. -/
def Box6 (w : World) (g : Nat) (v0 v1 v2 v3 v4 v5 : Value) : Prop := w.cell? ⟨g, 0, none⟩ = some v0 ∧ w.cell? ⟨g, 1, none⟩ = some v1 ∧ w.cell? ⟨g, 2, none⟩ = some v2 ∧ w.cell? ⟨g, 3, none⟩ = some v3 ∧ w.cell? ⟨g, 4, none⟩ = some v4 ∧ w.cell? ⟨g, 5, none⟩ = some v5
theorem Box6.on {w w' : World} {g : Nat} {v0 v1 v2 v3 v4 v5 : Value} (h : Box6 w g v0 v1 v2 v3 v4 v5) (hb : Below w.heap.size w w') : Box6 w' g v0 v1 v2 v3 v4 v5 :=
  ⟨(hb.cell (lt_of_cell h.1)).trans h.1, (hb.cell (lt_of_cell h.2.1)).trans h.2.1, (hb.cell (lt_of_cell h.2.2.1)).trans h.2.2.1, (hb.cell (lt_of_cell h.2.2.2.1)).trans h.2.2.2.1, (hb.cell (lt_of_cell h.2.2.2.2.1)).trans h.2.2.2.2.1, (hb.cell (lt_of_cell h.2.2.2.2.2)).trans h.2.2.2.2.2⟩
theorem box6_new (w : World) (v0 v1 v2 v3 v4 v5 : Value) (t : TypeId) (g : Nat) (hg : g = w.heap.size) : Box6 (w.alloc (.cells #[v0, v1, v2, v3, v4, v5] t)) g v0 v1 v2 v3 v4 v5 := by
  subst hg
  exact ⟨by rw [new_cell]; rfl, by rw [new_cell]; rfl, by rw [new_cell]; rfl, by rw [new_cell]; rfl, by rw [new_cell]; rfl, by rw [new_cell]; rfl⟩

set_option maxRecDepth 8000 in
theorem isRight_any (ls : List Locale) (v : Value) (i : Nat) (w : World) (hl : LocalesAt w v ls) (hi : i < ls.length) (hi10 : i < 10) (hp : ∀ j, j < i → -1 ≤ (ls.getD j nilLocale).parent ∧ (ls.getD j nilLocale).parent < (j : Int)) (hS : Small ls) (hT : Tabs w) :
    Calls Tryz.prog 36 #[v, .int .i64 i] w fun e w' => e = .returned (.bool (rightAt ls i)) ∧ Below w.heap.size w w' := by
  have HA := hid hl
  have HT := hid hT
  have HS := hid hS
  have HTK := hid (fun w' (b : Below w.heap.size w w') => isTaken_any ls v i w' (hl.on b) hi)
  have HRU := hid (fun w' (b : Below w.heap.size w w') (hp : Par ls i) => rules_any ls v i w' (hl.on b) hi hi10 hp hS)
  obtain ⟨ad, cap, rfl, hm, _, hc⟩ := hl
  obtain ⟨g, o, rfl, hx⟩ := hc i hi
  obtain ⟨v0, v1, v2, c0, c1, c2, c3, c4, c5, q0, q1, q2⟩ := hx
  have hpar : ∀ h : inB (ls.getD i nilLocale).parent (-1) ((i : Int) - 1) = true, Par ls i := fun h j hj => by
    by_cases e : j = i
    · subst e
      have := inB_iff.1 h
      omega
    · exact hp j (by omega)
  have HPAR := hid hpar
  unfold rightAt
  dsimp only
  generalize ls.getD i nilLocale = x at *
  obtain ⟨ad0, cap0, e0, hm0⟩ := q0.shape
  obtain ⟨ad1, cap1, e1, hm1⟩ := q1.shape
  obtain ⟨ad2, cap2, e2, hm2⟩ := q2.shape
  have HE := hid (fun w' (b : Below w.heap.size w w') (hT : Tabs w') => all_Entry x.lex v0 w' (q0.on b) hT)
  have HST := hid (fun w' (b : Below w.heap.size w w') => all_Style x.styles v2 w' (q2.on b))
  subst e0 e1 e2
  have HBX := hid (box6_new w (.string x.id) (.int .i64 x.parent) (.int .i64 x.digits) (.slice ad0 x.lex.length cap0) (.slice ad1 x.rules.length cap1) (.slice ad2 x.styles.length cap2) 44 _ rfl)
  have HU := hid (up_alloc w (.cells #[.string x.id, .int .i64 x.parent, .int .i64 x.digits, .slice ad0 x.lex.length cap0, .slice ad1 x.rules.length cap1, .slice ad2 x.styles.length cap2] 44))
  have H1 := hid (isId_any x.id)
  have H3 := hid (fun w => bwithin_any x.parent (-1) ((i : Int) - 1) w)
  have H4 := hid (fun w => bwithin_any x.digits 0 3 w)
  generalize idOk x.id = b1 at *
  generalize takenAt ls i = b2 at *
  generalize inB x.parent (-1) ((i : Int) - 1) = b3 at *
  generalize inB x.digits 0 3 = b4 at *
  generalize x.lex.all entryOk = b6 at *
  generalize x.styles.all styleOk = b8 at *
  generalize x.lex.length = nl at *
  generalize x.styles.length = ns at *
  generalize hn : ls.length = n at *
  have HN := hid hn
  have hin : (i : Int) < (n : Int) := by omega
  clear hn hc hp hT hS q0 q1 q2 hpar HA
  go_enter Tryz.func36, Tryz.ntmps36
  go_wp2_with fail
  refine (H1.out _).mono ?_
  rintro e w1 ⟨rfl, bel⟩
  have HB1 := hid (up_trans HU.out bel)
  have HX1 := hid (HBX.out.on bel)
  obtain ⟨k0, k1, k2, k3, k4, k5⟩ := HX1.out
  clear bel c0 c1 c2 c3 c4 c5
  cases b1 with
  | false =>
    go_wp2
    go_ret
    exact ⟨rfl, HB1.out⟩
  | true =>
  go_wp2_with fail
  refine (HTK.out _ HB1.out).mono ?_
  rintro e w2 ⟨rfl, bel⟩
  have HB2 := hid (up_trans HB1.out bel)
  have HX2 := hid (HX1.out.on bel)
  clear k0 k1 k2 k3 k4 k5
  obtain ⟨k0, k1, k2, k3, k4, k5⟩ := HX2.out
  clear bel
  cases b2 with
  | true =>
    go_wp2
    go_ret
    exact ⟨rfl, HB2.out⟩
  | false =>
  go_wp2_with fail
  refine (H3.out _).mono ?_
  rintro e w3 ⟨rfl, hw⟩
  obtain rfl := hw.symm
  clear hw
  cases b3 with
  | false =>
    go_wp2
    go_ret
    exact ⟨rfl, HB2.out⟩
  | true =>
  go_wp2_with fail
  refine (H4.out _).mono ?_
  rintro e w3 ⟨rfl, hw⟩
  obtain rfl := hw.symm
  clear hw
  cases b4 with
  | false =>
    go_wp2
    go_ret
    exact ⟨rfl, HB2.out⟩
  | true =>
  by_cases q5 : nl ≤ 30
  case neg =>
    have q5' : ¬ (nl : Int) ≤ 30 := by omega
    go_wp2
    go_ret
    exact ⟨ret_bool (by simp_all), HB2.out⟩
  have q5' : (nl : Int) ≤ 30 := by omega
  go_wp2_with fail
  refine (HE.out _ HB2.out (HT.out.on HB2.out)).mono ?_
  rintro e w4 ⟨rfl, bel⟩
  have HB4 := hid (up_trans HB2.out bel)
  have HX4 := hid (HX2.out.on bel)
  clear k0 k1 k2 k3 k4 k5
  obtain ⟨k0, k1, k2, k3, k4, k5⟩ := HX4.out
  clear bel
  cases b6 with
  | false =>
    go_wp2
    go_ret
    exact ⟨ret_bool (by simp_all), HB4.out⟩
  | true =>
  by_cases q7 : ns ≤ 20
  case neg =>
    have q7' : ¬ (ns : Int) ≤ 20 := by omega
    go_wp2
    go_ret
    exact ⟨ret_bool (by simp_all), HB4.out⟩
  have q7' : (ns : Int) ≤ 20 := by omega
  go_wp2_with fail
  refine (HST.out _ HB4.out).mono ?_
  rintro e w5 ⟨rfl, bel⟩
  have HB5 := hid (up_trans HB4.out bel)
  clear bel
  cases b8 with
  | false =>
    go_wp2
    go_ret
    exact ⟨ret_bool (by simp_all), HB5.out⟩
  | true =>
  go_wp2_with fail
  refine (HRU.out _ HB5.out (HPAR.out trivial)).mono ?_
  rintro e w6 ⟨rv, rfl, hr, hrl, bel⟩
  have HB6 := hid (up_trans HB5.out bel)
  have HRV := hid (hr.rules (by omega))
  obtain ⟨adr, capr, er⟩ := hr.shape
  have HCK := hid (check_any (rulesOf ls i) rv w6 HRV.out (HT.out.on HB6.out).1)
  subst er
  clear bel hr
  go_wp2_with fail
  refine HCK.out.mono ?_
  rintro e w7 ⟨rfl, bel⟩
  have HB7 := hid (up_trans HB6.out bel)
  clear bel
  go_wp2
  go_ret
  exact ⟨ret_bool (by simp_all), HB7.out⟩

/-- All Parents are ahead. -/
def ParAll (ls : List Locale) : Prop := ∀ j, j < ls.length → -1 ≤ (ls.getD j nilLocale).parent ∧ (ls.getD j nilLocale).parent < (j : Int)
theorem rightAt_parent {ls : List Locale} {i : Nat} (h : rightAt ls i = true) : -1 ≤ (ls.getD i nilLocale).parent ∧ (ls.getD i nilLocale).parent < (i : Int) := by
  unfold rightAt at h
  simp only [Bool.and_eq_true] at h
  have := inB_iff.1 h.2.2.1
  omega
theorem rightL_at {ls : List Locale} (h : rightL ls = true) {i : Nat} (hi : i < ls.length) : rightAt ls i = true := by
  unfold rightL at h
  simp only [Bool.and_eq_true, List.all_eq_true, List.mem_range] at h
  exact h.2 i hi
theorem rightL_length {ls : List Locale} (h : rightL ls = true) : ls.length ≤ 10 := by
  unfold rightL at h
  simp only [Bool.and_eq_true, decide_eq_true_eq] at h
  exact h.1
theorem rightL_par {ls : List Locale} (h : rightL ls = true) : ParAll ls := fun _ hj => rightAt_parent (rightL_at h hj)

set_option maxRecDepth 8000 in
theorem bright_any (ls : List Locale) (v : Value) (w : World) (hl : LocalesAt w v ls) (hS : Small ls) (hT : Tabs w) :
    Calls Tryz.prog 16 #[v] w fun e w' => e = .returned (.bool (rightL ls)) ∧ Below w.heap.size w w' := by
  have HA := hid hl
  have HT := hid hT
  have HS := hid hS
  obtain ⟨ad, cap, rfl, hm⟩ := hl.shape
  have HI := hid (fun i w' (b : Below w.heap.size w w') hi h10 hp => isRight_any ls _ i w' (HA.out.on b) hi h10 hp HS.out (HT.out.on b))
  by_cases h10 : ls.length ≤ 10
  · have HRL : Hid (rightL ls = (List.range ls.length).all (rightAt ls)) := hid (by unfold rightL; rw [decide_eq_true h10, Bool.true_and])
    generalize hn : ls.length = n at *
    have HN := hid hn
    clear hl hS hT hn
    go_enter Tryz.func16, Tryz.ntmps16
    go_wp2
    go_loopw [9] (fun v9 wr => ∃ j : Nat, j ≤ n ∧ v9 = .int .i64 j ∧ Hid (∀ k, k < j → rightAt ls k = true) ∧ Below w.heap.size w wr) (fun v _ => n - (intOf v).toNat)
    case atStart => exact ⟨0, by omega, rfl, hid (fun k hk => by omega), Below.refl _ _⟩
    case round =>
      obtain ⟨j, hj, rfl, ht, hb⟩ := hrel
      by_cases hlt : j < n
      · have hlt2 : (j : Int) < (n : Int) := by omega
        have HJ := hid (HI.out j wr hb hlt (by omega) (fun k hk => rightAt_parent (ht.out k hk)))
        have HB := hid hb
        clear hb
        cases hr : rightAt ls j with
        | true =>
          rw [hr] at HJ
          have HRJ := hid hr
          clear hr
          go_wp2_with fail
          refine HJ.out.mono ?_
          rintro e w1 ⟨rfl, bel⟩
          have HB2 := hid (up_trans HB.out bel)
          clear bel
          go_wp2
          go_roundw
          case rel => exact ⟨j + 1, by omega, by simp, hid (fun k hk => by
            by_cases e : k = j
            · subst e; exact HRJ.out
            · exact ht.out k (by omega)), HB2.out⟩
          case measure => simp [intOf]; omega
        | false =>
          rw [hr] at HJ
          have HRJ := hid hr
          clear hr
          go_wp2_with fail
          refine HJ.out.mono ?_
          rintro e w1 ⟨rfl, bel⟩
          have HB2 := hid (up_trans HB.out bel)
          clear bel
          go_wp2
          go_ret
          refine ⟨ret_bool ?_, HB2.out⟩
          rw [HRL.out]
          refine (Bool.eq_false_iff.2 fun hh => ?_).symm
          have := List.all_eq_true.1 hh j (List.mem_range.2 hlt)
          rw [HRJ.out] at this
          cases this
      · have HB := hid hb
        clear hb
        obtain rfl : j = n := by omega
        go_wp2
        go_ret
        refine ⟨ret_bool ?_, HB.out⟩
        rw [HRL.out]
        exact (List.all_eq_true.2 fun k hk => ht.out k (List.mem_range.1 hk)).symm
  · have e : rightL ls = false := by unfold rightL; rw [decide_eq_false h10, Bool.false_and]
    rw [e]
    clear e
    generalize hn : ls.length = n at *
    clear hl hS hT hn
    have h11 : ¬ (n : Int) ≤ 10 := by omega
    go_enter Tryz.func16, Tryz.ntmps16
    go_wp2
    go_ret
    exact ⟨rfl, Below.refl _ _⟩

end Go.Proofs.YtohgaknojkdohaaGreatDoor

/- Rows of whatever element, cell by cell: a row appended onto one that the call made; rows of entries, parts, styles, rules, locales as cells, and back. -/
namespace Go.Proofs.YtohgaknojkdohaaGreatDoor
open Go.RowKit Gr

/-- A slice's cells. -/
def CellsAt (w : World) (v : Value) (n size : Nat) (cs : List Value) : Prop :=
  ∃ (ad : Option Addr) (cap : Nat), v = .slice ad n cap ∧ cs.length = n * size ∧ (ad = none → cap = 0 ∧ n = 0) ∧ (∀ u ∈ cs, u.oneCell' = true) ∧ ∀ j u, cs[j]? = some u → ∃ a, ad = some a ∧ w.cell? (a.add j) = some u
theorem CellsAt.on {w w' : World} {v : Value} {n size : Nat} {cs : List Value} (h : CellsAt w v n size cs) (hb : Below w.heap.size w w') : CellsAt w' v n size cs := by
  obtain ⟨ad, cap, h1, h2, h3, h4, h5⟩ := h
  refine ⟨ad, cap, h1, h2, h3, h4, fun j u hj => ?_⟩
  obtain ⟨a, e, h6⟩ := h5 j u hj
  exact ⟨a, e, (hb.cell (lt_of_cell h6)).trans h6⟩
theorem CellsAt.nil (w : World) (size : Nat) : CellsAt w (.slice none 0 0) 0 size [] := ⟨none, 0, rfl, by simp, fun _ => ⟨rfl, rfl⟩, fun u hu => by simp at hu, fun j u h => by simp at h⟩
/-- A literal's cells. -/
theorem cells_lit (w : World) (e : TypeId) (cs : List Value) (a : Array Value) (ha : a = cs.toArray) (g n size : Nat) (hg : g = w.heap.size) (hn : cs.length = n * size) (h1 : ∀ u ∈ cs, u.oneCell' = true) : CellsAt (w.alloc (.cells a e)) (.slice (some ⟨g, 0, none⟩) n n) n size cs := by
  subst hg ha
  refine ⟨_, _, rfl, hn, fun h => (by cases h), h1, fun j u hj => ⟨_, rfl, ?_⟩⟩
  rw [Addr.add_lit, Nat.zero_add, new_cell, List.getElem?_toArray]
  exact hj
theorem run_append_cells (w : World) (t e ty : TypeId) (z : Value) (size bytes : Nat) (ht : Tryz.prog.underlying t = some (.slice e)) (hi : (Tryz.prog.info? e).map (fun i => (i.zero, i.size, i.bytes)) = some (some z, size, bytes)) (hzs : z.cells.size = size) (hsz : 0 < size) (hby : bytes ≤ 1000)
    (B : Nat) (v : Value) (n : Nat) (cs : List Value) (h : w.ownsRow B e size v n cs) (xv : Value) (m : Nat) (ds : List Value) (hq : CellsAt w xv m size ds) (hl : n + m ≤ 1000000) (hB : B ≤ w.heap.size) :
    ∃ v' w', (Builtin.append_ #[t, t] ty #[v, xv]).run Tryz.prog w = .ok v' w' ∧ w'.ownsRow B e size v' (n + m) (cs ++ ds) ∧ w.grownBy w' v.ownBlock ∧ (v'.ownBlock = v.ownBlock ∨ v'.ownBlock = some w.heap.size) := by
  obtain ⟨i0, hi0, hz0, hz1, hz2⟩ := info_parts hi
  obtain ⟨ad, cap, rfl, hdl, hnil, hone, hqc⟩ := hq
  cases ad with
  | none =>
    obtain ⟨rfl, rfl⟩ := hnil rfl
    have hds : ds = [] := List.length_eq_zero_iff.1 (by omega)
    subst hds
    refine ⟨v, w, run_append_owned_none (P := Tryz.prog) w B t ty e i0 size ht hi0 v n _ h, by simpa using h, World.grownBy.refl _ _, .inl rfl⟩
  | some adr =>
    obtain ⟨v', w', hr, h2, h3, _, h5⟩ := run_append_own_at (P := Tryz.prog) w B t ty e i0 z size bytes ht hi0 hz0 hz1 hz2 hzs hsz v n _ h adr m cap ds hdl
      (fun j u hj => by
        obtain ⟨a, e, h4⟩ := hqc j u hj
        obtain rfl := Option.some.inj e
        exact h4) hone (by unfold maxLen; omega) (by
          have : (n + m) * bytes ≤ 1000000 * 1000 := Nat.mul_le_mul hl hby
          omega) hB
    exact ⟨v', w', hr, h2, h3, h5⟩
theorem step_append_cells (w : World) {ops : Array Oper} {o : Oper} {a : Act} {K : Act → World → Prop} {Q : Exit → Act → World → Prop} {E : Prop} (hgd : o.guard = none) (s x : Operand) (t e : TypeId)
    (ho : o.op = .call { callee := .builtin .append, args := #[s, x], argTypes := #[t, t] }) (z : Value) (size bytes : Nat) (ht : Tryz.prog.underlying t = some (.slice e)) (hi : (Tryz.prog.info? e).map (fun i => (i.zero, i.size, i.bytes)) = some (some z, size, bytes)) (hzs : z.cells.size = size) (hsz : 0 < size) (hby : bytes ≤ 1000)
    (B : Nat) (v : Value) (n : Nat) (cs : List Value) (hs : a.eval s = v) (h : w.ownsRow B e size v n cs) (xv : Value) (m : Nat) (ds : List Value) (hx : a.eval x = xv) (hq : CellsAt w xv m size ds) (hl : n + m ≤ 1000000) (hB : B ≤ w.heap.size)
    (hK : ∀ v' w', w'.ownsRow B e size v' (n + m) (cs ++ ds) → w.grownBy w' v.ownBlock → (v'.ownBlock = v.ownBlock ∨ v'.ownBlock = some w.heap.size) → K (a.put o.dst v') w') :
    if Region.wanted o (yielded ops a.tmps) = true then Oper.wp Tryz.prog o a w K Q else E := by
  have hw : Region.wanted o (yielded ops a.tmps) = true := by simp [Region.wanted, hgd]
  rw [if_pos hw]
  obtain ⟨v', w', hr, h2, h3, h4⟩ := run_append_cells w t e o.type z size bytes ht hi hzs hsz hby B v n cs h xv m ds hq hl hB
  unfold Oper.wp execOp
  simp only [ho, resolve, invoke, builtin, Sem.run_bind, Sem.run_pure, Result.andThen_ok, List.map_toArray, List.map_cons, List.map_nil, hs, hx, hr]
  exact hK v' w' h2 h3 h4
theorem wpList_append_cells (w : World) {ops : Array Oper} {rest : List Oper} {o : Oper} {a : Act} {Q : Exit → Act → World → Prop} (hgd : o.guard = none) (s x : Operand) (t e : TypeId)
    (ho : o.op = .call { callee := .builtin .append, args := #[s, x], argTypes := #[t, t] }) (z : Value) (size bytes : Nat) (ht : Tryz.prog.underlying t = some (.slice e)) (hi : (Tryz.prog.info? e).map (fun i => (i.zero, i.size, i.bytes)) = some (some z, size, bytes)) (hzs : z.cells.size = size) (hsz : 0 < size) (hby : bytes ≤ 1000)
    (B : Nat) (v : Value) (n : Nat) (cs : List Value) (hs : a.eval s = v) (h : w.ownsRow B e size v n cs) (xv : Value) (m : Nat) (ds : List Value) (hx : a.eval x = xv) (hq : CellsAt w xv m size ds) (hl : n + m ≤ 1000000) (hB : B ≤ w.heap.size)
    (hK : ∀ v' w', w'.ownsRow B e size v' (n + m) (cs ++ ds) → w.grownBy w' v.ownBlock → (v'.ownBlock = v.ownBlock ∨ v'.ownBlock = some w.heap.size) → wpList Tryz.prog ops Q rest (a.put o.dst v') w') : wpList Tryz.prog ops Q (o :: rest) a w := by
  refine wpList_plain hgd fun _ hK' => ?_
  obtain ⟨v', w', hr, h2, h3, h4⟩ := run_append_cells w t e o.type z size bytes ht hi hzs hsz hby B v n cs h xv m ds hq hl hB
  unfold Oper.wp execOp
  simp only [ho, resolve, invoke, builtin, Sem.run_bind, Sem.run_pure, Result.andThen_ok, List.map_toArray, List.map_cons, List.map_nil, hs, hx, hr]
  exact hK' _ _ (hK v' w' h2 h3 h4)
theorem own_shape {w : World} {B n size : Nat} {e : TypeId} {v : Value} {cs : List Value} (h : w.ownsRow B e size v n cs) : ∃ ad cap, v = .slice ad n cap ∧ (ad = none → cap = 0 ∧ n = 0) ∧ n ≤ cap := by
  obtain ⟨_, ⟨rfl, rfl⟩ | ⟨g, cap, cur, rfl, _, _, hc, _⟩⟩ := h
  · exact ⟨none, 0, rfl, fun _ => ⟨rfl, rfl⟩, Nat.le_refl _⟩
  · exact ⟨_, _, rfl, fun h => (by cases h), hc⟩
/-- A row that the call made, its cells. -/
theorem own_cells {w : World} {B n size : Nat} {e : TypeId} {v : Value} {cs : List Value} (h : w.ownsRow B e size v n cs) (h1 : ∀ u ∈ cs, u.oneCell' = true) : CellsAt w v n size cs := by
  have h0 := h
  obtain ⟨hl, ⟨rfl, rfl⟩ | ⟨g, cap, cur, rfl, _, _, hc, _⟩⟩ := h
  · have : cs = [] := List.length_eq_zero_iff.1 (by omega)
    subst this
    exact CellsAt.nil _ _
  · refine ⟨_, _, rfl, hl, fun h => (by cases h), h1, fun j u hj => ⟨_, rfl, ?_⟩⟩
    have hjl := (List.getElem?_eq_some_iff.1 hj).1
    rw [Addr.add_lit, Nat.zero_add, h0.cellAt j (by omega)]
    exact hj
theorem own_at {w : World} {B n size : Nat} {e : TypeId} {v : Value} {cs : List Value} (h : w.ownsRow B e size v n cs) (hn : 0 < n) : ∃ g cap, v = .slice (some ⟨g, 0, none⟩) n cap ∧ B ≤ g ∧ n ≤ cap ∧ ∀ j u, cs[j]? = some u → w.cell? ⟨g, j, none⟩ = some u := by
  have h0 := h
  obtain ⟨hl, ⟨rfl, rfl⟩ | ⟨g, cap, cur, rfl, hb, _, hc, _⟩⟩ := h
  · omega
  · refine ⟨g, cap, rfl, hb, hc, fun j u hj => ?_⟩
    have hjl := (List.getElem?_eq_some_iff.1 hj).1
    rw [h0.cellAt j (by omega)]
    exact hj
theorem append_at {α β : Type} {xs ys : List α} {cs ds : List β} {n : Nat} (hc : cs.length = xs.length * n) {j : Nat} {x : α} (h : (xs ++ ys)[j]? = some x) :
    (xs[j]? = some x ∧ ∀ k, k < n → (cs ++ ds)[j * n + k]? = cs[j * n + k]?) ∨ (∃ i, j = xs.length + i ∧ ys[i]? = some x ∧ ∀ k, (cs ++ ds)[j * n + k]? = ds[i * n + k]?) := by
  by_cases hj : j < xs.length
  · rw [List.getElem?_append_left hj] at h
    refine .inl ⟨h, fun k hk => List.getElem?_append_left ?_⟩
    rw [hc]
    have : (j + 1) * n ≤ xs.length * n := Nat.mul_le_mul_right n hj
    rw [Nat.add_mul] at this
    omega
  · rw [List.getElem?_append_right (by omega)] at h
    refine .inr ⟨j - xs.length, by omega, h, fun k => ?_⟩
    have hm : j * n = xs.length * n + (j - xs.length) * n := by rw [← Nat.add_mul]; congr 1; omega
    rw [List.getElem?_append_right (by rw [hc]; omega)]
    congr 1
    rw [hc]
    omega
theorem mul_lt {j k n m : Nat} (hj : j < m) (hk : k < n) : j * n + k < m * n := by
  have : (j + 1) * n ≤ m * n := Nat.mul_le_mul_right n hj
  rw [Nat.add_mul] at this
  omega

/-- Cells, element by element, as one row. -/
theorem cells_build {α : Type} {w : World} (ad : Option Addr) (cap n : Nat) (_ : 0 < n) (xs : List α) (nil : α) (C : World → List Value → List α → Prop) (h0 : C w [] []) (happ : ∀ {cs ds : List Value} {ys zs : List α}, C w cs ys → C w ds zs → C w (cs ++ ds) (ys ++ zs)) (hone : ∀ {cs : List Value} {ys : List α}, C w cs ys → ∀ u ∈ cs, u.oneCell' = true)
    (hnil : ad = none → cap = 0 ∧ xs.length = 0) (h : ∀ j, j < xs.length → ∃ l : List Value, l.length = n ∧ (∀ k u, l[k]? = some u → ∃ g o, ad = some ⟨g, o, none⟩ ∧ w.cell? ⟨g, o + j * n + k, none⟩ = some u) ∧ C w l [xs.getD j nil]) :
    ∃ cs, CellsAt w (.slice ad xs.length cap) xs.length n cs ∧ C w cs xs := by
  have key : ∀ m, m ≤ xs.length → ∃ cs : List Value, cs.length = m * n ∧ (∀ j u, cs[j]? = some u → ∃ g o, ad = some ⟨g, o, none⟩ ∧ w.cell? ⟨g, o + j, none⟩ = some u) ∧ C w cs (xs.take m) := by
    intro m
    induction m with
    | zero => exact fun _ => ⟨[], by simp, fun j u h => by simp at h, by simpa using h0⟩
    | succ m ih =>
      intro hm
      obtain ⟨cs, h1, h2, h3⟩ := ih (by omega)
      obtain ⟨l, g1, g2, g3⟩ := h m (by omega)
      refine ⟨cs ++ l, by rw [List.length_append, h1, g1, Nat.add_mul, Nat.one_mul], fun j u hj => ?_, ?_⟩
      · by_cases hlt : j < m * n
        · rw [List.getElem?_append_left (by omega)] at hj
          exact h2 j u hj
        · rw [List.getElem?_append_right (by omega)] at hj
          obtain ⟨g, o, e, hc⟩ := g2 _ u hj
          refine ⟨g, o, e, ?_⟩
          rw [← hc]
          congr 2
          omega
      · rw [List.take_add_one, List.getElem?_eq_getElem (by omega : m < xs.length)]
        have : xs.getD m nil = xs[m]'(by omega) := by rw [List.getD_eq_getElem?_getD, List.getElem?_eq_getElem (by omega : m < xs.length)]; rfl
        rw [this] at g3
        exact happ h3 g3
  obtain ⟨cs, h1, h2, h3⟩ := key xs.length (Nat.le_refl _)
  rw [List.take_length] at h3
  refine ⟨cs, ⟨ad, cap, rfl, h1, hnil, hone h3, fun j u hj => ?_⟩, h3⟩
  obtain ⟨g, o, e, hc⟩ := h2 j u hj
  exact ⟨_, e, by rw [Addr.add_lit]; exact hc⟩

/-- The cells of one, in a row of cells. -/
def EntryC1 (_ : World) (cs : List Value) (o : Nat) (x : Entry) : Prop := cs[o + 0]? = some (.string x.text) ∧ cs[o + 1]? = some (.int .i64 x.cls) ∧ cs[o + 2]? = some (.int .i64 x.val)
def EntryC (w : World) (cs : List Value) (xs : List Entry) : Prop := cs.length = xs.length * 3 ∧ ∀ j x, xs[j]? = some x → EntryC1 w cs (j * 3) x
theorem EntryC.nil (w : World) : EntryC w [] [] := ⟨rfl, fun j x h => by simp at h⟩
theorem EntryC.on {w w' : World} {cs : List Value} {xs : List Entry} (h : EntryC w cs xs) (_ : Below w.heap.size w w') : EntryC w' cs xs := ⟨h.1, fun j x hx => by
  obtain ⟨h0, h1, h2⟩ := h.2 j x hx
  exact ⟨h0, h1, h2⟩⟩
theorem EntryC.append {w : World} {cs ds : List Value} {xs ys : List Entry} (h : EntryC w cs xs) (k : EntryC w ds ys) : EntryC w (cs ++ ds) (xs ++ ys) := by
  refine ⟨by rw [List.length_append, List.length_append, h.1, k.1, Nat.add_mul], fun j x hx => ?_⟩
  rcases append_at (ds := ds) h.1 hx with ⟨hh1, hh2⟩ | ⟨i, _, hh1, hh2⟩
  · obtain ⟨h0, h1, h2⟩ := h.2 j x hh1
    exact ⟨(hh2 0 (by decide)).trans h0, (hh2 1 (by decide)).trans h1, (hh2 2 (by decide)).trans h2⟩
  · obtain ⟨h0, h1, h2⟩ := k.2 i x hh1
    exact ⟨(hh2 0).trans h0, (hh2 1).trans h1, (hh2 2).trans h2⟩
theorem EntryC.one (w : World) (x : Entry) : EntryC w [.string x.text, .int .i64 x.cls, .int .i64 x.val] [x] := ⟨rfl, fun j y h => by
  obtain ⟨rfl, rfl⟩ : j = 0 ∧ y = x := by
    cases j with
    | zero => simpa [eq_comm] using h
    | succ j => simp at h
  exact ⟨rfl, rfl, rfl⟩⟩
theorem EntryC.ones {w : World} {cs : List Value} {xs : List Entry} (h : EntryC w cs xs) : ∀ u ∈ cs, u.oneCell' = true := by
  intro u hu
  obtain ⟨i, hi⟩ := List.getElem?_of_mem hu
  have hil := (List.getElem?_eq_some_iff.1 hi).1
  rw [h.1] at hil
  have hj : i / 3 < xs.length := by omega
  obtain ⟨h0, h1, h2⟩ := h.2 (i / 3) _ (List.getElem?_eq_getElem hj)
  have hr : i % 3 < 3 := Nat.mod_lt _ (by decide)
  have hd : i = i / 3 * 3 + i % 3 := by omega
  generalize i % 3 = r at *
  rw [hd] at hi
  match r, hr with
  | 0, _ => rw [h0] at hi; obtain rfl := Option.some.inj hi; rfl
  | 1, _ => rw [h1] at hi; obtain rfl := Option.some.inj hi; rfl
  | 2, _ => rw [h2] at hi; obtain rfl := Option.some.inj hi; rfl
theorem info_Entry : (Tryz.prog.info? 46).map (fun i => (i.zero, i.size, i.bytes)) = some (some (.agg #[.string ⟨#[]⟩, .int .i64 0, .int .i64 0]), 3, 32) := by kernel_rfl
theorem Entries_own {w : World} {B : Nat} {v : Value} {cs : List Value} {xs : List Entry} (h : w.ownsRow B 46 3 v xs.length cs) (hc : EntryC w cs xs) (hl : xs.length ≤ 1000000) : EntriesAt w v xs := by
  obtain ⟨ad, cap, rfl, hn, hcp⟩ := own_shape h
  refine ⟨ad, cap, rfl, hl, ⟨fun e => (hn e).1, hcp⟩, fun j hj => ?_⟩
  obtain ⟨g, cap', e, _, _, hcell⟩ := own_at h (by omega)
  injection e with e1 _ e3
  subst e1 e3
  refine ⟨g, 0, rfl, ?_⟩
  obtain ⟨h0, h1, h2⟩ := hc.2 j _ (Entry_at hj)
  exact ⟨by simpa using hcell _ _ h0, by simpa using hcell _ _ h1, by simpa using hcell _ _ h2⟩
theorem Entries_cells {w : World} {v : Value} {xs : List Entry} (h : EntriesAt w v xs) : ∃ cs, CellsAt w v xs.length 3 cs ∧ EntryC w cs xs := by
  obtain ⟨ad, cap, rfl, hl, hnil, hc⟩ := h
  have : ∀ j, j < xs.length → ∃ l : List Value, l.length = 3 ∧ (∀ k u, l[k]? = some u → ∃ g o, ad = some ⟨g, o, none⟩ ∧ w.cell? ⟨g, o + j * 3 + k, none⟩ = some u) ∧ EntryC w l [xs.getD j nilEntry] := fun j hj => by
    obtain ⟨g, o, e, h0, h1, h2⟩ := hc j hj
    refine ⟨[.string (xs.getD j nilEntry).text, .int .i64 (xs.getD j nilEntry).cls, .int .i64 (xs.getD j nilEntry).val], rfl, fun k u hk => ⟨g, o, e, ?_⟩, EntryC.one w _⟩
    match k with
    | 0 => simp at hk; subst hk; exact h0
    | 1 => simp at hk; subst hk; exact h1
    | 2 => simp at hk; subst hk; exact h2
    | k + 3 => simp at hk
  exact cells_build ad cap 3 (by decide) xs nilEntry (fun w cs xs => EntryC w cs xs) (EntryC.nil w) (fun a b => a.append b) (fun a => a.ones) (fun e => ⟨hnil.1 e, by have := hnil.2; have := hnil.1 e; omega⟩) this
theorem at_oneCellEntriesAt {w : World} {v : Value} {xs : List Entry} (h : EntriesAt w v xs) : v.oneCell' = true := by
  obtain ⟨ad, cap, rfl, _⟩ := h
  rfl

/-- The cells of one, in a row of cells. -/
def PartC1 (_ : World) (cs : List Value) (o : Nat) (x : Part) : Prop := cs[o + 0]? = some (.int .i64 x.kind) ∧ cs[o + 1]? = some (.string x.text) ∧ cs[o + 2]? = some (.int .i64 x.field) ∧ cs[o + 3]? = some (.int .i64 x.width) ∧ cs[o + 4]? = some (.int .i64 x.cls)
def PartC (w : World) (cs : List Value) (xs : List Part) : Prop := cs.length = xs.length * 5 ∧ ∀ j x, xs[j]? = some x → PartC1 w cs (j * 5) x
theorem PartC.nil (w : World) : PartC w [] [] := ⟨rfl, fun j x h => by simp at h⟩
theorem PartC.on {w w' : World} {cs : List Value} {xs : List Part} (h : PartC w cs xs) (_ : Below w.heap.size w w') : PartC w' cs xs := ⟨h.1, fun j x hx => by
  obtain ⟨h0, h1, h2, h3, h4⟩ := h.2 j x hx
  exact ⟨h0, h1, h2, h3, h4⟩⟩
theorem PartC.append {w : World} {cs ds : List Value} {xs ys : List Part} (h : PartC w cs xs) (k : PartC w ds ys) : PartC w (cs ++ ds) (xs ++ ys) := by
  refine ⟨by rw [List.length_append, List.length_append, h.1, k.1, Nat.add_mul], fun j x hx => ?_⟩
  rcases append_at (ds := ds) h.1 hx with ⟨hh1, hh2⟩ | ⟨i, _, hh1, hh2⟩
  · obtain ⟨h0, h1, h2, h3, h4⟩ := h.2 j x hh1
    exact ⟨(hh2 0 (by decide)).trans h0, (hh2 1 (by decide)).trans h1, (hh2 2 (by decide)).trans h2, (hh2 3 (by decide)).trans h3, (hh2 4 (by decide)).trans h4⟩
  · obtain ⟨h0, h1, h2, h3, h4⟩ := k.2 i x hh1
    exact ⟨(hh2 0).trans h0, (hh2 1).trans h1, (hh2 2).trans h2, (hh2 3).trans h3, (hh2 4).trans h4⟩
theorem PartC.one (w : World) (x : Part) : PartC w [.int .i64 x.kind, .string x.text, .int .i64 x.field, .int .i64 x.width, .int .i64 x.cls] [x] := ⟨rfl, fun j y h => by
  obtain ⟨rfl, rfl⟩ : j = 0 ∧ y = x := by
    cases j with
    | zero => simpa [eq_comm] using h
    | succ j => simp at h
  exact ⟨rfl, rfl, rfl, rfl, rfl⟩⟩
theorem PartC.ones {w : World} {cs : List Value} {xs : List Part} (h : PartC w cs xs) : ∀ u ∈ cs, u.oneCell' = true := by
  intro u hu
  obtain ⟨i, hi⟩ := List.getElem?_of_mem hu
  have hil := (List.getElem?_eq_some_iff.1 hi).1
  rw [h.1] at hil
  have hj : i / 5 < xs.length := by omega
  obtain ⟨h0, h1, h2, h3, h4⟩ := h.2 (i / 5) _ (List.getElem?_eq_getElem hj)
  have hr : i % 5 < 5 := Nat.mod_lt _ (by decide)
  have hd : i = i / 5 * 5 + i % 5 := by omega
  generalize i % 5 = r at *
  rw [hd] at hi
  match r, hr with
  | 0, _ => rw [h0] at hi; obtain rfl := Option.some.inj hi; rfl
  | 1, _ => rw [h1] at hi; obtain rfl := Option.some.inj hi; rfl
  | 2, _ => rw [h2] at hi; obtain rfl := Option.some.inj hi; rfl
  | 3, _ => rw [h3] at hi; obtain rfl := Option.some.inj hi; rfl
  | 4, _ => rw [h4] at hi; obtain rfl := Option.some.inj hi; rfl
theorem info_Part : (Tryz.prog.info? 48).map (fun i => (i.zero, i.size, i.bytes)) = some (some (.agg #[.int .i64 0, .string ⟨#[]⟩, .int .i64 0, .int .i64 0, .int .i64 0]), 5, 48) := by kernel_rfl
theorem Parts_own {w : World} {B : Nat} {v : Value} {cs : List Value} {xs : List Part} (h : w.ownsRow B 48 5 v xs.length cs) (hc : PartC w cs xs) (hl : xs.length ≤ 1000000) : PartsAt w v xs := by
  obtain ⟨ad, cap, rfl, hn, hcp⟩ := own_shape h
  refine ⟨ad, cap, rfl, hl, ⟨fun e => (hn e).1, hcp⟩, fun j hj => ?_⟩
  obtain ⟨g, cap', e, _, _, hcell⟩ := own_at h (by omega)
  injection e with e1 _ e3
  subst e1 e3
  refine ⟨g, 0, rfl, ?_⟩
  obtain ⟨h0, h1, h2, h3, h4⟩ := hc.2 j _ (Part_at hj)
  exact ⟨by simpa using hcell _ _ h0, by simpa using hcell _ _ h1, by simpa using hcell _ _ h2, by simpa using hcell _ _ h3, by simpa using hcell _ _ h4⟩
theorem Parts_cells {w : World} {v : Value} {xs : List Part} (h : PartsAt w v xs) : ∃ cs, CellsAt w v xs.length 5 cs ∧ PartC w cs xs := by
  obtain ⟨ad, cap, rfl, hl, hnil, hc⟩ := h
  have : ∀ j, j < xs.length → ∃ l : List Value, l.length = 5 ∧ (∀ k u, l[k]? = some u → ∃ g o, ad = some ⟨g, o, none⟩ ∧ w.cell? ⟨g, o + j * 5 + k, none⟩ = some u) ∧ PartC w l [xs.getD j nilPart] := fun j hj => by
    obtain ⟨g, o, e, h0, h1, h2, h3, h4⟩ := hc j hj
    refine ⟨[.int .i64 (xs.getD j nilPart).kind, .string (xs.getD j nilPart).text, .int .i64 (xs.getD j nilPart).field, .int .i64 (xs.getD j nilPart).width, .int .i64 (xs.getD j nilPart).cls], rfl, fun k u hk => ⟨g, o, e, ?_⟩, PartC.one w _⟩
    match k with
    | 0 => simp at hk; subst hk; exact h0
    | 1 => simp at hk; subst hk; exact h1
    | 2 => simp at hk; subst hk; exact h2
    | 3 => simp at hk; subst hk; exact h3
    | 4 => simp at hk; subst hk; exact h4
    | k + 5 => simp at hk
  exact cells_build ad cap 5 (by decide) xs nilPart (fun w cs xs => PartC w cs xs) (PartC.nil w) (fun a b => a.append b) (fun a => a.ones) (fun e => ⟨hnil.1 e, by have := hnil.2; have := hnil.1 e; omega⟩) this
theorem at_oneCellPartsAt {w : World} {v : Value} {xs : List Part} (h : PartsAt w v xs) : v.oneCell' = true := by
  obtain ⟨ad, cap, rfl, _⟩ := h
  rfl

/-- The cells of one, in a row of cells. -/
def StyleC1 (w : World) (cs : List Value) (o : Nat) (x : Style) : Prop := ∃ v0, cs[o + 0]? = some (.int .i64 x.kind) ∧ cs[o + 1]? = some (v0) ∧ PartsAt w v0 x.parts ∧ v0.oneCell' = true
def StyleC (w : World) (cs : List Value) (xs : List Style) : Prop := cs.length = xs.length * 2 ∧ ∀ j x, xs[j]? = some x → StyleC1 w cs (j * 2) x
theorem StyleC.nil (w : World) : StyleC w [] [] := ⟨rfl, fun j x h => by simp at h⟩
theorem StyleC.on {w w' : World} {cs : List Value} {xs : List Style} (h : StyleC w cs xs) (hb : Below w.heap.size w w') : StyleC w' cs xs := ⟨h.1, fun j x hx => by
  obtain ⟨v0, h0, h1, a0, b0⟩ := h.2 j x hx
  exact ⟨v0, h0, h1, a0.on hb, b0⟩⟩
theorem StyleC.append {w : World} {cs ds : List Value} {xs ys : List Style} (h : StyleC w cs xs) (k : StyleC w ds ys) : StyleC w (cs ++ ds) (xs ++ ys) := by
  refine ⟨by rw [List.length_append, List.length_append, h.1, k.1, Nat.add_mul], fun j x hx => ?_⟩
  rcases append_at (ds := ds) h.1 hx with ⟨hh1, hh2⟩ | ⟨i, _, hh1, hh2⟩
  · obtain ⟨v0, h0, h1, a0, b0⟩ := h.2 j x hh1
    exact ⟨v0, (hh2 0 (by decide)).trans h0, (hh2 1 (by decide)).trans h1, a0, b0⟩
  · obtain ⟨v0, h0, h1, a0, b0⟩ := k.2 i x hh1
    exact ⟨v0, (hh2 0).trans h0, (hh2 1).trans h1, a0, b0⟩
theorem StyleC.one (w : World) (x : Style) (v0 : Value) (a0 : PartsAt w v0 x.parts) (b0 : v0.oneCell' = true) : StyleC w [.int .i64 x.kind, v0] [x] := ⟨rfl, fun j y h => by
  obtain ⟨rfl, rfl⟩ : j = 0 ∧ y = x := by
    cases j with
    | zero => simpa [eq_comm] using h
    | succ j => simp at h
  exact ⟨v0, rfl, rfl, a0, b0⟩⟩
theorem StyleC.ones {w : World} {cs : List Value} {xs : List Style} (h : StyleC w cs xs) : ∀ u ∈ cs, u.oneCell' = true := by
  intro u hu
  obtain ⟨i, hi⟩ := List.getElem?_of_mem hu
  have hil := (List.getElem?_eq_some_iff.1 hi).1
  rw [h.1] at hil
  have hj : i / 2 < xs.length := by omega
  obtain ⟨v0, h0, h1, a0, b0⟩ := h.2 (i / 2) _ (List.getElem?_eq_getElem hj)
  have hr : i % 2 < 2 := Nat.mod_lt _ (by decide)
  have hd : i = i / 2 * 2 + i % 2 := by omega
  generalize i % 2 = r at *
  rw [hd] at hi
  match r, hr with
  | 0, _ => rw [h0] at hi; obtain rfl := Option.some.inj hi; rfl
  | 1, _ => rw [h1] at hi; obtain rfl := Option.some.inj hi; exact b0
theorem info_Style : (Tryz.prog.info? 52).map (fun i => (i.zero, i.size, i.bytes)) = some (some (.agg #[.int .i64 0, .slice none 0 0]), 2, 32) := by kernel_rfl
theorem Styles_own {w : World} {B : Nat} {v : Value} {cs : List Value} {xs : List Style} (h : w.ownsRow B 52 2 v xs.length cs) (hc : StyleC w cs xs) (hl : xs.length ≤ 1000000) : StylesAt w v xs := by
  obtain ⟨ad, cap, rfl, hn, hcp⟩ := own_shape h
  refine ⟨ad, cap, rfl, hl, ⟨fun e => (hn e).1, hcp⟩, fun j hj => ?_⟩
  obtain ⟨g, cap', e, _, _, hcell⟩ := own_at h (by omega)
  injection e with e1 _ e3
  subst e1 e3
  refine ⟨g, 0, rfl, ?_⟩
  obtain ⟨v0, h0, h1, a0, b0⟩ := hc.2 j _ (Style_at hj)
  exact ⟨v0, by simpa using hcell _ _ h0, by simpa using hcell _ _ h1, a0⟩
theorem Styles_cells {w : World} {v : Value} {xs : List Style} (h : StylesAt w v xs) : ∃ cs, CellsAt w v xs.length 2 cs ∧ StyleC w cs xs := by
  obtain ⟨ad, cap, rfl, hl, hnil, hc⟩ := h
  have : ∀ j, j < xs.length → ∃ l : List Value, l.length = 2 ∧ (∀ k u, l[k]? = some u → ∃ g o, ad = some ⟨g, o, none⟩ ∧ w.cell? ⟨g, o + j * 2 + k, none⟩ = some u) ∧ StyleC w l [xs.getD j nilStyle] := fun j hj => by
    obtain ⟨g, o, e, v0, h0, h1, a0⟩ := hc j hj
    refine ⟨[.int .i64 (xs.getD j nilStyle).kind, v0], rfl, fun k u hk => ⟨g, o, e, ?_⟩, StyleC.one w _ _ a0 (at_oneCellPartsAt a0)⟩
    match k with
    | 0 => simp at hk; subst hk; exact h0
    | 1 => simp at hk; subst hk; exact h1
    | k + 2 => simp at hk
  exact cells_build ad cap 2 (by decide) xs nilStyle (fun w cs xs => StyleC w cs xs) (StyleC.nil w) (fun a b => a.append b) (fun a => a.ones) (fun e => ⟨hnil.1 e, by have := hnil.2; have := hnil.1 e; omega⟩) this
theorem at_oneCellStylesAt {w : World} {v : Value} {xs : List Style} (h : StylesAt w v xs) : v.oneCell' = true := by
  obtain ⟨ad, cap, rfl, _⟩ := h
  rfl

/-- The cells of one, in a row of cells. -/
def RuleC1 (w : World) (cs : List Value) (o : Nat) (x : Rule) : Prop := ∃ v0 v1, cs[o + 0]? = some (.int .i64 x.lhs) ∧ cs[o + 1]? = some (v0) ∧ cs[o + 2]? = some (.int .i64 x.op) ∧ cs[o + 3]? = some (v1) ∧ cs[o + 4]? = some (.int .i64 x.cost) ∧ Row w v0 x.rhs ∧ Row w v1 x.p ∧ v0.oneCell' = true ∧ v1.oneCell' = true
def RuleC (w : World) (cs : List Value) (xs : List Rule) : Prop := cs.length = xs.length * 5 ∧ ∀ j x, xs[j]? = some x → RuleC1 w cs (j * 5) x
theorem RuleC.nil (w : World) : RuleC w [] [] := ⟨rfl, fun j x h => by simp at h⟩
theorem RuleC.on {w w' : World} {cs : List Value} {xs : List Rule} (h : RuleC w cs xs) (hb : Below w.heap.size w w') : RuleC w' cs xs := ⟨h.1, fun j x hx => by
  obtain ⟨v0, v1, h0, h1, h2, h3, h4, a0, a1, b0, b1⟩ := h.2 j x hx
  exact ⟨v0, v1, h0, h1, h2, h3, h4, a0.on hb, a1.on hb, b0, b1⟩⟩
theorem RuleC.append {w : World} {cs ds : List Value} {xs ys : List Rule} (h : RuleC w cs xs) (k : RuleC w ds ys) : RuleC w (cs ++ ds) (xs ++ ys) := by
  refine ⟨by rw [List.length_append, List.length_append, h.1, k.1, Nat.add_mul], fun j x hx => ?_⟩
  rcases append_at (ds := ds) h.1 hx with ⟨hh1, hh2⟩ | ⟨i, _, hh1, hh2⟩
  · obtain ⟨v0, v1, h0, h1, h2, h3, h4, a0, a1, b0, b1⟩ := h.2 j x hh1
    exact ⟨v0, v1, (hh2 0 (by decide)).trans h0, (hh2 1 (by decide)).trans h1, (hh2 2 (by decide)).trans h2, (hh2 3 (by decide)).trans h3, (hh2 4 (by decide)).trans h4, a0, a1, b0, b1⟩
  · obtain ⟨v0, v1, h0, h1, h2, h3, h4, a0, a1, b0, b1⟩ := k.2 i x hh1
    exact ⟨v0, v1, (hh2 0).trans h0, (hh2 1).trans h1, (hh2 2).trans h2, (hh2 3).trans h3, (hh2 4).trans h4, a0, a1, b0, b1⟩
theorem RuleC.one (w : World) (x : Rule) (v0 : Value) (v1 : Value) (a0 : Row w v0 x.rhs) (a1 : Row w v1 x.p) (b0 : v0.oneCell' = true) (b1 : v1.oneCell' = true) : RuleC w [.int .i64 x.lhs, v0, .int .i64 x.op, v1, .int .i64 x.cost] [x] := ⟨rfl, fun j y h => by
  obtain ⟨rfl, rfl⟩ : j = 0 ∧ y = x := by
    cases j with
    | zero => simpa [eq_comm] using h
    | succ j => simp at h
  exact ⟨v0, v1, rfl, rfl, rfl, rfl, rfl, a0, a1, b0, b1⟩⟩
theorem RuleC.ones {w : World} {cs : List Value} {xs : List Rule} (h : RuleC w cs xs) : ∀ u ∈ cs, u.oneCell' = true := by
  intro u hu
  obtain ⟨i, hi⟩ := List.getElem?_of_mem hu
  have hil := (List.getElem?_eq_some_iff.1 hi).1
  rw [h.1] at hil
  have hj : i / 5 < xs.length := by omega
  obtain ⟨v0, v1, h0, h1, h2, h3, h4, a0, a1, b0, b1⟩ := h.2 (i / 5) _ (List.getElem?_eq_getElem hj)
  have hr : i % 5 < 5 := Nat.mod_lt _ (by decide)
  have hd : i = i / 5 * 5 + i % 5 := by omega
  generalize i % 5 = r at *
  rw [hd] at hi
  match r, hr with
  | 0, _ => rw [h0] at hi; obtain rfl := Option.some.inj hi; rfl
  | 1, _ => rw [h1] at hi; obtain rfl := Option.some.inj hi; exact b0
  | 2, _ => rw [h2] at hi; obtain rfl := Option.some.inj hi; rfl
  | 3, _ => rw [h3] at hi; obtain rfl := Option.some.inj hi; exact b1
  | 4, _ => rw [h4] at hi; obtain rfl := Option.some.inj hi; rfl
theorem info_Rule : (Tryz.prog.info? 56).map (fun i => (i.zero, i.size, i.bytes)) = some (some (.agg #[.int .i64 0, .slice none 0 0, .int .i64 0, .slice none 0 0, .int .i64 0]), 5, 72) := by kernel_rfl
theorem rules_own {w : World} {B : Nat} {v : Value} {cs : List Value} {xs : List Rule} (h : w.ownsRow B 56 5 v xs.length cs) (hc : RuleC w cs xs) (hl : xs.length ≤ 1000000) : RulesOk w v xs := by
  obtain ⟨ad, cap, rfl, hn, hcp⟩ := own_shape h
  refine ⟨⟨ad, cap, rfl, hl, fun j hj => ?_⟩, fun n c e => by injection e with e1 _ e3; rw [← e3]; exact (hn e1).1⟩
  obtain ⟨g, cap', e, _, _, hcell⟩ := own_at h (by omega)
  injection e with e1 _ e3
  subst e1 e3
  refine ⟨g, 0, rfl, ?_⟩
  obtain ⟨v0, v1, h0, h1, h2, h3, h4, a0, a1, _⟩ := hc.2 j _ (rule_at hj)
  exact ⟨v0, v1, by simpa using hcell _ _ h0, by simpa using hcell _ _ h1, by simpa using hcell _ _ h2, by simpa using hcell _ _ h3, by simpa using hcell _ _ h4, a0, a1⟩
theorem row_oneCell {w : World} {v : Value} {xs : List Int} (h : Row w v xs) : v.oneCell' = true := by
  obtain ⟨ad, cap, rfl, _⟩ := h
  rfl
theorem rules_cells {w : World} {v : Value} {xs : List Rule} (h : RulesOk w v xs) : ∃ cs, CellsAt w v xs.length 5 cs ∧ RuleC w cs xs := by
  obtain ⟨⟨ad, cap, rfl, hl, hc⟩, hnil⟩ := h
  have : ∀ j, j < xs.length → ∃ l : List Value, l.length = 5 ∧ (∀ k u, l[k]? = some u → ∃ g o, ad = some ⟨g, o, none⟩ ∧ w.cell? ⟨g, o + j * 5 + k, none⟩ = some u) ∧ RuleC w l [xs.getD j nilRule] := fun j hj => by
    obtain ⟨g, o, e, sv, pv, h0, h1, h2, h3, h4, h5, h6⟩ := hc j hj
    refine ⟨[.int .i64 (xs.getD j nilRule).lhs, sv, .int .i64 (xs.getD j nilRule).op, pv, .int .i64 (xs.getD j nilRule).cost], rfl, fun k u hk => ⟨g, o, e, ?_⟩, RuleC.one w _ _ _ h5 h6 (row_oneCell h5) (row_oneCell h6)⟩
    match k with
    | 0 => simp at hk; subst hk; exact h0
    | 1 => simp at hk; subst hk; exact h1
    | 2 => simp at hk; subst hk; exact h2
    | 3 => simp at hk; subst hk; exact h3
    | 4 => simp at hk; subst hk; exact h4
    | k + 5 => simp at hk
  exact cells_build ad cap 5 (by decide) xs nilRule (fun w cs xs => RuleC w cs xs) (RuleC.nil w) (fun a b => a.append b) (fun a => a.ones) (fun e => ⟨hnil _ _ (by rw [e]), by
    cases hx : xs with
    | nil => rfl
    | cons y ys => obtain ⟨g, o, e2, _⟩ := hc 0 (by rw [hx]; simp); rw [e] at e2; cases e2⟩) this
theorem at_oneCellRulesOk {w : World} {v : Value} {xs : List Rule} (h : RulesOk w v xs) : v.oneCell' = true := by
  obtain ⟨⟨ad, cap, rfl, _⟩, _⟩ := h
  rfl

/-- The cells of one, in a row of cells. -/
def LocaleC1 (w : World) (cs : List Value) (o : Nat) (x : Locale) : Prop := ∃ v0 v1 v2, cs[o + 0]? = some (.string x.id) ∧ cs[o + 1]? = some (.int .i64 x.parent) ∧ cs[o + 2]? = some (.int .i64 x.digits) ∧ cs[o + 3]? = some (v0) ∧ cs[o + 4]? = some (v1) ∧ cs[o + 5]? = some (v2) ∧ EntriesAt w v0 x.lex ∧ RulesOk w v1 x.rules ∧ StylesAt w v2 x.styles ∧ v0.oneCell' = true ∧ v1.oneCell' = true ∧ v2.oneCell' = true
def LocaleC (w : World) (cs : List Value) (xs : List Locale) : Prop := cs.length = xs.length * 6 ∧ ∀ j x, xs[j]? = some x → LocaleC1 w cs (j * 6) x
theorem LocaleC.nil (w : World) : LocaleC w [] [] := ⟨rfl, fun j x h => by simp at h⟩
theorem LocaleC.on {w w' : World} {cs : List Value} {xs : List Locale} (h : LocaleC w cs xs) (hb : Below w.heap.size w w') : LocaleC w' cs xs := ⟨h.1, fun j x hx => by
  obtain ⟨v0, v1, v2, h0, h1, h2, h3, h4, h5, a0, a1, a2, b0, b1, b2⟩ := h.2 j x hx
  exact ⟨v0, v1, v2, h0, h1, h2, h3, h4, h5, a0.on hb, a1.on hb, a2.on hb, b0, b1, b2⟩⟩
theorem LocaleC.append {w : World} {cs ds : List Value} {xs ys : List Locale} (h : LocaleC w cs xs) (k : LocaleC w ds ys) : LocaleC w (cs ++ ds) (xs ++ ys) := by
  refine ⟨by rw [List.length_append, List.length_append, h.1, k.1, Nat.add_mul], fun j x hx => ?_⟩
  rcases append_at (ds := ds) h.1 hx with ⟨hh1, hh2⟩ | ⟨i, _, hh1, hh2⟩
  · obtain ⟨v0, v1, v2, h0, h1, h2, h3, h4, h5, a0, a1, a2, b0, b1, b2⟩ := h.2 j x hh1
    exact ⟨v0, v1, v2, (hh2 0 (by decide)).trans h0, (hh2 1 (by decide)).trans h1, (hh2 2 (by decide)).trans h2, (hh2 3 (by decide)).trans h3, (hh2 4 (by decide)).trans h4, (hh2 5 (by decide)).trans h5, a0, a1, a2, b0, b1, b2⟩
  · obtain ⟨v0, v1, v2, h0, h1, h2, h3, h4, h5, a0, a1, a2, b0, b1, b2⟩ := k.2 i x hh1
    exact ⟨v0, v1, v2, (hh2 0).trans h0, (hh2 1).trans h1, (hh2 2).trans h2, (hh2 3).trans h3, (hh2 4).trans h4, (hh2 5).trans h5, a0, a1, a2, b0, b1, b2⟩
theorem LocaleC.one (w : World) (x : Locale) (v0 : Value) (v1 : Value) (v2 : Value) (a0 : EntriesAt w v0 x.lex) (a1 : RulesOk w v1 x.rules) (a2 : StylesAt w v2 x.styles) (b0 : v0.oneCell' = true) (b1 : v1.oneCell' = true) (b2 : v2.oneCell' = true) : LocaleC w [.string x.id, .int .i64 x.parent, .int .i64 x.digits, v0, v1, v2] [x] := ⟨rfl, fun j y h => by
  obtain ⟨rfl, rfl⟩ : j = 0 ∧ y = x := by
    cases j with
    | zero => simpa [eq_comm] using h
    | succ j => simp at h
  exact ⟨v0, v1, v2, rfl, rfl, rfl, rfl, rfl, rfl, a0, a1, a2, b0, b1, b2⟩⟩
theorem LocaleC.ones {w : World} {cs : List Value} {xs : List Locale} (h : LocaleC w cs xs) : ∀ u ∈ cs, u.oneCell' = true := by
  intro u hu
  obtain ⟨i, hi⟩ := List.getElem?_of_mem hu
  have hil := (List.getElem?_eq_some_iff.1 hi).1
  rw [h.1] at hil
  have hj : i / 6 < xs.length := by omega
  obtain ⟨v0, v1, v2, h0, h1, h2, h3, h4, h5, a0, a1, a2, b0, b1, b2⟩ := h.2 (i / 6) _ (List.getElem?_eq_getElem hj)
  have hr : i % 6 < 6 := Nat.mod_lt _ (by decide)
  have hd : i = i / 6 * 6 + i % 6 := by omega
  generalize i % 6 = r at *
  rw [hd] at hi
  match r, hr with
  | 0, _ => rw [h0] at hi; obtain rfl := Option.some.inj hi; rfl
  | 1, _ => rw [h1] at hi; obtain rfl := Option.some.inj hi; rfl
  | 2, _ => rw [h2] at hi; obtain rfl := Option.some.inj hi; rfl
  | 3, _ => rw [h3] at hi; obtain rfl := Option.some.inj hi; exact b0
  | 4, _ => rw [h4] at hi; obtain rfl := Option.some.inj hi; exact b1
  | 5, _ => rw [h5] at hi; obtain rfl := Option.some.inj hi; exact b2
theorem info_Locale : (Tryz.prog.info? 44).map (fun i => (i.zero, i.size, i.bytes)) = some (some (.agg #[.string ⟨#[]⟩, .int .i64 0, .int .i64 0, .slice none 0 0, .slice none 0 0, .slice none 0 0]), 6, 104) := by kernel_rfl
theorem Locales_own {w : World} {B : Nat} {v : Value} {cs : List Value} {xs : List Locale} (h : w.ownsRow B 44 6 v xs.length cs) (hc : LocaleC w cs xs) (hl : xs.length ≤ 1000000) : LocalesAt w v xs := by
  obtain ⟨ad, cap, rfl, hn, hcp⟩ := own_shape h
  refine ⟨ad, cap, rfl, hl, ⟨fun e => (hn e).1, hcp⟩, fun j hj => ?_⟩
  obtain ⟨g, cap', e, _, _, hcell⟩ := own_at h (by omega)
  injection e with e1 _ e3
  subst e1 e3
  refine ⟨g, 0, rfl, ?_⟩
  obtain ⟨v0, v1, v2, h0, h1, h2, h3, h4, h5, a0, a1, a2, b0, b1, b2⟩ := hc.2 j _ (Locale_at hj)
  exact ⟨v0, v1, v2, by simpa using hcell _ _ h0, by simpa using hcell _ _ h1, by simpa using hcell _ _ h2, by simpa using hcell _ _ h3, by simpa using hcell _ _ h4, by simpa using hcell _ _ h5, a0, a1, a2⟩
theorem Locales_cells {w : World} {v : Value} {xs : List Locale} (h : LocalesAt w v xs) : ∃ cs, CellsAt w v xs.length 6 cs ∧ LocaleC w cs xs := by
  obtain ⟨ad, cap, rfl, hl, hnil, hc⟩ := h
  have : ∀ j, j < xs.length → ∃ l : List Value, l.length = 6 ∧ (∀ k u, l[k]? = some u → ∃ g o, ad = some ⟨g, o, none⟩ ∧ w.cell? ⟨g, o + j * 6 + k, none⟩ = some u) ∧ LocaleC w l [xs.getD j nilLocale] := fun j hj => by
    obtain ⟨g, o, e, v0, v1, v2, h0, h1, h2, h3, h4, h5, a0, a1, a2⟩ := hc j hj
    refine ⟨[.string (xs.getD j nilLocale).id, .int .i64 (xs.getD j nilLocale).parent, .int .i64 (xs.getD j nilLocale).digits, v0, v1, v2], rfl, fun k u hk => ⟨g, o, e, ?_⟩, LocaleC.one w _ _ _ _ a0 a1 a2 (at_oneCellEntriesAt a0) (at_oneCellRulesOk a1) (at_oneCellStylesAt a2)⟩
    match k with
    | 0 => simp at hk; subst hk; exact h0
    | 1 => simp at hk; subst hk; exact h1
    | 2 => simp at hk; subst hk; exact h2
    | 3 => simp at hk; subst hk; exact h3
    | 4 => simp at hk; subst hk; exact h4
    | 5 => simp at hk; subst hk; exact h5
    | k + 6 => simp at hk
  exact cells_build ad cap 6 (by decide) xs nilLocale (fun w cs xs => LocaleC w cs xs) (LocaleC.nil w) (fun a b => a.append b) (fun a => a.ones) (fun e => ⟨hnil.1 e, by have := hnil.2; have := hnil.1 e; omega⟩) this
theorem at_oneCellLocalesAt {w : World} {v : Value} {xs : List Locale} (h : LocalesAt w v xs) : v.oneCell' = true := by
  obtain ⟨ad, cap, rfl, _⟩ := h
  rfl

end Go.Proofs.YtohgaknojkdohaaGreatDoor

/- What is read: plain functions of the bytes that are left; rows that a call made, told from a block on. -/
namespace Go.Proofs.YtohgaknojkdohaaGreatDoor
open Go.RowKit Gr

/-- All numbers are bytes. -/
def Byt (l : List Int) : Prop := ∀ z ∈ l, 0 ≤ z ∧ z < 256
/-- The bytes themselves. -/
def bytesL (l : List Int) : List UInt8 := l.map fun z => z.toNat.toUInt8
abbrev Rdr (α : Type) := List Int → Option (α × List Int)
def accB (l : List Int) : Int := l.foldl (fun a b => a * 256 + b) 0
def pNum : Rdr Int := fun bs => if 8 ≤ bs.length then some (wrap64 (accB (bs.take 8)), bs.drop 8) else none
def pCount (most : Int) : Rdr Nat := fun bs => (pNum bs).bind fun x => if inB x.1 0 most = true then some (x.1.toNat, x.2) else none
def textB (l : List Int) : ByteArray := ⟨(bytesL l).toArray⟩
def pText (most : Int) : Rdr ByteArray := fun bs => (pCount most bs).bind fun x => if x.1 ≤ x.2.length then some (textB (x.2.take x.1), x.2.drop x.1) else none
def pMany {α : Type} (p : Rdr α) : Nat → Rdr (List α)
  | 0, bs => some ([], bs)
  | n + 1, bs => (p bs).bind fun x => (pMany p n x.2).bind fun y => some (x.1 :: y.1, y.2)
def pList {α : Type} (most : Int) (p : Rdr α) : Rdr (List α) := fun bs => (pCount most bs).bind fun x => pMany p x.1 x.2
def pEntry : Rdr Entry := fun bs => (pText 20 bs).bind fun a => (pNum a.2).bind fun b => (pNum b.2).bind fun c => some (⟨a.1, b.1, c.1⟩, c.2)
def pRule : Rdr Rule := fun bs => (pNum bs).bind fun a => (pList 6 pNum a.2).bind fun b => (pNum b.2).bind fun c => (pList 6 pNum c.2).bind fun d => (pNum d.2).bind fun e => some (⟨a.1, b.1, c.1, d.1, e.1⟩, e.2)
def pPart : Rdr Part := fun bs => (pNum bs).bind fun a => (pText 20 a.2).bind fun b => (pNum b.2).bind fun c => (pNum c.2).bind fun d => (pNum d.2).bind fun e => some (⟨a.1, b.1, c.1, d.1, e.1⟩, e.2)
def pStyle : Rdr Style := fun bs => (pNum bs).bind fun a => (pList 12 pPart a.2).bind fun b => some (⟨a.1, b.1⟩, b.2)
def pLocale : Rdr Locale := fun bs => (pText 12 bs).bind fun a => (pNum a.2).bind fun b => (pNum b.2).bind fun c => (pList 30 pEntry c.2).bind fun d => (pList 60 pRule d.2).bind fun e => (pList 20 pStyle e.2).bind fun f => some (⟨a.1, b.1, c.1, d.1, e.1, f.1⟩, f.2)
def pLocales : Rdr (List Locale) := pList 10 pLocale
/-- What Decode answers. -/
def parsed (bs : List Int) : Option (List Locale) := (pLocales bs).bind fun x => if x.2 = [] then some x.1 else none
def decL (bs : List Int) : Option (List Locale) := (parsed bs).bind fun ls => if rightL ls = true then some ls else none

theorem accB_snoc (l : List Int) (b : Int) : accB (l ++ [b]) = accB l * 256 + b := by simp [accB]
theorem acc_bound (l : List Int) : ∀ (a : Int) (m : Nat), Byt l → 0 ≤ a → a < 256 ^ m → 0 ≤ l.foldl (fun a b => a * 256 + b) a ∧ l.foldl (fun a b => a * 256 + b) a < 256 ^ (m + l.length) := by
  induction l with
  | nil => intro a m _ h0 h1; exact ⟨h0, by simpa using h1⟩
  | cons b l ih =>
    intro a m h h0 h1
    have hb := h b (by simp)
    have := ih (a * 256 + b) (m + 1) (fun z hz => h z (List.mem_cons_of_mem _ hz)) (by omega) (by rw [Int.pow_succ]; omega)
    rw [List.length_cons, show m + (l.length + 1) = m + 1 + l.length by omega]
    exact this
theorem accB_bound (l : List Int) (h : Byt l) : 0 ≤ accB l ∧ accB l < 256 ^ l.length := by
  have := acc_bound l 0 0 h (by omega) (by simp)
  rwa [Nat.zero_add] at this
theorem pMany_length {α : Type} {p : Rdr α} : ∀ {n : Nat} {bs : List Int} {xs : List α} {r : List Int}, pMany p n bs = some (xs, r) → xs.length = n
  | 0, _, _, _, h => by simp [pMany] at h; simp [h.1.symm]
  | n + 1, bs, xs, r, h => by
    simp only [pMany, Option.bind_eq_some_iff, Prod.exists] at h
    obtain ⟨a, b, _, c, d, h2, h3⟩ := h
    simp only [Option.some.injEq, Prod.mk.injEq] at h3
    rw [← h3.1, List.length_cons, pMany_length h2]
theorem pMany_all {α : Type} {p : Rdr α} {Q : α → Prop} (hp : ∀ bs x r, p bs = some (x, r) → Q x) : ∀ {n : Nat} {bs : List Int} {xs : List α} {r : List Int}, pMany p n bs = some (xs, r) → ∀ x ∈ xs, Q x
  | 0, _, _, _, h => by
    simp only [pMany, Option.some.injEq, Prod.mk.injEq] at h
    rw [← h.1]
    intro x hx
    cases hx
  | n + 1, bs, xs, r, h => by
    simp only [pMany, Option.bind_eq_some_iff, Prod.exists] at h
    obtain ⟨a, b, h1, c, d, h2, h3⟩ := h
    simp only [Option.some.injEq, Prod.mk.injEq] at h3
    rw [← h3.1]
    intro x hx
    rcases List.mem_cons.1 hx with e | hx
    · rw [e]; exact hp _ _ _ h1
    · exact pMany_all hp h2 x hx
theorem pCount_le {most : Int} {bs : List Int} {n : Nat} {r : List Int} (h : pCount most bs = some (n, r)) : (n : Int) ≤ most := by
  simp only [pCount, Option.bind_eq_some_iff, Prod.exists] at h
  obtain ⟨a, b, _, h2⟩ := h
  split at h2
  · rename_i hi
    simp only [Option.some.injEq, Prod.mk.injEq] at h2
    have := inB_iff.1 hi
    omega
  · cases h2
theorem pList_length {α : Type} {most : Int} {p : Rdr α} {bs : List Int} {xs : List α} {r : List Int} (h : pList most p bs = some (xs, r)) : (xs.length : Int) ≤ most := by
  simp only [pList, Option.bind_eq_some_iff, Prod.exists] at h
  obtain ⟨a, b, h1, h2⟩ := h
  rw [pMany_length h2]
  exact pCount_le h1
theorem pList_all {α : Type} {most : Int} {p : Rdr α} {Q : α → Prop} (hp : ∀ bs x r, p bs = some (x, r) → Q x) {bs : List Int} {xs : List α} {r : List Int} (h : pList most p bs = some (xs, r)) : ∀ x ∈ xs, Q x := by
  simp only [pList, Option.bind_eq_some_iff, Prod.exists] at h
  obtain ⟨a, b, h1, h2⟩ := h
  exact pMany_all hp h2
theorem textB_size (l : List Int) : (textB l).size = l.length := by simp [textB, bytesL, ByteArray.size]
theorem pText_size {most : Int} {bs : List Int} {s : ByteArray} {r : List Int} (h : pText most bs = some (s, r)) : (s.size : Int) ≤ most := by
  simp only [pText, Option.bind_eq_some_iff, Prod.exists] at h
  obtain ⟨a, b, h1, h2⟩ := h
  split at h2
  · simp only [Option.some.injEq, Prod.mk.injEq] at h2
    rw [← h2.1, textB_size, List.length_take]
    have := pCount_le h1
    omega
  · cases h2
/-- From block B on nothing of w is another in w'. -/
structure Up (B : Nat) (w w' : World) : Prop where
  size : w.heap.size ≤ w'.heap.size
  block : ∀ k, B ≤ k → k < w.heap.size → w'.heap[k]? = w.heap[k]?
theorem Up.refl (B : Nat) (w : World) : Up B w w := ⟨Nat.le_refl _, fun _ _ _ => rfl⟩
theorem Up.trans {B : Nat} {a b c : World} (h : Up B a b) (k : Up B b c) : Up B a c := ⟨Nat.le_trans h.size k.size, fun i h1 h2 => (k.block i h1 (Nat.lt_of_lt_of_le h2 h.size)).trans (h.block i h1 h2)⟩
theorem Up.mono {B B' : Nat} {w w' : World} (h : Up B w w') (hb : B ≤ B') : Up B' w w' := ⟨h.size, fun k h1 h2 => h.block k (Nat.le_trans hb h1) h2⟩
theorem Up.of_grown {B : Nat} {w w' : World} {o : Option Nat} (h : w.grownBy w' o) (ho : ∀ k, o = some k → k < B) : Up B w w' := ⟨h.size, fun k h1 h2 => h.block k h2 (fun e => by have := ho k e.symm; omega)⟩
theorem Up.of_below {B : Nat} {w w' : World} (h : Below w.heap.size w w') : Up B w w' := ⟨h.size, fun k _ h2 => h.block k h2⟩
theorem Up.cell {B : Nat} {w w' : World} (h : Up B w w') {a : Addr} {v : Value} (ha : w.cell? a = some v) (hb : B ≤ a.block) : w'.cell? a = some v := by
  rw [← ha]
  unfold World.cell?
  rw [h.block a.block hb (lt_of_cell ha)]
/-- It holds, and goes on to, whatever becomes of blocks ahead of B. -/
def Own (B : Nat) (w : World) (P : World → Prop) : Prop := ∀ W, Up B w W → P W
theorem Own.now {B : Nat} {w : World} {P : World → Prop} (h : Own B w P) : P w := h w (Up.refl _ _)
theorem Own.step {B : Nat} {w w' : World} {P : World → Prop} (h : Own B w P) (u : Up B w w') : Own B w' P := fun W k => h W (u.trans k)
theorem Own.base {B B' : Nat} {w : World} {P : World → Prop} (h : Own B w P) (hb : B' ≤ B) : Own B' w P := fun W k => h W (k.mono hb)
theorem Own.imp {B : Nat} {w : World} {P Q : World → Prop} (h : Own B w P) (f : ∀ W, P W → Q W) : Own B w Q := fun W k => f W (h W k)
theorem Own.all {B : Nat} {w : World} {P : World → Prop} (h : ∀ W, P W) : Own B w P := fun W _ => h W
theorem grown_on {g : Nat} {w w1 w2 : World} (h : w.grownBy w1 (some g)) (k : w1.grownBy w2 (some g)) : w.grownBy w2 (some g) := ⟨k.os.trans h.os, k.tape.trans h.tape, k.output.trans h.output, Nat.le_trans h.size k.size, fun i h1 h2 => (k.block i (Nat.lt_of_lt_of_le h1 h.size) h2).trans (h.block i h1 h2)⟩
theorem grown_up {g : Nat} {w w1 w2 : World} (h : w.grownBy w1 (some g)) (k : Below w1.heap.size w1 w2) : w.grownBy w2 (some g) := ⟨k.os.trans h.os, k.tape.trans h.tape, k.output.trans h.output, Nat.le_trans h.size k.size, fun i h1 h2 => (k.block i (Nat.lt_of_lt_of_le h1 h.size)).trans (h.block i h1 h2)⟩
/-- A store into a block that was not there. -/
theorem grown_new {g : Nat} {w w1 w2 : World} {k : Nat} (h : w.grownBy w1 (some g)) (hk : w.heap.size ≤ k) (q : w1.grownBy w2 (some k)) : w.grownBy w2 (some g) := ⟨q.os.trans h.os, q.tape.trans h.tape, q.output.trans h.output, Nat.le_trans h.size q.size, fun i h1 h2 => (q.block i (Nat.lt_of_lt_of_le h1 h.size) (fun e => by injection e with e; omega)).trans (h.block i h1 h2)⟩

end Go.Proofs.YtohgaknojkdohaaGreatDoor
