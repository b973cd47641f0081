/- Ref1, Ref2, At, RRight: these texts, one behind the other. -/
import Derived.Test.YtohgaknojkdohaaGreatDoorTa
import Derived.Test.YtohgaknojkdohaaGreatDoorFb
import Derived.Test.YtohgaknojkdohaaGreatDoorGrHeldR
import Derived.Deep.RegionLaw
import Derived.Deep.RegionHeld
import Derived.Test.YtohgaknojkdohaaGreatDoorGrRefCheck
/- What the reference answers of names, words, parts, styles, of what a locale has of its own. -/
namespace Go.Proofs.YtohgaknojkdohaaGreatDoor
open Go.RowKit Gr

theorem rin_any (n a b : Int) (w : World) : Calls Tryz.prog 42 #[.int .i64 n, .int .i64 a, .int .i64 b] w fun e w' => e = .returned (.bool (inB n a b)) ∧ w' = w := by
  by_cases h1 : a ≤ n
  · by_cases h2 : n ≤ b
    · rw [inB_true (And.intro h1 h2)]
      go_enter Tryz.func42, Tryz.ntmps42
      go_wp2
      go_ret
      exact ⟨rfl, rfl⟩
    · rw [inB_false (fun h => h2 h.2)]
      go_enter Tryz.func42, Tryz.ntmps42
      go_wp2
      go_ret
      exact ⟨rfl, rfl⟩
  · rw [inB_false (fun h => h1 h.1)]
    go_enter Tryz.func42, Tryz.ntmps42
    go_wp2
    go_ret
    exact ⟨rfl, rfl⟩

theorem rid_any (s : ByteArray) (w : World) (hs : s.size ≤ 1000000) : Calls Tryz.prog 81 #[.string s] w fun e w' => e = .returned (.bool (idOk s)) ∧ w' = w := by
  have HOK : Hid (idOk s = (inB (s.size : Int) 1 12 && (nums s).all idSign)) := hid (by unfold idOk; rw [nums_all])
  have HL := hid (nums_length s)
  have HG : Hid (∀ j (h : j < s.size), (nums s)[j]? = some ((s[j]'h).toNat : Int)) := hid (fun j h => by
    unfold nums
    rw [List.getElem?_map, List.getElem?_eq_getElem (show j < s.data.toList.length from h)]
    rfl)
  generalize idOk s = res at *
  generalize nums s = xs at *
  go_enter Tryz.func81, Tryz.ntmps81
  go_wp2
  go_loopw [3] (fun v wr => ∃ j : Nat, j ≤ s.size ∧ v = .int .i64 j ∧ Hid ((xs.take j).all idSign = true) ∧ wr = w) (fun v _ => s.size - (intOf v).toNat)
  case atStart => exact ⟨0, by omega, rfl, hid (by simp), rfl⟩
  case round =>
    obtain ⟨j, hj, rfl, ht, rfl⟩ := hrel
    by_cases hlt : j < s.size
    · have hlt2 : (j : Int) < (s.size : Int) := by omega
      have HX := hid (HG.out j hlt)
      obtain ⟨y, hy⟩ : ∃ y : Nat, ∀ h, (s[j]'h).toNat = y := ⟨(s[j]'hlt).toNat, fun _ => rfl⟩
      rw [hy] at HX
      by_cases a1 : 97 ≤ y ∧ y ≤ 122
      · have HS : Hid (idSign (y : Int) = true) := hid (by simp [idSign, inB]; omega)
        have f0 : (97 : Int) ≤ (y : Int) := by omega
        have f1 : (y : Int) ≤ 122 := by omega
        go_wp2
        go_roundw
        case rel => exact ⟨j + 1, by omega, by simp, hid (by rw [List.take_add_one, HX.out, List.all_append, ht.out]; simp [HS.out]), trivial⟩
        case measure => simp [intOf]; omega
      by_cases a2 : 48 ≤ y ∧ y ≤ 57
      · have HS : Hid (idSign (y : Int) = true) := hid (by simp [idSign, inB]; omega)
        have f0 : ¬ (97 : Int) ≤ (y : Int) := by omega
        have f1 : (48 : Int) ≤ (y : Int) := by omega
        have f2 : (y : Int) ≤ 57 := by omega
        go_wp2
        go_roundw
        case rel => exact ⟨j + 1, by omega, by simp, hid (by rw [List.take_add_one, HX.out, List.all_append, ht.out]; simp [HS.out]), trivial⟩
        case measure => simp [intOf]; omega
      by_cases a3 : y = 45
      · have HS : Hid (idSign (y : Int) = true) := hid (by simp [idSign, inB]; omega)
        have f0 : ¬ (97 : Int) ≤ (y : Int) := by omega
        have f1 : ¬ (48 : Int) ≤ (y : Int) := by omega
        have f2 : (y : Int) = 45 := by omega
        go_wp2
        go_roundw
        case rel => exact ⟨j + 1, by omega, by simp, hid (by rw [List.take_add_one, HX.out, List.all_append, ht.out]; simp [HS.out]), trivial⟩
        case measure => simp [intOf]; omega
      by_cases a4 : y < 48
      · have HS : Hid (idSign (y : Int) = false) := hid (by simp [idSign, inB]; omega)
        have f0 : ¬ (97 : Int) ≤ (y : Int) := by omega
        have f1 : ¬ (48 : Int) ≤ (y : Int) := by omega
        have f2 : ¬ (y : Int) = 45 := by omega
        go_wp2
        go_ret
        refine ⟨ret_bool ?_, rfl⟩
        rw [HOK.out]
        refine (Bool.eq_false_iff.2 fun hh => ?_).symm
        have := List.all_eq_true.1 ((Bool.and_eq_true_iff.1 hh).2) (y : Int) (List.mem_of_getElem? HX.out)
        rw [HS.out] at this
        cases this
      by_cases a5 : y < 97
      · have HS : Hid (idSign (y : Int) = false) := hid (by simp [idSign, inB]; omega)
        have f0 : ¬ (97 : Int) ≤ (y : Int) := by omega
        have f1 : (48 : Int) ≤ (y : Int) := by omega
        have f2 : ¬ (y : Int) ≤ 57 := by omega
        have f3 : ¬ (y : Int) = 45 := by omega
        go_wp2
        go_ret
        refine ⟨ret_bool ?_, rfl⟩
        rw [HOK.out]
        refine (Bool.eq_false_iff.2 fun hh => ?_).symm
        have := List.all_eq_true.1 ((Bool.and_eq_true_iff.1 hh).2) (y : Int) (List.mem_of_getElem? HX.out)
        rw [HS.out] at this
        cases this
      have HS : Hid (idSign (y : Int) = false) := hid (by simp [idSign, inB]; omega)
      have f0 : (97 : Int) ≤ (y : Int) := by omega
      have f1 : ¬ (y : Int) ≤ 122 := by omega
      have f2 : (48 : Int) ≤ (y : Int) := by omega
      have f3 : ¬ (y : Int) ≤ 57 := by omega
      have f4 : ¬ (y : Int) = 45 := by omega
      go_wp2
      go_ret
      refine ⟨ret_bool ?_, rfl⟩
      rw [HOK.out]
      refine (Bool.eq_false_iff.2 fun hh => ?_).symm
      have := List.all_eq_true.1 ((Bool.and_eq_true_iff.1 hh).2) (y : Int) (List.mem_of_getElem? HX.out)
      rw [HS.out] at this
      cases this
    · have ht' := ht.out
      rw [List.take_of_length_le (by rw [HL.out]; omega)] at ht'
      have HA := hid ht'
      clear ht'
      obtain rfl : j = s.size := by omega
      by_cases b1 : 1 ≤ s.size
      · have b1' : (1 : Int) ≤ (s.size : Int) := by omega
        by_cases b2 : s.size ≤ 12
        · have b2' : (s.size : Int) ≤ 12 := by omega
          go_wp2
          go_ret
          exact ⟨ret_bool (by rw [HOK.out, HA.out, inB_true (by omega)]; rfl), rfl⟩
        · have b2' : ¬ (s.size : Int) ≤ 12 := by omega
          go_wp2
          go_ret
          exact ⟨ret_bool (by rw [HOK.out, inB_false (by omega)]; rfl), rfl⟩
      · have b1' : ¬ (1 : Int) ≤ (s.size : Int) := by omega
        go_wp2
        go_ret
        exact ⟨ret_bool (by rw [HOK.out, inB_false (by omega)]; rfl), rfl⟩

theorem rword_any (x : Entry) (w : World) : Calls Tryz.prog 82 #[entryV x] w fun e w' => e = .returned (.bool (entryOk x)) ∧ Below w.heap.size w w' := by
  obtain ⟨s, cls, val⟩ := x
  unfold entryV entryOk wordOk clsOk
  dsimp only
  have H1 := hid (fun w => rin_any (s.size : Int) 1 20 w)
  have H2 := hid (fun w => rin_any cls 1 49 w)
  have H3 := hid (fun w => rin_any val (-1000000000) 1000000000 w)
  by_cases h1 : 1 ≤ s.size ∧ s.size ≤ 20
  · have e1 : inB (s.size : Int) 1 20 = true := inB_true (by omega)
    rw [e1] at H1 ⊢
    have H4 := hid (fun w => Fo.rtext_walk s w (by omega))
    obtain ⟨x, y, hx, hy, hx1, hy1⟩ := ends_of s h1.1
    have ht : (decide (Fo.textOf s.data.toList = s.data.toList)) = decide ((⟨(Fo.textOf s.data.toList).toArray⟩ : ByteArray) = s) := decide_eq_decide.2 ⟨fun h => by rw [h], fun h => by
      have := congrArg (fun b : ByteArray => b.data.toList) h
      simpa using this⟩
    rw [ht, hx1, hy1]
    clear hx1 hy1 ht e1
    generalize (⟨(Fo.textOf s.data.toList).toArray⟩ : ByteArray) = t at *
    generalize inB cls 1 49 = b2 at *
    generalize inB val (-1000000000) 1000000000 = b3 at *
    have hi1 : 0 < s.size := h1.1
    have hi2 : s.size - 1 < s.size := by omega
    have hi3 : ((s.size : Int) - 1).toNat = s.size - 1 := by omega
    have hi4 : (0 : Int) ≤ (s.size : Int) - 1 := by omega
    have hi5 : (s.size : Int) - 1 < (s.size : Int) := by omega
    go_enter Tryz.func82, Tryz.ntmps82
    go_wp2_with fail
    refine (H1.out _).mono ?_
    rintro e w1 ⟨rfl, hw⟩
    obtain rfl := hw.symm
    by_cases q2 : x = 32
    · subst q2
      go_wp2
      all_goals
        go_ret
        exact ⟨ret_bool (by simp_all), up_alloc _ _⟩
    have q2' : ¬ (x : Int) = 32 := by omega
    by_cases q3 : y = 32
    · subst q3
      go_wp2
      all_goals
        go_ret
        exact ⟨ret_bool (by simp_all), up_alloc _ _⟩
    have q3' : ¬ (y : Int) = 32 := by omega
    go_wp2_with fail
    refine (H4.out _).mono ?_
    rintro e w2 ⟨rfl, bel⟩
    have HB := hid (up_trans (up_alloc _ _) bel)
    have k1 := (bel.cell (p := ⟨w.heap.size, 1, none⟩) (by simp)).trans (new_cell w #[.string s, .int .i64 cls, .int .i64 val] 46 1)
    have k2 := (bel.cell (p := ⟨w.heap.size, 2, none⟩) (by simp)).trans (new_cell w #[.string s, .int .i64 cls, .int .i64 val] 46 2)
    simp only [List.getElem?_toArray, List.getElem?_cons_succ, List.getElem?_cons_zero] at k1 k2
    clear bel H4 H1
    by_cases q1 : t = s
    · subst q1
      go_wp2_with fail
      refine (H2.out _).mono ?_
      rintro e w3 ⟨rfl, hw3⟩
      obtain rfl := hw3.symm
      cases b2 with
      | false =>
        go_wp2
        go_ret
        exact ⟨ret_bool (by simp_all), HB.out⟩
      | true =>
        go_wp2_with fail
        refine (H3.out _).mono ?_
        rintro e w4 ⟨rfl, hw4⟩
        obtain rfl := hw4.symm
        go_wp2
        go_ret
        exact ⟨ret_bool (by cases b3 <;> simp_all), HB.out⟩
    · have q4 := toList_inj q1
      go_wp2
      all_goals
        go_ret
        exact ⟨ret_bool (by simp_all), HB.out⟩
  · have e1 : inB (s.size : Int) 1 20 = false := inB_false (by omega)
    rw [e1] at H1 ⊢
    go_enter Tryz.func82, Tryz.ntmps82
    go_wp2_with fail
    refine (H1.out _).mono ?_
    rintro e w1 ⟨rfl, hw⟩
    obtain rfl := hw.symm
    go_wp2
    go_ret
    exact ⟨rfl, up_alloc _ _⟩

theorem beq_dec (x : Int) : (x == 0) = decide (x = 0) := by by_cases h : x = 0 <;> simp [h]
theorem rpart_any (p : Part) (w : World) : Calls Tryz.prog 121 #[partV p] w fun e w' => e = .returned (.bool (partOk p)) ∧ Below w.heap.size w w' := by
  obtain ⟨kind, text, field, width, cls⟩ := p
  unfold partV
  have H1 := hid (fun w => rin_any field 0 5 w)
  have H2 := hid (fun w => rin_any width 0 9 w)
  have H3 := hid (fun w => rin_any cls 1 49 w)
  have hE : decide (text.size = 0) = decide (text = ⟨#[]⟩) := decide_eq_decide.2 ⟨size_zero, fun h => by subst h; rfl⟩
  by_cases h0 : kind = 0
  · subst h0
    by_cases hs : text.size ≤ 20
    · have hs2 : (text.size : Int) ≤ 20 := by omega
      have hp : partOk ⟨0, text, field, width, cls⟩ = (decide (field = 0) && (decide (width = 0) && decide (cls = 0))) := by simp [partOk, hs]
      rw [hp]
      clear hp hE
      go_enter Tryz.func121, Tryz.ntmps121
      go_wp2
      all_goals
        go_ret
        exact ⟨ret_bool (by first | (simp_all; done) | (simp_all; exact beq_dec _)), up_alloc _ _⟩
    · have hs2 : ¬ (text.size : Int) ≤ 20 := by omega
      have hp : partOk ⟨0, text, field, width, cls⟩ = false := by simp [partOk, hs]
      rw [hp]
      clear hp hE
      go_enter Tryz.func121, Tryz.ntmps121
      go_wp2
      all_goals
        go_ret
        exact ⟨ret_bool (by first | (simp_all; done) | (simp_all; exact beq_dec _)), up_alloc _ _⟩
  by_cases h1 : kind = 1
  · subst h1
    have hp : partOk ⟨1, text, field, width, cls⟩ = (inB field 0 5 && (inB width 0 9 && (decide (text = ⟨#[]⟩) && decide (cls = 0)))) := by
      unfold partOk fieldOk
      dsimp only
      rw [hE]
      rfl
    rw [hp]
    clear hp hE
    generalize inB field 0 5 = b1 at *
    generalize inB width 0 9 = b2 at *
    by_cases ht : text = ⟨#[]⟩
    · subst ht
      go_enter Tryz.func121, Tryz.ntmps121
      go_wp2_with fail
      refine (H1.out _).mono ?_
      rintro e w1 ⟨rfl, hw⟩
      obtain rfl := hw.symm
      cases b1 with
      | false =>
        go_wp2
        go_ret
        exact ⟨rfl, up_alloc _ _⟩
      | true =>
        go_wp2_with fail
        refine (H2.out _).mono ?_
        rintro e w2 ⟨rfl, hw2⟩
        obtain rfl := hw2.symm
        cases b2 with
        | false =>
          go_wp2
          go_ret
          exact ⟨rfl, up_alloc _ _⟩
        | true =>
          go_wp2
          all_goals
            go_ret
            exact ⟨ret_bool (by first | (simp_all; done) | (simp_all; exact beq_dec _)), up_alloc _ _⟩
    · have ht2 := toList_ne ht
      go_enter Tryz.func121, Tryz.ntmps121
      go_wp2
      all_goals
        go_ret
        exact ⟨ret_bool (by first | (simp_all; done) | (simp_all; exact beq_dec _)), up_alloc _ _⟩
  by_cases h2 : kind = 2
  · subst h2
    have hp : partOk ⟨2, text, field, width, cls⟩ = (inB field 0 5 && (inB cls 1 49 && (decide (text = ⟨#[]⟩) && decide (width = 0)))) := by
      unfold partOk fieldOk clsOk
      dsimp only
      rw [hE]
      rfl
    rw [hp]
    clear hp hE
    generalize inB field 0 5 = b1 at *
    generalize inB cls 1 49 = b2 at *
    by_cases ht : text = ⟨#[]⟩
    · subst ht
      go_enter Tryz.func121, Tryz.ntmps121
      go_wp2_with fail
      refine (H1.out _).mono ?_
      rintro e w1 ⟨rfl, hw⟩
      obtain rfl := hw.symm
      cases b1 with
      | false =>
        go_wp2
        go_ret
        exact ⟨rfl, up_alloc _ _⟩
      | true =>
        by_cases hw0 : width = 0
        · subst hw0
          go_wp2_with fail
          refine (H3.out _).mono ?_
          rintro e w2 ⟨rfl, hw2⟩
          obtain rfl := hw2.symm
          go_wp2
          go_ret
          exact ⟨ret_bool (by cases b2 <;> rfl), up_alloc _ _⟩
        · go_wp2
          all_goals
            go_ret
            exact ⟨ret_bool (by first | (simp_all; done) | (simp_all; exact beq_dec _)), up_alloc _ _⟩
    · have ht2 := toList_ne ht
      go_enter Tryz.func121, Tryz.ntmps121
      go_wp2
      all_goals
        go_ret
        exact ⟨ret_bool (by first | (simp_all; done) | (simp_all; exact beq_dec _)), up_alloc _ _⟩
  have hp : partOk ⟨kind, text, field, width, cls⟩ = false := by simp [partOk, h0, h1, h2]
  rw [hp]
  clear hp hE
  go_enter Tryz.func121, Tryz.ntmps121
  go_wp2
  go_ret
  exact ⟨rfl, up_alloc _ _⟩

end Go.Proofs.YtohgaknojkdohaaGreatDoor

/- What the reference answers of styles, of what a locale has of its own. -/
namespace Go.Proofs.YtohgaknojkdohaaGreatDoor
open Go.RowKit Gr

def Box2 (w : World) (g : Nat) (v0 v1 : Value) : Prop := w.cell? ⟨g, 0, none⟩ = some v0 ∧ w.cell? ⟨g, 1, none⟩ = some v1
theorem Box2.on {w w' : World} {g : Nat} {v0 v1 : Value} (h : Box2 w g v0 v1) (hb : Below w.heap.size w w') : Box2 w' g v0 v1 := ⟨(hb.cell (lt_of_cell h.1)).trans h.1, (hb.cell (lt_of_cell h.2)).trans h.2⟩
theorem box2_new (w : World) (v0 v1 : Value) (t : TypeId) (g : Nat) (hg : g = w.heap.size) : Box2 (w.alloc (.cells #[v0, v1] t)) g v0 v1 := by
  subst hg
  exact ⟨by rw [new_cell]; rfl, by rw [new_cell]; rfl⟩
theorem rstyle_any (x : Style) (v0 : Value) (w : World) (h : PartsAt w v0 x.parts) : Calls Tryz.prog 83 #[styleV x v0] w fun e w' => e = .returned (.bool (styleOk x)) ∧ Below w.heap.size w w' := by
  obtain ⟨kind, parts⟩ := x
  obtain ⟨ad, cap, rfl, hm, hcap, hc⟩ := h
  unfold styleV styleOk
  dsimp only at *
  have HB2 := hid (box2_new w (.int .i64 kind) (.slice ad parts.length cap) 52 _ rfl)
  have HU := hid (up_alloc w (.cells #[.int .i64 kind, .slice ad parts.length cap] 52))
  obtain ⟨W1, hW1⟩ : ∃ W1, W1 = w.alloc (.cells #[.int .i64 kind, .slice ad parts.length cap] 52) := ⟨_, rfl⟩
  rw [← hW1] at HB2 HU
  have HC := hid (fun j hj => by
    obtain ⟨g, o, e, hx⟩ := hc j hj
    exact (⟨g, o, e, hx.on HU.out⟩ : ∃ g o, ad = some ⟨g, o, none⟩ ∧ PartIn W1 g (o + j * 5) (parts.getD j nilPart)))
  have H1 := hid (fun w => rin_any kind 4 10 w)
  have H2 := hid (fun w => rin_any (parts.length : Int) 1 12 w)
  generalize inB kind 4 10 = b1 at *
  generalize inB (parts.length : Int) 1 12 = b2 at *
  clear hc hcap
  generalize hn : parts.length = n at *
  have HL := hid hn
  clear hn
  obtain ⟨k0, k1⟩ := HB2.out
  go_enter Tryz.func83, Tryz.ntmps83
  go_wp2_with fail
  rw [← hW1]
  refine (H1.out _).mono ?_
  rintro e w1 ⟨rfl, hw⟩
  obtain rfl := hw.symm
  clear hW1
  cases b1 with
  | false =>
    go_wp2
    go_ret
    exact ⟨rfl, HU.out⟩
  | true =>
  go_wp2_with fail
  refine (H2.out _).mono ?_
  rintro e w2 ⟨rfl, hw2⟩
  obtain rfl := hw2.symm
  cases b2 with
  | false =>
    go_wp2
    go_ret
    exact ⟨rfl, HU.out⟩
  | true =>
  clear k0 k1
  have HW := hid HU.out
  go_wp2
  go_loopw [3] (fun v wr => ∃ j : Nat, j ≤ n ∧ v = .int .i64 j ∧ Hid ((parts.take j).all partOk = true) ∧ Below W1.heap.size W1 wr) (fun v _ => n - (intOf v).toNat)
  case atStart => exact ⟨0, by omega, rfl, hid (by simp), Below.refl _ _⟩
  case round =>
    obtain ⟨j, hj, rfl, ht, hb⟩ := hrel
    obtain ⟨k0, k1⟩ := (HB2.out.on hb)
    by_cases hlt : j < n
    · obtain ⟨g, o, eg, hcj⟩ := HC.out j hlt
      have HX : Hid (parts[j]? = some (parts.getD j nilPart)) := hid (Part_at (by rw [HL.out]; exact hlt))
      generalize parts.getD j nilPart = y at *
      subst eg
      have hcj2 := hcj.on hb
      obtain ⟨c0, c1, c2, c3, c4⟩ := hcj2
      have HB := hid hb
      clear hb hcj
      have hlt2 : (j : Int) < (n : Int) := by omega
      go_wp2_with fail
      refine (rpart_any y _).mono ?_
      rintro e w9 ⟨rfl, bel⟩
      have HB2 := hid (up_trans HB.out bel)
      clear bel
      cases hp : partOk y with
      | true =>
        go_wp2
        go_roundw
        case rel => exact ⟨j + 1, by omega, by simp, hid (by rw [List.take_add_one, HX.out, List.all_append, ht.out]; simp [hp]), HB2.out⟩
        case measure => simp [intOf]; omega
      | false =>
        have hf : parts.all partOk = false := Bool.eq_false_iff.2 fun hh => by
          have := List.all_eq_true.1 hh y (List.mem_of_getElem? HX.out)
          rw [hp] at this
          cases this
        have HFF := hid hf
        clear hf hp
        go_wp2
        go_ret
        exact ⟨ret_bool (by rw [HFF.out]; rfl), up_trans HW.out HB2.out⟩
    · have hall : parts.all partOk = true := by
        have := ht.out
        rwa [List.take_of_length_le (by rw [HL.out]; omega)] at this
      have HALL := hid hall
      have HB := hid hb
      have hjn : ¬ (j : Int) < (n : Int) := by omega
      obtain rfl : j = n := by omega
      clear hb hall ht
      go_wp2
      go_ret
      exact ⟨ret_bool (by rw [HALL.out]), up_trans HW.out HB.out⟩

def ownOk (x : Locale) : Bool := idOk x.id && (inB x.digits 0 3 && (decide (x.lex.length ≤ 30) && (decide (x.styles.length ≤ 20) && (x.lex.all entryOk && x.styles.all styleOk))))
theorem rown_any (x : Locale) (v0 v1 v2 : Value) (w : World) (h : LocaleAt w x v0 v1 v2) (hid' : x.id.size ≤ 1000000) : Calls Tryz.prog 41 #[localeV x v0 v1 v2] w fun e w' => e = .returned (.bool (ownOk x)) ∧ Below w.heap.size w w' := by
  obtain ⟨q0, q1, q2⟩ := h
  obtain ⟨ad0, cap0, e0, hm0, hcap0, hc0⟩ := q0
  obtain ⟨ad1, cap1, e1, _⟩ := q1.shape
  obtain ⟨ad2, cap2, e2, hm2, hcap2, hc2⟩ := q2
  subst e0 e1 e2
  obtain ⟨id, parent, digits, lex, rules, styles⟩ := x
  unfold localeV ownOk
  dsimp only at *
  have HBX := hid (box6_new w (.string id) (.int .i64 parent) (.int .i64 digits) (.slice ad0 lex.length cap0) (.slice ad1 rules.length cap1) (.slice ad2 styles.length cap2) 44 _ rfl)
  have HU := hid (up_alloc w (.cells #[.string id, .int .i64 parent, .int .i64 digits, .slice ad0 lex.length cap0, .slice ad1 rules.length cap1, .slice ad2 styles.length cap2] 44))
  obtain ⟨W1, hW1⟩ : ∃ W1, W1 = w.alloc (.cells #[.string id, .int .i64 parent, .int .i64 digits, .slice ad0 lex.length cap0, .slice ad1 rules.length cap1, .slice ad2 styles.length cap2] 44) := ⟨_, rfl⟩
  rw [← hW1] at HBX HU
  have HC0 := hid (fun j hj => by
    obtain ⟨g, o, e, hx⟩ := hc0 j hj
    exact (⟨g, o, e, hx.on HU.out⟩ : ∃ g o, ad0 = some ⟨g, o, none⟩ ∧ EntryIn W1 g (o + j * 3) (lex.getD j nilEntry)))
  have HC2 := hid (fun j hj => by
    obtain ⟨g, o, e, hx⟩ := hc2 j hj
    exact (⟨g, o, e, hx.on HU.out⟩ : ∃ g o, ad2 = some ⟨g, o, none⟩ ∧ StyleIn W1 g (o + j * 2) (styles.getD j nilStyle)))
  have H1 := hid (fun w => rid_any id w hid')
  have H2 := hid (fun w => rin_any digits 0 3 w)
  generalize idOk id = b1 at *
  generalize inB digits 0 3 = b2 at *
  clear hc0 hcap0 hc2 hcap2 q1
  generalize hn0 : lex.length = n0 at *
  generalize hn2 : styles.length = n2 at *
  have HL0 := hid hn0
  have HL2 := hid hn2
  clear hn0 hn2
  obtain ⟨k0, k1, k2, k3, k4, k5⟩ := HBX.out
  go_enter Tryz.func41, Tryz.ntmps41
  go_wp2_with fail
  rw [← hW1]
  refine (H1.out _).mono ?_
  rintro e w1 ⟨rfl, hw⟩
  obtain rfl := hw.symm
  clear hW1
  cases b1 with
  | false =>
    go_wp2
    go_ret
    exact ⟨rfl, HU.out⟩
  | true =>
  go_wp2_with fail
  refine (H2.out _).mono ?_
  rintro e w2 ⟨rfl, hw2⟩
  obtain rfl := hw2.symm
  cases b2 with
  | false =>
    go_wp2
    go_ret
    exact ⟨rfl, HU.out⟩
  | true =>
  by_cases q5 : n0 ≤ 30
  case neg =>
    have q5' : (30 : Int) < (n0 : Int) := by omega
    go_wp2
    go_ret
    exact ⟨ret_bool (by rw [decide_eq_false q5]; rfl), HU.out⟩
  have q5' : ¬ (30 : Int) < (n0 : Int) := by omega
  by_cases q7 : n2 ≤ 20
  case neg =>
    have q7' : (20 : Int) < (n2 : Int) := by omega
    go_wp2
    go_ret
    exact ⟨ret_bool (by rw [decide_eq_false q7, decide_eq_true q5]; rfl), HU.out⟩
  have q7' : ¬ (20 : Int) < (n2 : Int) := by omega
  have q57 : Hid (decide (n0 ≤ 30) = true ∧ decide (n2 ≤ 20) = true) := hid ⟨decide_eq_true q5, decide_eq_true q7⟩
  have HW := hid HU.out
  go_wp2
  clear k0 k1 k2 k3 k4 k5 q5 q7
  go_loopw [3] (fun v wr => ∃ j : Nat, j ≤ n0 ∧ v = .int .i64 j ∧ Hid ((lex.take j).all entryOk = true) ∧ Below W1.heap.size W1 wr) (fun v _ => n0 - (intOf v).toNat)
  case atStart => exact ⟨0, by omega, rfl, hid (by simp), Below.refl _ _⟩
  case round =>
    obtain ⟨j, hj, rfl, ht, hb⟩ := hrel
    obtain ⟨k0, k1, k2, k3, k4, k5⟩ := (HBX.out.on hb)
    by_cases hlt : j < n0
    · obtain ⟨g, o, eg, hcj⟩ := HC0.out j hlt
      have HX : Hid (lex[j]? = some (lex.getD j nilEntry)) := hid (Entry_at (by rw [HL0.out]; exact hlt))
      generalize lex.getD j nilEntry = y at *
      subst eg
      have hcj2 := hcj.on hb
      obtain ⟨c0, c1, c2⟩ := hcj2
      have HB := hid hb
      clear hb hcj
      have hlt2 : (j : Int) < (n0 : Int) := by omega
      go_wp2_with fail
      refine (rword_any y _).mono ?_
      rintro e w9 ⟨rfl, bel⟩
      have HB2 := hid (up_trans HB.out bel)
      clear bel
      cases hp : entryOk y with
      | true =>
        go_wp2
        go_roundw
        case rel => exact ⟨j + 1, by omega, by simp, hid (by rw [List.take_add_one, HX.out, List.all_append, ht.out]; simp [hp]), HB2.out⟩
        case measure => simp [intOf]; omega
      | false =>
        have hf : lex.all entryOk = false := Bool.eq_false_iff.2 fun hh => by
          have := List.all_eq_true.1 hh y (List.mem_of_getElem? HX.out)
          rw [hp] at this
          cases this
        have HFF := hid hf
        clear hf hp
        go_wp2
        go_ret
        exact ⟨ret_bool (by rw [HFF.out, q57.out.1, q57.out.2]; rfl), up_trans HW.out HB2.out⟩
    · have hall : lex.all entryOk = true := by
        have := ht.out
        rwa [List.take_of_length_le (by rw [HL0.out]; omega)] at this
      have HALL0 := hid hall
      have HB0 := hid hb
      have hjn : ¬ (j : Int) < (n0 : Int) := by omega
      obtain rfl : j = n0 := by omega
      clear hb hall ht
      obtain ⟨W2, hW2⟩ : ∃ W2, W2 = wr := ⟨wr, rfl⟩
      subst hW2
      have HBX2 := hid (HBX.out.on HB0.out)
      have HC2' := hid (fun j hj => by
        obtain ⟨g, o, e, hx⟩ := HC2.out j hj
        exact (⟨g, o, e, hx.on HB0.out⟩ : ∃ g o, ad2 = some ⟨g, o, none⟩ ∧ StyleIn W2 g (o + j * 2) (styles.getD j nilStyle)))
      have HWW := hid (up_trans HW.out HB0.out)
      clear HW HC2
      have HW := hid HWW.out
      have HC2 := hid HC2'.out
      clear HWW HC2'
      go_wp2
      go_loopw [4] (fun v wr => ∃ j : Nat, j ≤ n2 ∧ v = .int .i64 j ∧ Hid ((styles.take j).all styleOk = true) ∧ Below W2.heap.size W2 wr) (fun v _ => n2 - (intOf v).toNat)
      case atStart => exact ⟨0, by omega, rfl, hid (by simp), Below.refl _ _⟩
      case round =>
        obtain ⟨j, hj, rfl, ht, hb⟩ := hrel
        obtain ⟨k0, k1, k2, k3, k4, k5⟩ := (HBX2.out.on hb)
        by_cases hlt : j < n2
        · obtain ⟨g, o, eg, hcj⟩ := HC2.out j hlt
          have HX : Hid (styles[j]? = some (styles.getD j nilStyle)) := hid (Style_at (by rw [HL2.out]; exact hlt))
          generalize styles.getD j nilStyle = y at *
          subst eg
          have hcj2 := hcj.on hb
          obtain ⟨pv, c0, c1, qp⟩ := hcj2
          have HQP := hid qp
          obtain ⟨adp, capp, ep, _⟩ := qp.shape
          subst ep
          clear qp
          have HB := hid hb
          clear hb hcj
          have hlt2 : (j : Int) < (n2 : Int) := by omega
          go_wp2_with fail
          refine (rstyle_any y _ _ HQP.out).mono ?_
          rintro e w9 ⟨rfl, bel⟩
          have HB2 := hid (up_trans HB.out bel)
          clear bel
          cases hp : styleOk y with
          | true =>
            go_wp2
            go_roundw
            case rel => exact ⟨j + 1, by omega, by simp, hid (by rw [List.take_add_one, HX.out, List.all_append, ht.out]; simp [hp]), HB2.out⟩
            case measure => simp [intOf]; omega
          | false =>
            have hf : styles.all styleOk = false := Bool.eq_false_iff.2 fun hh => by
              have := List.all_eq_true.1 hh y (List.mem_of_getElem? HX.out)
              rw [hp] at this
              cases this
            have HFF := hid hf
            clear hf hp
            go_wp2
            go_ret
            exact ⟨ret_bool (by rw [HALL0.out, HFF.out, q57.out.1, q57.out.2]; rfl), up_trans HW.out HB2.out⟩
        · have hall : styles.all styleOk = true := by
            have := ht.out
            rwa [List.take_of_length_le (by rw [HL2.out]; omega)] at this
          have HALL2 := hid hall
          have HB2 := hid hb
          have hjn : ¬ (j : Int) < (n2 : Int) := by omega
          obtain rfl : j = n2 := by omega
          clear hb hall ht
          go_wp2
          go_ret
          exact ⟨ret_bool (by rw [HALL0.out, HALL2.out, q57.out.1, q57.out.2]; rfl), up_trans HW.out HB2.out⟩

end Go.Proofs.YtohgaknojkdohaaGreatDoor

/- A locale with what it has of its Parents: what the reference's 'at' answers. -/
namespace Go.Proofs.YtohgaknojkdohaaGreatDoor
open Go.RowKit Gr

def lexUp (ls : List Locale) (l : List Int) : List Entry := l.flatMap fun k => (ls.getD k.toNat nilLocale).lex
def stylesUp (ls : List Locale) (l : List Int) : List Style := l.flatMap fun k => (ls.getD k.toNat nilLocale).styles
/-- A locale, resolved. -/
def resOf (ls : List Locale) (i : Nat) : Locale := { ls.getD i nilLocale with lex := lexUp ls (chainOf ls i), rules := rulesOf ls i, styles := stylesUp ls (chainOf ls i) }
theorem chainUp_fuel (ls : List Locale) (i : Nat) (hp : Par ls i) : ∀ (f f' : Nat) (a : Int), a ≤ i → a < f → a < f' → chainUp ls f a = chainUp ls f' a
  | 0, f', a, _, h1, _ => by rw [chainUp_neg ls 0 a (by omega), chainUp_neg ls f' a (by omega)]
  | f + 1, 0, a, _, _, h2 => by rw [chainUp_neg ls 0 a (by omega), chainUp_neg ls (f + 1) a (by omega)]
  | f + 1, f' + 1, a, ha, h1, h2 => by
    by_cases h0 : a < 0
    · rw [chainUp_neg ls _ a h0, chainUp_neg ls _ a h0]
    · obtain ⟨k, rfl⟩ : ∃ k : Nat, a = (k : Int) := ⟨a.toNat, by omega⟩
      have := hp k (by omega)
      rw [chainUp_nat, chainUp_nat, chainUp_fuel ls i hp f f' _ (by omega) (by omega) (by omega)]
theorem chainOf_root (ls : List Locale) (i : Nat) (h : (ls.getD i nilLocale).parent < 0) : chainOf ls i = [(i : Int)] := by
  unfold chainOf
  rw [chainUp_nat, chainUp_neg ls _ _ h]
  rfl
theorem chainOf_step (ls : List Locale) (i p : Nat) (hp : Par ls i) (h : (ls.getD i nilLocale).parent = (p : Int)) : chainOf ls i = chainOf ls p ++ [(i : Int)] := by
  have h1 := hp i (Nat.le_refl _)
  unfold chainOf
  rw [chainUp_nat, h, List.reverse_cons, chainUp_fuel ls i hp i (p + 1) p (by omega) (by omega) (by omega)]
theorem resOf_root (ls : List Locale) (i : Nat) (h : (ls.getD i nilLocale).parent < 0) : resOf ls i = ls.getD i nilLocale := by
  unfold resOf rulesOf lexUp stylesUp
  rw [chainOf_root ls i h]
  simp
theorem resOf_step (ls : List Locale) (i p : Nat) (hp : Par ls i) (h : (ls.getD i nilLocale).parent = (p : Int)) : resOf ls i = { ls.getD i nilLocale with lex := (resOf ls p).lex ++ (ls.getD i nilLocale).lex, rules := (resOf ls p).rules ++ (ls.getD i nilLocale).rules, styles := (resOf ls p).styles ++ (ls.getD i nilLocale).styles } := by
  unfold resOf rulesOf lexUp stylesUp
  rw [chainOf_step ls i p hp h]
  simp
theorem resOf_length (ls : List Locale) (hS : Small ls) : ∀ (l : List Int), (lexUp ls l).length ≤ 10000 * l.length ∧ (stylesUp ls l).length ≤ 10000 * l.length
  | [] => by simp [lexUp, stylesUp]
  | k :: l => by
    have h1 := hS.at k.toNat
    have h2 := resOf_length ls hS l
    have h3 : lexUp ls (k :: l) = (ls.getD k.toNat nilLocale).lex ++ lexUp ls l := rfl
    have h4 : stylesUp ls (k :: l) = (ls.getD k.toNat nilLocale).styles ++ stylesUp ls l := rfl
    rw [h3, h4, List.length_append, List.length_append, List.length_cons]
    omega
theorem resOf_small (ls : List Locale) (hS : Small ls) (i : Nat) (hi : i < 10) : (resOf ls i).lex.length ≤ 100000 ∧ (resOf ls i).rules.length ≤ 100000 ∧ (resOf ls i).styles.length ≤ 100000 := by
  have h1 := resOf_length ls hS (chainOf ls i)
  have h2 := rulesUp_length ls hS (chainOf ls i)
  have h3 := chainOf_length ls i
  have h4 : (resOf ls i).lex = lexUp ls (chainOf ls i) := rfl
  have h5 : (resOf ls i).rules = rulesUp ls (chainOf ls i) := rfl
  have h6 : (resOf ls i).styles = stylesUp ls (chainOf ls i) := rfl
  rw [h4, h5, h6]
  omega
/-- An empty row, just made. -/
theorem own_made (w : World) (e : TypeId) (size B g : Nat) (hB : B ≤ w.heap.size) (hg : g = w.heap.size) : (w.alloc (.cells #[] e)).ownsRow B e size (.slice (some ⟨g, 0, none⟩) 0 0) 0 [] := by
  subst hg
  exact ⟨by simp, .inr ⟨_, 0, #[], rfl, hB, row_new w _, Nat.le_refl _, by unfold maxLen; omega, by simp, by simp⟩⟩
theorem frozen_on {w w' : World} {g c : Nat} (hb : Below w.heap.size w w') (hg : g < w.heap.size) (h : w.frozen? ⟨g, c, none⟩ = false) : w'.frozen? ⟨g, c, none⟩ = false := by
  have := hb.block g hg
  unfold World.frozen? at *
  rw [this]
  exact h

theorem key_cut4 {T : Prop} {α β γ δ : Type} (F : α → β → γ → δ → Prop) {P : α → β → γ → δ → Prop} (rest : (∀ a b c d, F a b c d → P a b c d) → T) (key : ∀ a b c d, F a b c d → P a b c d) : T := rest key
theorem set6_heap {w : World} {g : Nat} {t : TypeId} {z0 z1 z2 z3 z4 z5 : Value} (h : w.heap[g]? = some (.cells #[z0, z1, z2, z3, z4, z5] t (0, 0))) (u0 u1 u2 u3 u4 u5 : Value) : ((((((w.setCell ⟨g, 0, none⟩ u0).setCell ⟨g, 1, none⟩ u1).setCell ⟨g, 2, none⟩ u2).setCell ⟨g, 3, none⟩ u3).setCell ⟨g, 4, none⟩ u4).setCell ⟨g, 5, none⟩ u5).heap[g]? = some (.cells #[u0, u1, u2, u3, u4, u5] t (0, 0)) :=
  heap_setCell_same _ g 5 _ _ _ (heap_setCell_same _ g 4 _ _ _ (heap_setCell_same _ g 3 _ _ _ (heap_setCell_same _ g 2 _ _ _ (heap_setCell_same _ g 1 _ _ _ (heap_setCell_same _ g 0 _ _ _ h)))))
theorem row_new' (w : World) (o : Obj) (g : Nat) (hg : g = w.heap.size) : (w.alloc o).heap[g]? = some o := by
  subst hg
  exact row_new w o
/-- A row's cells, none of them in block g. -/
def Safe (w : World) (g : Nat) (v : Value) (n size : Nat) (cs : List Value) : Prop := CellsAt w v n size cs ∧ (n = 0 ∨ v.ownBlock ≠ some g)
theorem add_block (a : Addr) (j : Nat) : (a.add j).block = a.block := by unfold Addr.add; split <;> rfl
theorem cells_set {w : World} {g c : Nat} {u v : Value} {n size : Nat} {cs : List Value} (h : CellsAt w v n size cs) (hn : n = 0 ∨ v.ownBlock ≠ some g) : CellsAt (w.setCell ⟨g, c, none⟩ u) v n size cs := by
  obtain ⟨ad, cap, rfl, h2, h3, h4, h5⟩ := h
  refine ⟨ad, cap, rfl, h2, h3, h4, fun j x hj => ?_⟩
  obtain ⟨a, rfl, h6⟩ := h5 j x hj
  refine ⟨a, rfl, ?_⟩
  rw [World.cell?_setCell_far _ _ _ _ (fun e => ?_)]
  · exact h6
  · rw [add_block] at e
    rcases hn with e2 | e2
    · rw [e2, Nat.zero_mul] at h2
      rw [List.length_eq_zero_iff.1 h2] at hj
      simp at hj
    · exact e2 (by show some a.block = some g; rw [← e])
theorem cells_set6 {w : World} {g : Nat} {u0 u1 u2 u3 u4 u5 v : Value} {n size : Nat} {cs : List Value} (h : CellsAt w v n size cs) (hn : n = 0 ∨ v.ownBlock ≠ some g) : CellsAt ((((((w.setCell ⟨g, 0, none⟩ u0).setCell ⟨g, 1, none⟩ u1).setCell ⟨g, 2, none⟩ u2).setCell ⟨g, 3, none⟩ u3).setCell ⟨g, 4, none⟩ u4).setCell ⟨g, 5, none⟩ u5) v n size cs :=
  cells_set (cells_set (cells_set (cells_set (cells_set (cells_set h hn) hn) hn) hn) hn) hn
theorem below_set6 {w0 w : World} {B g : Nat} (h : Below B w0 w) (hg : B ≤ g) (u0 u1 u2 u3 u4 u5 : Value) : Below B w0 ((((((w.setCell ⟨g, 0, none⟩ u0).setCell ⟨g, 1, none⟩ u1).setCell ⟨g, 2, none⟩ u2).setCell ⟨g, 3, none⟩ u3).setCell ⟨g, 4, none⟩ u4).setCell ⟨g, 5, none⟩ u5) :=
  (((((h.setCell (p := ⟨g, 0, none⟩) hg _).setCell (p := ⟨g, 1, none⟩) hg _).setCell (p := ⟨g, 2, none⟩) hg _).setCell (p := ⟨g, 3, none⟩) hg _).setCell (p := ⟨g, 4, none⟩) hg _).setCell (p := ⟨g, 5, none⟩) hg _
theorem own_far {w : World} {B n size : Nat} {e : TypeId} {v : Value} {cs : List Value} (h : w.ownsRow B e size v n cs) {k : Nat} (hk : k < B) : v.ownBlock ≠ some k := fun e => by have := (World.ownsRow.lt h k e).1; omega
theorem Safe.step {w w' : World} {g c : Nat} {u v : Value} {n size : Nat} {cs : List Value} (h : Safe w g v n size cs) (hb : Below w.heap.size w w') : Safe (w'.setCell ⟨g, c, none⟩ u) g v n size cs := ⟨cells_set (h.1.on hb) h.2, h.2⟩
theorem Safe.on {w w' : World} {g : Nat} {v : Value} {n size : Nat} {cs : List Value} (h : Safe w g v n size cs) (hb : Below w.heap.size w w') : Safe w' g v n size cs := ⟨h.1.on hb, h.2⟩
/-- The three variables of a call, as they lie. -/
def Vars (w : World) (g4 g5 g6 : Nat) (A B C : Array Value) : Prop := w.heap[g4]? = some (.cells A 44 (0, 0)) ∧ w.heap[g5]? = some (.cells B 44 (0, 0)) ∧ w.heap[g6]? = some (.cells C 44 (0, 0)) ∧ g4 ≠ g5 ∧ g6 ≠ g5
theorem Vars.lt {w : World} {g4 g5 g6 : Nat} {A B C : Array Value} (h : Vars w g4 g5 g6 A B C) : g4 < w.heap.size ∧ g5 < w.heap.size ∧ g6 < w.heap.size := ⟨(Array.getElem?_eq_some_iff.1 h.1).1, (Array.getElem?_eq_some_iff.1 h.2.1).1, (Array.getElem?_eq_some_iff.1 h.2.2.1).1⟩
theorem Vars.on {w w' : World} {g4 g5 g6 : Nat} {A B C : Array Value} (h : Vars w g4 g5 g6 A B C) (hb : Below w.heap.size w w') : Vars w' g4 g5 g6 A B C := ⟨(hb.block _ h.lt.1).trans h.1, (hb.block _ h.lt.2.1).trans h.2.1, (hb.block _ h.lt.2.2).trans h.2.2.1, h.2.2.2⟩
theorem Vars.set {w : World} {g4 g5 g6 c : Nat} {A B C : Array Value} {u : Value} (h : Vars w g4 g5 g6 A B C) : Vars (w.setCell ⟨g5, c, none⟩ u) g4 g5 g6 A (B.setIfInBounds c u) C :=
  ⟨(Below.heap_setCell _ _ _ _ h.2.2.2.1).trans h.1, heap_setCell_same w g5 c B 44 u h.2.1, (Below.heap_setCell _ _ _ _ h.2.2.2.2).trans h.2.2.1, h.2.2.2⟩
/-- A slice at a plain address, if it has elements. -/
def Plain (v : Value) : Prop := ∃ ad n cap, v = .slice ad n cap ∧ (0 < n → ∃ g o, ad = some ⟨g, o, none⟩)
theorem own_plain {w : World} {B n size : Nat} {e : TypeId} {v : Value} {cs : List Value} (h : w.ownsRow B e size v n cs) : Plain v := by
  obtain ⟨_, ⟨rfl, rfl⟩ | ⟨g, cap, cur, rfl, _⟩⟩ := h
  · exact ⟨none, 0, 0, rfl, fun h => by omega⟩
  · exact ⟨_, n, cap, rfl, fun _ => ⟨g, 0, rfl⟩⟩
theorem rules_of_cells {w : World} {v : Value} {cs : List Value} {xs : List Rule} (h : CellsAt w v xs.length 5 cs) (hp : Plain v) (hc : RuleC w cs xs) (hl : xs.length ≤ 1000000) : RulesOk w v xs := by
  obtain ⟨ad, cap, rfl, h2, h3, h4, h5⟩ := h
  obtain ⟨ad', n', cap', e, hpl⟩ := hp
  injection e with e1 e2 e3
  subst e1 e2 e3
  refine ⟨⟨ad, cap, rfl, hl, fun j hj => ?_⟩, fun n c e => by injection e with e1 _ e3; rw [← e3]; exact (h3 e1).1⟩
  obtain ⟨v0, v1, k0, k1, k2, k3, k4, a0, a1, _⟩ := hc.2 j _ (rule_at hj)
  obtain ⟨g, o, ea⟩ := hpl (by omega)
  have cell : ∀ q u, cs[q]? = some u → w.cell? ⟨g, o + q, none⟩ = some u := fun q u hq => by
    obtain ⟨a', ea', g'⟩ := h5 _ _ hq
    obtain rfl := Option.some.inj (ea.symm.trans ea')
    rw [Addr.add_lit] at g'
    exact g'
  exact ⟨g, o, ea, v0, v1, cell _ _ k0, cell _ _ k1, cell _ _ k2, cell _ _ k3, cell _ _ k4, a0, a1⟩

theorem cells_old {w : World} {v : Value} {n size : Nat} {cs : List Value} (h : CellsAt w v n size cs) (hs : 0 < size := by decide) : ∀ k, w.heap.size ≤ k → n = 0 ∨ v.ownBlock ≠ some k := by
  intro k hk
  obtain ⟨ad, cap, rfl, h2, _, _, h5⟩ := h
  by_cases hn : n = 0
  · exact .inl hn
  · have hlt : 0 < cs.length := by rw [h2]; exact Nat.mul_pos (by omega) hs
    obtain ⟨a, rfl, h6⟩ := h5 0 _ (List.getElem?_eq_getElem hlt)
    have := lt_of_cell h6
    rw [add_block] at this
    exact .inr (fun e => by
      have e' : some a.block = some k := e
      injection e' with e'
      omega)
theorem at_plainEntriesAt {w : World} {v : Value} {xs : List Entry} (h : EntriesAt w v xs) : Plain v := by
  obtain ⟨ad, cap, rfl, _, _, hc⟩ := h
  refine ⟨ad, _, cap, rfl, fun hn => ?_⟩
  obtain ⟨g, o, e, _⟩ := hc 0 hn
  exact ⟨g, o, e⟩
theorem at_plainStylesAt {w : World} {v : Value} {xs : List Style} (h : StylesAt w v xs) : Plain v := by
  obtain ⟨ad, cap, rfl, _, _, hc⟩ := h
  refine ⟨ad, _, cap, rfl, fun hn => ?_⟩
  obtain ⟨g, o, e, _⟩ := hc 0 hn
  exact ⟨g, o, e⟩
theorem at_plainRulesOk {w : World} {v : Value} {xs : List Rule} (h : RulesOk w v xs) : Plain v := by
  obtain ⟨⟨ad, cap, rfl, _, hc⟩, _⟩ := h
  refine ⟨ad, _, cap, rfl, fun hn => ?_⟩
  obtain ⟨g, o, e, _⟩ := hc 0 hn
  exact ⟨g, o, e⟩

set_option maxRecDepth 8000 in
set_option maxHeartbeats 4000000 in
theorem at_any (ls : List Locale) (v : Value) (hS : Small ls) (w0 : World) (hl : LocalesAt w0 v ls) : ∀ (m i : Nat) (w : World), i < m → Below w0.heap.size w0 w → i < ls.length → i < 10 → Par ls i →
    Calls Tryz.prog 43 #[v, .int .i64 i] w fun e w' => ∃ v0 v1 v2 cs0 cs1 cs2, e = .returned (localeV (resOf ls i) v0 v1 v2) ∧ (CellsAt w' v0 (resOf ls i).lex.length 3 cs0 ∧ CellsAt w' v1 (resOf ls i).rules.length 5 cs1 ∧ CellsAt w' v2 (resOf ls i).styles.length 2 cs2)
      ∧ (EntryC w0 cs0 (resOf ls i).lex ∧ RuleC w0 cs1 (resOf ls i).rules ∧ StyleC w0 cs2 (resOf ls i).styles) ∧ (Plain v0 ∧ Plain v1 ∧ Plain v2)
      ∧ (∀ k, k < w.heap.size + 2 → w0.heap.size ≤ k → ((resOf ls i).lex.length = 0 ∨ v0.ownBlock ≠ some k) ∧ ((resOf ls i).rules.length = 0 ∨ v1.ownBlock ≠ some k) ∧ ((resOf ls i).styles.length = 0 ∨ v2.ownBlock ≠ some k)) ∧ Below w.heap.size w w' := by
  intro m
  induction m with
  | zero => intro i w h; omega
  | succ m ih =>
  intro i w him hbw hi hi10 hp
  have HIH := hid ih
  have HP := hid hp
  have HBW := hid hbw
  have hsw := hbw.size
  obtain ⟨ad, cap, rfl, hm, _, hc⟩ := hl
  obtain ⟨g, o, rfl, hx⟩ := hc i hi
  have hx' := hx.on hbw
  obtain ⟨u0, u1, u2, c0, c1, c2, c3, c4, c5, q0, q1, q2⟩ := hx
  obtain ⟨cs0, HC0, HD0⟩ := Entries_cells q0
  obtain ⟨cs1, HC1, HD1⟩ := rules_cells q1
  obtain ⟨cs2, HC2, HD2⟩ := Styles_cells q2
  have HXC := hid (And.intro HC0 (And.intro HC1 HC2))
  have HXD := hid (And.intro HD0 (And.intro HD1 HD2))
  have HXP := hid (And.intro (at_plainEntriesAt q0) (And.intro (at_plainRulesOk q1) (at_plainStylesAt q2)))
  have HXO := hid (And.intro (cells_old HC0) (And.intro (cells_old HC1) (cells_old HC2)))
  clear HC0 HC1 HC2 HD0 HD1 HD2
  replace c0 := (hbw.cell (lt_of_cell c0)).trans c0
  replace c1 := (hbw.cell (lt_of_cell c1)).trans c1
  replace c2 := (hbw.cell (lt_of_cell c2)).trans c2
  replace c3 := (hbw.cell (lt_of_cell c3)).trans c3
  replace c4 := (hbw.cell (lt_of_cell c4)).trans c4
  replace c5 := (hbw.cell (lt_of_cell c5)).trans c5
  have HSX := hid (hS.at i)
  have hpi := hp i (Nat.le_refl _)
  have HE : Hid (∀ p : Nat, (ls.getD i nilLocale).parent = (p : Int) → resOf ls i = { ls.getD i nilLocale with lex := (resOf ls p).lex ++ (ls.getD i nilLocale).lex, rules := (resOf ls p).rules ++ (ls.getD i nilLocale).rules, styles := (resOf ls p).styles ++ (ls.getD i nilLocale).styles }) := hid (fun p h => resOf_step ls i p hp h)
  have HR : Hid ((ls.getD i nilLocale).parent < 0 → resOf ls i = ls.getD i nilLocale) := hid (resOf_root ls i)
  generalize ls.getD i nilLocale = x at *
  obtain ⟨ad0, cap0, e0, _⟩ := q0.shape
  obtain ⟨ad1, cap1, e1, _⟩ := q1.shape
  obtain ⟨ad2, cap2, e2, _⟩ := q2.shape
  subst e0 e1 e2
  have hin : (i : Int) < (ls.length : Int) := by omega
  have hgw := lt_of_cell c0
  dsimp only at hgw
  generalize hnl : ls.length = n at *
  have HNL := hid hnl
  clear hnl hc hp ih q0 q1 q2 hx' hbw
  obtain ⟨id, parent, digits, lex, rules, styles⟩ := x
  dsimp only at *
  generalize hl0 : lex.length = n0 at *
  generalize hl1 : rules.length = n1 at *
  generalize hl2 : styles.length = n2 at *
  have HL := hid (And.intro hl0 (And.intro hl1 hl2))
  by_cases hneg : parent < 0
  · rw [HR.out hneg]
    dsimp only
    rw [hl0, hl1, hl2]
    clear hl0 hl1 hl2
    go_enter Tryz.func43, Tryz.ntmps43
    go_wp2
    have U := HBW.out.trans ((up_trans (up_alloc w (.cells #[.string id, .int .i64 parent, .int .i64 digits, .slice ad0 n0 cap0, .slice ad1 n1 cap1, .slice ad2 n2 cap2] 44)) (up_alloc _ (.cells #[.string id, .int .i64 parent, .int .i64 digits, .slice ad0 n0 cap0, .slice ad1 n1 cap1, .slice ad2 n2 cap2] 44))).mono hsw)
    exact bodyPost_ret (v := localeV ⟨id, parent, digits, lex, rules, styles⟩ (.slice ad0 n0 cap0) (.slice ad1 n1 cap1) (.slice ad2 n2 cap2)) (results_cell_row rfl _ _ w.heap.size 44 _ (0, 0) _ rfl (((up_alloc _ _).block _ (by simp)).trans (row_new w _)) Tryz.underlying44 rfl (by kernel_rfl)) rfl
      ⟨_, _, _, cs0, cs1, cs2, rfl, ⟨HXC.out.1.on U, HXC.out.2.1.on U, HXC.out.2.2.on U⟩, HXD.out, HXP.out, fun k _ hk => ⟨HXO.out.1 k hk, HXO.out.2.1 k hk, HXO.out.2.2 k hk⟩, up_trans (up_alloc _ _) (up_alloc _ _)⟩
  · clear hl0 hl1 hl2
    obtain ⟨p, rfl⟩ : ∃ p : Nat, parent = (p : Int) := ⟨parent.toNat, by omega⟩
    have HPP : Hid (Par ls p) := hid (fun j hj => HP.out j (by omega))
    have HU := hid (up_trans (up_alloc w (.cells #[.string ⟨#[]⟩, .int .i64 0, .int .i64 0, .slice none 0 0, .slice none 0 0, .slice none 0 0] 44)) (up_alloc _ (.cells #[.string id, .int .i64 (p : Int), .int .i64 digits, .slice ad0 n0 cap0, .slice ad1 n1 cap1, .slice ad2 n2 cap2] 44)))
    have HCALL := hid (HIH.out p ((w.alloc (.cells #[.string ⟨#[]⟩, .int .i64 0, .int .i64 0, .slice none 0 0, .slice none 0 0, .slice none 0 0] 44)).alloc (.cells #[.string id, .int .i64 (p : Int), .int .i64 digits, .slice ad0 n0 cap0, .slice ad1 n1 cap1, .slice ad2 n2 cap2] 44)) (by omega) (HBW.out.trans (HU.out.mono hsw)) (by omega) (by omega) HPP.out)
    have HB4 := hid (row_new w (.cells #[.string ⟨#[]⟩, .int .i64 0, .int .i64 0, .slice none 0 0, .slice none 0 0, .slice none 0 0] 44))
    have HB5 := hid (row_new' (w.alloc (.cells #[.string ⟨#[]⟩, .int .i64 0, .int .i64 0, .slice none 0 0, .slice none 0 0, .slice none 0 0] 44)) (.cells #[.string id, .int .i64 (p : Int), .int .i64 digits, .slice ad0 n0 cap0, .slice ad1 n1 cap1, .slice ad2 n2 cap2] 44) (w.heap.size + 1) (by simp))
    have HSP := hid (resOf_small ls hS p (by omega))
    have HEP := hid (HE.out p rfl)
    rw [HEP.out]
    generalize resOf ls p = y at *
    go_enter Tryz.func43, Tryz.ntmps43
    go_wp2_with fail
    refine HCALL.out.mono ?_
    rintro e w1 ⟨v0, v1, v2, ds0, ds1, ds2, rfl, hyC, hyD, hyP, hyF, bel⟩
    unfold localeV
    have hs1 : w.heap.size + 2 ≤ w1.heap.size := by have := bel.size; simpa using this
    have hyF' := hyF (w.heap.size + 1) (by simp) (by omega)
    have HBX := hid (HBW.out.trans (up_trans HU.out bel |>.mono hsw))
    have HB1 := hid (up_trans HU.out bel)
    obtain ⟨yid, ypar, ydig, ylex, yrules, ystyles⟩ := y
    dsimp only at *
    obtain ⟨ady0, my0, capy0, ey0, _⟩ := hyP.1
    obtain ⟨ady1, my1, capy1, ey1, _⟩ := hyP.2.1
    obtain ⟨ady2, my2, capy2, ey2, _⟩ := hyP.2.2
    generalize hm0 : ylex.length = m0 at *
    generalize hm1 : yrules.length = m1 at *
    generalize hm2 : ystyles.length = m2 at *
    have HM := hid (And.intro hm0 (And.intro hm1 hm2))
    obtain rfl : my0 = m0 := by obtain ⟨_, _, e, _⟩ := hyC.1; rw [ey0] at e; injection e
    obtain rfl : my1 = m1 := by obtain ⟨_, _, e, _⟩ := hyC.2.1; rw [ey1] at e; injection e
    obtain rfl : my2 = m2 := by obtain ⟨_, _, e, _⟩ := hyC.2.2; rw [ey2] at e; injection e
    subst ey0 ey1 ey2
    have HV1 := hid (show Vars (w1.alloc (.cells #[.string yid, .int .i64 ypar, .int .i64 ydig, .slice ady0 my0 capy0, .slice ady1 my1 capy1, .slice ady2 my2 capy2] 44)) w.heap.size (w.heap.size + 1) w1.heap.size #[.string ⟨#[]⟩, .int .i64 0, .int .i64 0, .slice none 0 0, .slice none 0 0, .slice none 0 0] #[.string id, .int .i64 (p : Int), .int .i64 digits, .slice ad0 n0 cap0, .slice ad1 n1 cap1, .slice ad2 n2 cap2] #[.string yid, .int .i64 ypar, .int .i64 ydig, .slice ady0 my0 capy0, .slice ady1 my1 capy1, .slice ady2 my2 capy2] from
      ⟨((up_alloc w1 _).block w.heap.size (by omega)).trans ((bel.block w.heap.size (by simp; omega)).trans (((up_alloc (w.alloc (.cells #[.string ⟨#[]⟩, .int .i64 0, .int .i64 0, .slice none 0 0, .slice none 0 0, .slice none 0 0] 44)) (.cells #[.string id, .int .i64 (p : Int), .int .i64 digits, .slice ad0 n0 cap0, .slice ad1 n1 cap1, .slice ad2 n2 cap2] 44)).block w.heap.size (by simp)).trans HB4.out)), ((up_alloc w1 _).block (w.heap.size + 1) (by omega)).trans ((bel.block (w.heap.size + 1) (by simp)).trans HB5.out), row_new w1 _, by omega, by omega⟩)
    have HS1 := hid (And.intro (show Safe w1 (w.heap.size + 1) (.slice ady0 my0 capy0) my0 3 ds0 from ⟨hyC.1, hyF'.1⟩) (And.intro (show Safe w1 (w.heap.size + 1) (.slice ady1 my1 capy1) my1 5 ds1 from ⟨hyC.2.1, hyF'.2.1⟩) (show Safe w1 (w.heap.size + 1) (.slice ady2 my2 capy2) my2 2 ds2 from ⟨hyC.2.2, hyF'.2.2⟩)))
    have HT1 := hid (And.intro (show Safe w1 (w.heap.size + 1) (.slice ad0 n0 cap0) n0 3 cs0 from ⟨HXC.out.1.on HBX.out, HXO.out.1 _ (by omega)⟩) (And.intro (show Safe w1 (w.heap.size + 1) (.slice ad1 n1 cap1) n1 5 cs1 from ⟨HXC.out.2.1.on HBX.out, HXO.out.2.1 _ (by omega)⟩) (show Safe w1 (w.heap.size + 1) (.slice ad2 n2 cap2) n2 2 cs2 from ⟨HXC.out.2.2.on HBX.out, HXO.out.2.2 _ (by omega)⟩)))
    have HYD := hid hyD
    have hmb : my0 ≤ 100000 ∧ my1 ≤ 100000 ∧ my2 ≤ 100000 := HSP.out
    have hnb : n1 ≤ 10000 ∧ n0 ≤ 10000 ∧ n2 ≤ 10000 := ⟨HSX.out.1, HSX.out.2.1, HSX.out.2.2.1⟩
    clear hyC hyD hyP hyF hyF' bel hm0 hm1 hm2 c0 c1 c2 c3 c4 c5
    have HWA := hid (up_alloc w1 (.cells #[.string yid, .int .i64 ypar, .int .i64 ydig, .slice ady0 my0 capy0, .slice ady1 my1 capy1, .slice ady2 my2 capy2] 44))
    go_wp2
    obtain ⟨g6, hg6⟩ : ∃ g6, g6 = w1.heap.size := ⟨_, rfl⟩
    obtain ⟨wa, hwa⟩ : ∃ wa, wa = w1.alloc (.cells #[.string yid, .int .i64 ypar, .int .i64 ydig, .slice ady0 my0 capy0, .slice ady1 my1 capy1, .slice ady2 my2 capy2] 44) := ⟨_, rfl⟩
    rw [← hwa, ← hg6] at HV1
    rw [← hwa] at HWA
    rw [← hwa, ← hg6]
    have HV := hid HV1.out
    have HCL := hid (show (∀ u ∈ [] ++ ds0 ++ cs0, u.oneCell' = true) ∧ (∀ u ∈ [] ++ ds1 ++ cs1, u.oneCell' = true) ∧ (∀ u ∈ [] ++ ds2 ++ cs2, u.oneCell' = true) from ⟨((EntryC.nil w0).append HYD.out.1 |>.append HXD.out.1).ones, ((RuleC.nil w0).append HYD.out.2.1 |>.append HXD.out.2.1).ones, ((StyleC.nil w0).append HYD.out.2.2 |>.append HXD.out.2.2).ones⟩)
    have HSY := hid (And.intro (HS1.out.1.on HWA.out) (And.intro (HS1.out.2.1.on HWA.out) (HS1.out.2.2.on HWA.out)))
    have HSX := hid (And.intro (HT1.out.1.on HWA.out) (And.intro (HT1.out.2.1.on HWA.out) (HT1.out.2.2.on HWA.out)))
    have HBA := hid (up_trans HB1.out HWA.out)
    have hg6' : w.heap.size + 2 ≤ g6 := by omega
    have hwaS : w.heap.size + 2 ≤ wa.heap.size := by have := HV.out.lt.2.2; omega
    clear hwa HV1 hg6 HS1 HT1 HWA HBX
    obtain ⟨k40, k50, k60, k45, k46⟩ := HV.out
    have c5 : wa.cell? ⟨w.heap.size + 1, 3, none⟩ = some (.slice ad0 n0 cap0) := by rw [cell_of_row _ _ _ _ _ _ k50]; rfl
    have c6 : wa.cell? ⟨g6, 3, none⟩ = some (.slice ady0 my0 capy0) := by rw [cell_of_row _ _ _ _ _ _ k60]; rfl
    have f5 : wa.frozen? ⟨w.heap.size + 1, 3, none⟩ = false := frozen_of_row _ _ _ _ _ k50
    have hl5 := HV.out.lt.2.1
    have hl6 := HV.out.lt.2.2
    clear k40 k50 k60 k45 k46
    have HOM := hid (own_made wa.drew 46 3 wa.heap.size wa.heap.size (Nat.le_refl _) rfl)
    have HPA := hid (HSY.out.1.1.on (((Below.refl _ wa).drew).alloc (Nat.le_refl _) (.cells #[] 46)))
    apply key_cut4 (F := fun (_ : Value) (adB : Option Addr) (capB : Nat) (wB : World) => Below wa.heap.size wa wB ∧ wB.ownsRow wa.heap.size 46 3 (.slice adB (my0 + n0) capB) (my0 + n0) ([] ++ ds0 ++ cs0))
    case rest =>
      intro key
      go_region_law (first
        | (refine step_append_cells _ rfl (.tmp 19) (.tmp 21) 40 46 rfl (.agg #[.string ⟨#[]⟩, .int .i64 0, .int .i64 0]) 3 32 Tryz.underlying40 info_Entry rfl (by decide) (by decide) wa.heap.size (.slice (some ⟨wa.heap.size, 0, none⟩) 0 0) 0 [] (by simp [Act.eval]) HOM.out (.slice ady0 my0 capy0) my0 ds0 (by simp [Act.eval]) HPA.out (by omega) (by simp) ?_; intro vA wA hA1 hA2 hA3; have HBA := hid ((((Below.refl _ wa).drew).alloc (Nat.le_refl _) (.cells #[] 46)).grown hA2 (by simp) (fun k e => Nat.le_of_eq (Option.some.inj e))); have c5A := (HBA.out.cell (p := ⟨w.heap.size + 1, 3, none⟩) hl5).trans c5; have c6A := (HBA.out.cell (p := ⟨g6, 3, none⟩) hl6).trans c6; have f5A := frozen_on HBA.out hl5 f5; have HOA := hid hA1; have HXA := hid (HSX.out.1.1.on HBA.out); have hsA := HBA.out.size; have hOw := hid (fun k (e : vA.ownBlock = some k) => (World.ownsRow.lt hA1 k e).1); clear hA1 hA2 hA3)
        | (refine step_append_cells _ rfl (.tmp 22) (.tmp 24) 40 46 rfl (.agg #[.string ⟨#[]⟩, .int .i64 0, .int .i64 0]) 3 32 Tryz.underlying40 info_Entry rfl (by decide) (by decide) wa.heap.size vA (0 + my0) ([] ++ ds0) (by simp [Act.eval]) HOA.out (.slice ad0 n0 cap0) n0 cs0 (by simp [Act.eval]) HXA.out (by omega) hsA ?_; intro vB wB hB1 hB2 hB3; have HBB := hid (HBA.out.grown hB2 hsA (fun k e => hOw.out k e)); have c5B := (HBB.out.cell (p := ⟨w.heap.size + 1, 3, none⟩) hl5).trans c5; have f5B := frozen_on HBB.out hl5 f5; have HOB := hid hB1; obtain ⟨adB, capB, eB, _⟩ := own_shape hB1; rw [Nat.zero_add] at eB; subst eB; have hl5B : w.heap.size + 1 < wB.heap.size := Nat.lt_of_lt_of_le hl5 HBB.out.size; clear hB1 hB2 hB3))
      all_goals exact key vA adB capB wB ⟨HBB.out, by have := HOB.out; rwa [Nat.zero_add] at this⟩
    intro vA0 adB0 capB0 wB hF
    have hl4 := HV.out.lt.1
    obtain ⟨wa1, hwa1⟩ : ∃ wa1, wa1 = wB.setCell ⟨w.heap.size + 1, 3, none⟩ (.slice adB0 (my0 + n0) capB0) := ⟨_, rfl⟩
    have HV' := hid ((HV.out.on hF.1).set (c := 3) (u := .slice adB0 (my0 + n0) capB0))
    have HSY' := hid (And.intro (HSY.out.1.step (c := 3) (u := .slice adB0 (my0 + n0) capB0) hF.1) (And.intro (HSY.out.2.1.step (c := 3) (u := .slice adB0 (my0 + n0) capB0) hF.1) (HSY.out.2.2.step (c := 3) (u := .slice adB0 (my0 + n0) capB0) hF.1)))
    have HSX' := hid (And.intro (HSX.out.1.step (c := 3) (u := .slice adB0 (my0 + n0) capB0) hF.1) (And.intro (HSX.out.2.1.step (c := 3) (u := .slice adB0 (my0 + n0) capB0) hF.1) (HSX.out.2.2.step (c := 3) (u := .slice adB0 (my0 + n0) capB0) hF.1)))
    have HBA' := hid ((up_trans HBA.out hF.1).setCell (p := ⟨w.heap.size + 1, 3, none⟩) (Nat.le_succ _) (.slice adB0 (my0 + n0) capB0))
    have HF0' := hid (show Safe (wB.setCell ⟨w.heap.size + 1, 3, none⟩ (.slice adB0 (my0 + n0) capB0)) (w.heap.size + 1) (.slice adB0 (my0 + n0) capB0) (my0 + n0) 3 ([] ++ ds0 ++ cs0) from ⟨cells_set (own_cells hF.2 (HCL.out.1)) (.inr (own_far hF.2 hl5)), .inr (own_far hF.2 hl5)⟩)
    have HP0 := hid (And.intro (own_plain hF.2) (fun k (hk : k < wa.heap.size) => own_far hF.2 hk))
    have hsz1 : wa.heap.size ≤ (wB.setCell ⟨w.heap.size + 1, 3, none⟩ (.slice adB0 (my0 + n0) capB0)).heap.size := by have := hF.1.size; simpa [World.setCell] using this
    rw [← hwa1] at HV' HSY' HSX' HBA' HF0' hsz1 ⊢
    simp only [List.setIfInBounds_toArray, List.set_cons_succ, List.set_cons_zero] at HV'
    clear hF hwa1 HV HSY HSX HBA HOM HPA c5 c6 f5 hl5 hl6 hl4
    have HV := hid HV'.out
    have HSY := hid HSY'.out
    have HSX := hid HSX'.out
    have HBA := hid HBA'.out
    have HF0 := hid HF0'.out
    clear HV' HSY' HSX' HBA' HF0'
    go_wp2
    obtain ⟨k40, k50, k60, k45, k46⟩ := HV.out
    have c5 : wa1.cell? ⟨w.heap.size + 1, 4, none⟩ = some (.slice ad1 n1 cap1) := by rw [cell_of_row _ _ _ _ _ _ k50]; rfl
    have c6 : wa1.cell? ⟨g6, 4, none⟩ = some (.slice ady1 my1 capy1) := by rw [cell_of_row _ _ _ _ _ _ k60]; rfl
    have f5 : wa1.frozen? ⟨w.heap.size + 1, 4, none⟩ = false := frozen_of_row _ _ _ _ _ k50
    have hl5 := HV.out.lt.2.1
    have hl6 := HV.out.lt.2.2
    clear k40 k50 k60 k45 k46
    have HOM := hid (own_made wa1.drew 56 5 wa1.heap.size wa1.heap.size (Nat.le_refl _) rfl)
    have HPA := hid (HSY.out.2.1.1.on (((Below.refl _ wa1).drew).alloc (Nat.le_refl _) (.cells #[] 56)))
    apply key_cut4 (F := fun (_ : Value) (adB : Option Addr) (capB : Nat) (wB : World) => Below wa1.heap.size wa1 wB ∧ wB.ownsRow wa1.heap.size 56 5 (.slice adB (my1 + n1) capB) (my1 + n1) ([] ++ ds1 ++ cs1))
    case rest =>
      intro key
      go_region_law (first
        | (refine step_append_cells _ rfl (.tmp 27) (.tmp 29) 41 56 rfl (.agg #[.int .i64 0, .slice none 0 0, .int .i64 0, .slice none 0 0, .int .i64 0]) 5 72 Tryz.underlying41 info_Rule rfl (by decide) (by decide) wa1.heap.size (.slice (some ⟨wa1.heap.size, 0, none⟩) 0 0) 0 [] (by simp [Act.eval]) HOM.out (.slice ady1 my1 capy1) my1 ds1 (by simp [Act.eval]) HPA.out (by omega) (by simp) ?_; intro vA wA hA1 hA2 hA3; have HBA := hid ((((Below.refl _ wa1).drew).alloc (Nat.le_refl _) (.cells #[] 56)).grown hA2 (by simp) (fun k e => Nat.le_of_eq (Option.some.inj e))); have c5A := (HBA.out.cell (p := ⟨w.heap.size + 1, 4, none⟩) hl5).trans c5; have c6A := (HBA.out.cell (p := ⟨g6, 4, none⟩) hl6).trans c6; have f5A := frozen_on HBA.out hl5 f5; have HOA := hid hA1; have HXA := hid (HSX.out.2.1.1.on HBA.out); have hsA := HBA.out.size; have hOw := hid (fun k (e : vA.ownBlock = some k) => (World.ownsRow.lt hA1 k e).1); clear hA1 hA2 hA3)
        | (refine step_append_cells _ rfl (.tmp 30) (.tmp 32) 41 56 rfl (.agg #[.int .i64 0, .slice none 0 0, .int .i64 0, .slice none 0 0, .int .i64 0]) 5 72 Tryz.underlying41 info_Rule rfl (by decide) (by decide) wa1.heap.size vA (0 + my1) ([] ++ ds1) (by simp [Act.eval]) HOA.out (.slice ad1 n1 cap1) n1 cs1 (by simp [Act.eval]) HXA.out (by omega) hsA ?_; intro vB wB hB1 hB2 hB3; have HBB := hid (HBA.out.grown hB2 hsA (fun k e => hOw.out k e)); have c5B := (HBB.out.cell (p := ⟨w.heap.size + 1, 4, none⟩) hl5).trans c5; have f5B := frozen_on HBB.out hl5 f5; have HOB := hid hB1; obtain ⟨adB, capB, eB, _⟩ := own_shape hB1; rw [Nat.zero_add] at eB; subst eB; have hl5B : w.heap.size + 1 < wB.heap.size := Nat.lt_of_lt_of_le hl5 HBB.out.size; clear hB1 hB2 hB3))
      all_goals exact key vA adB capB wB ⟨HBB.out, by have := HOB.out; rwa [Nat.zero_add] at this⟩
    intro vA1 adB1 capB1 wB hF
    have hl4 := HV.out.lt.1
    obtain ⟨wa2, hwa2⟩ : ∃ wa2, wa2 = wB.setCell ⟨w.heap.size + 1, 4, none⟩ (.slice adB1 (my1 + n1) capB1) := ⟨_, rfl⟩
    have HV' := hid ((HV.out.on hF.1).set (c := 4) (u := .slice adB1 (my1 + n1) capB1))
    have HSY' := hid (And.intro (HSY.out.1.step (c := 4) (u := .slice adB1 (my1 + n1) capB1) hF.1) (And.intro (HSY.out.2.1.step (c := 4) (u := .slice adB1 (my1 + n1) capB1) hF.1) (HSY.out.2.2.step (c := 4) (u := .slice adB1 (my1 + n1) capB1) hF.1)))
    have HSX' := hid (And.intro (HSX.out.1.step (c := 4) (u := .slice adB1 (my1 + n1) capB1) hF.1) (And.intro (HSX.out.2.1.step (c := 4) (u := .slice adB1 (my1 + n1) capB1) hF.1) (HSX.out.2.2.step (c := 4) (u := .slice adB1 (my1 + n1) capB1) hF.1)))
    have HBA' := hid ((up_trans HBA.out hF.1).setCell (p := ⟨w.heap.size + 1, 4, none⟩) (Nat.le_succ _) (.slice adB1 (my1 + n1) capB1))
    have HF1' := hid (show Safe (wB.setCell ⟨w.heap.size + 1, 4, none⟩ (.slice adB1 (my1 + n1) capB1)) (w.heap.size + 1) (.slice adB1 (my1 + n1) capB1) (my1 + n1) 5 ([] ++ ds1 ++ cs1) from ⟨cells_set (own_cells hF.2 (HCL.out.2.1)) (.inr (own_far hF.2 hl5)), .inr (own_far hF.2 hl5)⟩)
    have HP1 := hid (And.intro (own_plain hF.2) (fun k (hk : k < wa1.heap.size) => own_far hF.2 hk))
    have hsz2 : wa1.heap.size ≤ (wB.setCell ⟨w.heap.size + 1, 4, none⟩ (.slice adB1 (my1 + n1) capB1)).heap.size := by have := hF.1.size; simpa [World.setCell] using this
    have HF0' := hid (HF0.out.step (c := 4) (u := .slice adB1 (my1 + n1) capB1) hF.1)
    rw [← hwa2] at HV' HSY' HSX' HBA' HF1' hsz2 HF0' ⊢
    simp only [List.setIfInBounds_toArray, List.set_cons_succ, List.set_cons_zero] at HV'
    clear hF hwa2 HV HSY HSX HBA HOM HPA c5 c6 f5 hl5 hl6 hl4 HF0
    have HV := hid HV'.out
    have HSY := hid HSY'.out
    have HSX := hid HSX'.out
    have HBA := hid HBA'.out
    have HF1 := hid HF1'.out
    have HF0 := hid HF0'.out
    clear HV' HSY' HSX' HBA' HF1' HF0'
    go_wp2
    obtain ⟨k40, k50, k60, k45, k46⟩ := HV.out
    have c5 : wa2.cell? ⟨w.heap.size + 1, 5, none⟩ = some (.slice ad2 n2 cap2) := by rw [cell_of_row _ _ _ _ _ _ k50]; rfl
    have c6 : wa2.cell? ⟨g6, 5, none⟩ = some (.slice ady2 my2 capy2) := by rw [cell_of_row _ _ _ _ _ _ k60]; rfl
    have f5 : wa2.frozen? ⟨w.heap.size + 1, 5, none⟩ = false := frozen_of_row _ _ _ _ _ k50
    have hl5 := HV.out.lt.2.1
    have hl6 := HV.out.lt.2.2
    clear k40 k50 k60 k45 k46
    have HOM := hid (own_made wa2.drew 52 2 wa2.heap.size wa2.heap.size (Nat.le_refl _) rfl)
    have HPA := hid (HSY.out.2.2.1.on (((Below.refl _ wa2).drew).alloc (Nat.le_refl _) (.cells #[] 52)))
    apply key_cut4 (F := fun (_ : Value) (adB : Option Addr) (capB : Nat) (wB : World) => Below wa2.heap.size wa2 wB ∧ wB.ownsRow wa2.heap.size 52 2 (.slice adB (my2 + n2) capB) (my2 + n2) ([] ++ ds2 ++ cs2))
    case rest =>
      intro key
      go_region_law (first
        | (refine step_append_cells _ rfl (.tmp 35) (.tmp 37) 42 52 rfl (.agg #[.int .i64 0, .slice none 0 0]) 2 32 Tryz.underlying42 info_Style rfl (by decide) (by decide) wa2.heap.size (.slice (some ⟨wa2.heap.size, 0, none⟩) 0 0) 0 [] (by simp [Act.eval]) HOM.out (.slice ady2 my2 capy2) my2 ds2 (by simp [Act.eval]) HPA.out (by omega) (by simp) ?_; intro vA wA hA1 hA2 hA3; have HBA := hid ((((Below.refl _ wa2).drew).alloc (Nat.le_refl _) (.cells #[] 52)).grown hA2 (by simp) (fun k e => Nat.le_of_eq (Option.some.inj e))); have c5A := (HBA.out.cell (p := ⟨w.heap.size + 1, 5, none⟩) hl5).trans c5; have c6A := (HBA.out.cell (p := ⟨g6, 5, none⟩) hl6).trans c6; have f5A := frozen_on HBA.out hl5 f5; have HOA := hid hA1; have HXA := hid (HSX.out.2.2.1.on HBA.out); have hsA := HBA.out.size; have hOw := hid (fun k (e : vA.ownBlock = some k) => (World.ownsRow.lt hA1 k e).1); clear hA1 hA2 hA3)
        | (refine step_append_cells _ rfl (.tmp 38) (.tmp 40) 42 52 rfl (.agg #[.int .i64 0, .slice none 0 0]) 2 32 Tryz.underlying42 info_Style rfl (by decide) (by decide) wa2.heap.size vA (0 + my2) ([] ++ ds2) (by simp [Act.eval]) HOA.out (.slice ad2 n2 cap2) n2 cs2 (by simp [Act.eval]) HXA.out (by omega) hsA ?_; intro vB wB hB1 hB2 hB3; have HBB := hid (HBA.out.grown hB2 hsA (fun k e => hOw.out k e)); have c5B := (HBB.out.cell (p := ⟨w.heap.size + 1, 5, none⟩) hl5).trans c5; have f5B := frozen_on HBB.out hl5 f5; have HOB := hid hB1; obtain ⟨adB, capB, eB, _⟩ := own_shape hB1; rw [Nat.zero_add] at eB; subst eB; have hl5B : w.heap.size + 1 < wB.heap.size := Nat.lt_of_lt_of_le hl5 HBB.out.size; clear hB1 hB2 hB3))
      all_goals exact key vA adB capB wB ⟨HBB.out, by have := HOB.out; rwa [Nat.zero_add] at this⟩
    intro vA2 adB2 capB2 wB hF
    have hl4 := HV.out.lt.1
    obtain ⟨wa3, hwa3⟩ : ∃ wa3, wa3 = wB.setCell ⟨w.heap.size + 1, 5, none⟩ (.slice adB2 (my2 + n2) capB2) := ⟨_, rfl⟩
    have HV' := hid ((HV.out.on hF.1).set (c := 5) (u := .slice adB2 (my2 + n2) capB2))
    have HSY' := hid (And.intro (HSY.out.1.step (c := 5) (u := .slice adB2 (my2 + n2) capB2) hF.1) (And.intro (HSY.out.2.1.step (c := 5) (u := .slice adB2 (my2 + n2) capB2) hF.1) (HSY.out.2.2.step (c := 5) (u := .slice adB2 (my2 + n2) capB2) hF.1)))
    have HSX' := hid (And.intro (HSX.out.1.step (c := 5) (u := .slice adB2 (my2 + n2) capB2) hF.1) (And.intro (HSX.out.2.1.step (c := 5) (u := .slice adB2 (my2 + n2) capB2) hF.1) (HSX.out.2.2.step (c := 5) (u := .slice adB2 (my2 + n2) capB2) hF.1)))
    have HBA' := hid ((up_trans HBA.out hF.1).setCell (p := ⟨w.heap.size + 1, 5, none⟩) (Nat.le_succ _) (.slice adB2 (my2 + n2) capB2))
    have HF2' := hid (show Safe (wB.setCell ⟨w.heap.size + 1, 5, none⟩ (.slice adB2 (my2 + n2) capB2)) (w.heap.size + 1) (.slice adB2 (my2 + n2) capB2) (my2 + n2) 2 ([] ++ ds2 ++ cs2) from ⟨cells_set (own_cells hF.2 (HCL.out.2.2)) (.inr (own_far hF.2 hl5)), .inr (own_far hF.2 hl5)⟩)
    have HP2 := hid (And.intro (own_plain hF.2) (fun k (hk : k < wa2.heap.size) => own_far hF.2 hk))
    have hsz3 : wa2.heap.size ≤ (wB.setCell ⟨w.heap.size + 1, 5, none⟩ (.slice adB2 (my2 + n2) capB2)).heap.size := by have := hF.1.size; simpa [World.setCell] using this
    have HF0' := hid (HF0.out.step (c := 5) (u := .slice adB2 (my2 + n2) capB2) hF.1)
    have HF1' := hid (HF1.out.step (c := 5) (u := .slice adB2 (my2 + n2) capB2) hF.1)
    rw [← hwa3] at HV' HSY' HSX' HBA' HF2' hsz3 HF0' HF1' ⊢
    simp only [List.setIfInBounds_toArray, List.set_cons_succ, List.set_cons_zero] at HV'
    clear hF hwa3 HV HSY HSX HBA HOM HPA c5 c6 f5 hl5 hl6 hl4 HF0 HF1
    have HV := hid HV'.out
    have HSY := hid HSY'.out
    have HSX := hid HSX'.out
    have HBA := hid HBA'.out
    have HF2 := hid HF2'.out
    have HF0 := hid HF0'.out
    have HF1 := hid HF1'.out
    clear HV' HSY' HSX' HBA' HF2' HF0' HF1'
    obtain ⟨k40, k50, k60, k45, k46⟩ := HV.out
    have b0 : wa3.cell? ⟨w.heap.size + 1, 0, none⟩ = some (.string id) := by rw [cell_of_row _ _ _ _ _ _ k50]; rfl
    have a0 : wa3.cell? ⟨w.heap.size, 0, none⟩ = some (.string ⟨#[]⟩) := by rw [cell_of_row _ _ _ _ _ _ k40]; rfl
    have f0 : wa3.frozen? ⟨w.heap.size, 0, none⟩ = false := frozen_of_row _ _ _ _ _ k40
    have b1 : wa3.cell? ⟨w.heap.size + 1, 1, none⟩ = some (.int .i64 (p : Int)) := by rw [cell_of_row _ _ _ _ _ _ k50]; rfl
    have a1 : wa3.cell? ⟨w.heap.size, 1, none⟩ = some (.int .i64 0) := by rw [cell_of_row _ _ _ _ _ _ k40]; rfl
    have f1 : wa3.frozen? ⟨w.heap.size, 1, none⟩ = false := frozen_of_row _ _ _ _ _ k40
    have b2 : wa3.cell? ⟨w.heap.size + 1, 2, none⟩ = some (.int .i64 digits) := by rw [cell_of_row _ _ _ _ _ _ k50]; rfl
    have a2 : wa3.cell? ⟨w.heap.size, 2, none⟩ = some (.int .i64 0) := by rw [cell_of_row _ _ _ _ _ _ k40]; rfl
    have f2 : wa3.frozen? ⟨w.heap.size, 2, none⟩ = false := frozen_of_row _ _ _ _ _ k40
    have b3 : wa3.cell? ⟨w.heap.size + 1, 3, none⟩ = some (.slice adB0 (my0 + n0) capB0) := by rw [cell_of_row _ _ _ _ _ _ k50]; rfl
    have a3 : wa3.cell? ⟨w.heap.size, 3, none⟩ = some (.slice none 0 0) := by rw [cell_of_row _ _ _ _ _ _ k40]; rfl
    have f3 : wa3.frozen? ⟨w.heap.size, 3, none⟩ = false := frozen_of_row _ _ _ _ _ k40
    have b4 : wa3.cell? ⟨w.heap.size + 1, 4, none⟩ = some (.slice adB1 (my1 + n1) capB1) := by rw [cell_of_row _ _ _ _ _ _ k50]; rfl
    have a4 : wa3.cell? ⟨w.heap.size, 4, none⟩ = some (.slice none 0 0) := by rw [cell_of_row _ _ _ _ _ _ k40]; rfl
    have f4 : wa3.frozen? ⟨w.heap.size, 4, none⟩ = false := frozen_of_row _ _ _ _ _ k40
    have b5 : wa3.cell? ⟨w.heap.size + 1, 5, none⟩ = some (.slice adB2 (my2 + n2) capB2) := by rw [cell_of_row _ _ _ _ _ _ k50]; rfl
    have a5 : wa3.cell? ⟨w.heap.size, 5, none⟩ = some (.slice none 0 0) := by rw [cell_of_row _ _ _ _ _ _ k40]; rfl
    have f5 : wa3.frozen? ⟨w.heap.size, 5, none⟩ = false := frozen_of_row _ _ _ _ _ k40
    have HK4 := hid k40
    have hl4 := HV.out.lt.1
    have hl5 := HV.out.lt.2.1
    clear k40 k50 k60 k45 k46
    go_wp2
    exact bodyPost_ret (v := localeV ⟨id, p, digits, ylex ++ lex, yrules ++ rules, ystyles ++ styles⟩ (.slice adB0 (my0 + n0) capB0) (.slice adB1 (my1 + n1) capB1) (.slice adB2 (my2 + n2) capB2)) (results_cell_row rfl _ _ w.heap.size 44 _ (0, 0) _ rfl (set6_heap HK4.out _ _ _ _ _ _) Tryz.underlying44 rfl (by kernel_rfl)) rfl
      ⟨_, _, _, rfl, [] ++ ds0 ++ cs0, [] ++ ds1 ++ cs1, [] ++ ds2 ++ cs2,
        ⟨by rw [HM.out.1, HL.out.1]; exact cells_set6 HF0.out.1 (.inr (HP0.out.2 _ (by omega))), by rw [HM.out.2.1, HL.out.2.1]; exact cells_set6 HF1.out.1 (.inr (HP1.out.2 _ (by omega))), by rw [HM.out.2.2, HL.out.2.2]; exact cells_set6 HF2.out.1 (.inr (HP2.out.2 _ (by omega)))⟩,
        ⟨((EntryC.nil w0).append HYD.out.1).append HXD.out.1, ((RuleC.nil w0).append HYD.out.2.1).append HXD.out.2.1, ((StyleC.nil w0).append HYD.out.2.2).append HXD.out.2.2⟩,
        ⟨HP0.out.1, HP1.out.1, HP2.out.1⟩, fun k hk _ => ⟨.inr (HP0.out.2 k (by omega)), .inr (HP1.out.2 k (by omega)), .inr (HP2.out.2 k (by omega))⟩, below_set6 HBA.out (Nat.le_refl _) _ _ _ _ _ _⟩

end Go.Proofs.YtohgaknojkdohaaGreatDoor

/- Whether locales may be: what the reference's Right answers. -/
namespace Go.Proofs.YtohgaknojkdohaaGreatDoor
open Go.RowKit Gr

theorem rightAt_own (ls : List Locale) (i : Nat) : rightAt ls i = ((ownOk (ls.getD i nilLocale) && inB (ls.getD i nilLocale).parent (-1) ((i : Int) - 1)) && (!takenAt ls i && check (rulesOf ls i))) := by
  unfold rightAt ownOk
  dsimp only
  generalize idOk _ = b1
  generalize takenAt ls i = b2
  generalize inB (ls.getD i nilLocale).parent (-1) ((i : Int) - 1) = b3
  generalize inB _ 0 3 = b4
  generalize decide (_ ≤ 30) = b5
  generalize List.all _ entryOk = b6
  generalize decide (_ ≤ 20) = b7
  generalize List.all _ styleOk = b8
  generalize check _ = b9
  cases b1 <;> cases b2 <;> cases b3 <;> cases b4 <;> cases b5 <;> cases b6 <;> cases b7 <;> cases b8 <;> rfl

set_option maxRecDepth 8000 in
theorem refright_any (ls : List Locale) (v : Value) (w : World) (hl : LocalesAt w v ls) (hS : Small ls) :
    Calls Tryz.prog 22 #[v] w fun e w' => e = .returned (.bool (rightL ls)) ∧ Below w.heap.size w w' := by
  have HA := hid hl
  have HS := hid hS
  have HAT := hid (fun i w' b hi h10 hp => at_any ls v hS w hl (i + 1) i w' (Nat.lt_succ_self i) b hi h10 hp)
  obtain ⟨ad, cap, rfl, hm, _, hc⟩ := hl
  have HC := hid hc
  clear hc
  by_cases h10 : ls.length ≤ 10
  · have HRL : Hid (rightL ls = (List.range ls.length).all (rightAt ls)) := hid (by unfold rightL; rw [decide_eq_true h10, Bool.true_and])
    have HRF : Hid (∀ j, j < ls.length → rightAt ls j = false → rightL ls = false) := hid (fun j hj hr => by
      rw [HRL.out]
      refine Bool.eq_false_iff.2 fun hh => ?_
      have := List.all_eq_true.1 hh j (List.mem_range.2 hj)
      rw [hr] at this
      cases this)
    generalize hres : rightL ls = res at *
    generalize hn : ls.length = n at *
    have HN := hid hn
    clear hS hn hres
    have h11 : ¬ (10 : Int) < (n : Int) := by omega
    go_enter Tryz.func22, Tryz.ntmps22
    go_wp2
    go_loopw [3] (fun v3 wr => ∃ j : Nat, j ≤ n ∧ v3 = .int .i64 j ∧ Hid (∀ k, k < j → rightAt ls k = true) ∧ Below w.heap.size w wr) (fun v _ => n - (intOf v).toNat)
    case atStart => exact ⟨0, by omega, rfl, hid (fun k hk => by omega), Below.refl _ _⟩
    case round =>
      obtain ⟨j, hj, rfl, ht, hb⟩ := hrel
      by_cases hlt : j < n
      · have hlt2 : (j : Int) < (n : Int) := by omega
        obtain ⟨g, o, rfl, hx⟩ := HC.out j hlt
        have HB := hid hb
        obtain ⟨v0, v1, v2, c0, c1, c2, c3, c4, c5, q0, q1, q2⟩ := hx.on hb
        have HRA := hid (rightAt_own ls j)
        have HIDJ : Hid ((ls.getD j nilLocale).id = (ls.getD j nilLocale).id) := hid rfl
        have HOW := hid (rown_any (ls.getD j nilLocale) v0 v1 v2 wr ⟨q0, q1, q2⟩ (HS.out.at j).2.2.2)
        have HTK : Hid (takenAt ls j = (ls.take j).any fun x => decide (x.id = (ls.getD j nilLocale).id)) := hid rfl
        have HPAR : Hid (inB (ls.getD j nilLocale).parent (-1) ((j : Int) - 1) = true → Par ls j) := hid (fun h k hk => by
          by_cases e : k = j
          · subst e
            have := inB_iff.1 h
            omega
          · exact rightAt_parent (ht.out k (by omega)))
        generalize hxx : ls.getD j nilLocale = x at *
        have HXX := hid hxx
        obtain ⟨ad0, cap0, e0, _⟩ := q0.shape
        obtain ⟨ad1, cap1, e1, _⟩ := q1.shape
        obtain ⟨ad2, cap2, e2, _⟩ := q2.shape
        subst e0 e1 e2
        unfold localeV at HOW
        have HIN := hid (fun w => rin_any x.parent (-1) ((j : Int) - 1) w)
        generalize ownOk x = b1 at *
        generalize inB x.parent (-1) ((j : Int) - 1) = b2 at *
        clear hb hx q0 q1 q2 hxx
        cases b1 with
        | false =>
          go_wp2_with fail
          refine HOW.out.mono ?_
          rintro e w1 ⟨rfl, bel⟩
          have HB2 := hid (up_trans HB.out bel)
          clear bel
          go_wp2
          go_ret
          exact ⟨ret_bool (HRF.out j hlt (by rw [HRA.out]; rfl)).symm, HB2.out⟩
        | true =>
        go_wp2_with fail
        refine HOW.out.mono ?_
        rintro e w1 ⟨rfl, bel⟩
        have HB2 := hid (up_trans HB.out bel)
        have k1 := (bel.cell (lt_of_cell c1)).trans c1
        have k0 := (bel.cell (lt_of_cell c0)).trans c0
        clear bel c0 c1 c2 c3 c4 c5
        go_wp2_with fail
        refine (HIN.out _).mono ?_
        rintro e w2 ⟨rfl, hw⟩
        obtain rfl := hw.symm
        clear hw
        cases b2 with
        | false =>
          go_wp2
          go_ret
          exact ⟨ret_bool (HRF.out j hlt (by rw [HRA.out]; rfl)).symm, HB2.out⟩
        | true =>
        have HPJ := hid (HPAR.out rfl)
        go_wp2
        go_loopw [4] (fun v4 wr => ∃ k : Nat, k ≤ j ∧ v4 = .int .i64 k ∧ Hid ((ls.take k).any (fun y => decide (y.id = x.id)) = false) ∧ Below w1.heap.size w1 wr) (fun v _ => j - (intOf v).toNat)
        case atStart => exact ⟨0, by omega, rfl, hid (by simp), Below.refl _ _⟩
        case round =>
          obtain ⟨k, hk, rfl, ht2, hb2⟩ := hrel
          by_cases hlk : k < j
          · have hlk2 : (k : Int) < (j : Int) := by omega
            have hlk3 : (k : Int) < (n : Int) := by omega
            obtain ⟨g', o', e', hy⟩ := HC.out k (by omega)
            injection e' with e'
            injection e' with e1 e2 _
            subst e1 e2
            obtain ⟨_, _, _, d0, _⟩ := hy.on (up_trans HB2.out hb2)
            have k0' := (hb2.cell (lt_of_cell k0)).trans k0
            have HY : Hid (ls[k]? = some (ls.getD k nilLocale)) := hid (Locale_at (by rw [HN.out]; omega))
            generalize ls.getD k nilLocale = y at *
            have HB3 := hid hb2
            clear hb2 hy
            by_cases q : y.id = x.id
            · have q2 : (y.id.toList == x.id.toList) = true := by rw [q]; simp
              go_wp2
              go_quiet (fail)
              all_goals
                go_wp2
                go_ret
                refine ⟨ret_bool (HRF.out j hlt ?_).symm, below_drewN (up_trans HB2.out HB3.out) _⟩
                have : takenAt ls j = true := by
                  rw [HTK.out]
                  refine List.any_eq_true.2 ⟨y, ?_, decide_eq_true q⟩
                  refine List.mem_of_getElem? (i := k) ?_
                  rw [List.getElem?_take, if_pos hlk]
                  exact HY.out
                rw [HRA.out, this]
                rfl
            · have q2 : (y.id.toList == x.id.toList) = false := by simpa using toList_inj q
              go_wp2
              go_quiet (fail)
              all_goals
                go_wp2
                go_roundw
                case rel => exact ⟨k + 1, by omega, by simp, hid (by rw [List.take_add_one, HY.out, List.any_append, ht2.out]; show (false || (decide (y.id = x.id) || false)) = false; rw [decide_eq_false q]; rfl), below_drewN HB3.out _⟩
                case measure => simp [intOf]; omega
          · obtain rfl : k = j := by omega
            have HT2 := hid ht2.out
            have HB3 := hid (up_trans HB2.out hb2)
            have HATC := hid (HAT.out k wr HB3.out hlt (by omega) HPJ.out)
            have HSM := hid (resOf_small ls HS.out k (by omega))
            clear hb2 k0 k1
            go_wp2_with fail
            refine HATC.out.mono ?_
            rintro e w3 ⟨u0, u1, u2, cs0, cs1, cs2, rfl, hC, hD, hP, _, bel⟩
            have HB4 := hid (up_trans HB3.out bel)
            have hRU : RulesOk w3 u1 (resOf ls k).rules := rules_of_cells hC.2.1 hP.2.1 (hD.2.1.on HB4.out) (by have := HSM.out; omega)
            have HCK := hid (rcheck_any _ _ w3 hRU.1)
            have hru : (resOf ls k).rules = rulesOf ls k := rfl
            rw [hru] at HCK
            unfold localeV
            obtain ⟨ar0, nr0, cr0, er0, _⟩ := hP.1
            obtain ⟨ar1, nr1, cr1, er1, _⟩ := hP.2.1
            obtain ⟨ar2, nr2, cr2, er2, _⟩ := hP.2.2
            clear hC hD hP bel hRU hru
            subst er0 er1 er2
            have hfld : ∀ W : World, (Instr.field 44 (.agg #[.string (resOf ls k).id, .int .i64 (resOf ls k).parent, .int .i64 (resOf ls k).digits, .slice ar0 nr0 cr0, .slice ar1 nr1 cr1, .slice ar2 nr2 cr2]) 4).run Tryz.prog W = .ok (.slice ar1 nr1 cr1) W := fun W => by kernel_rfl
            have HRT : Hid (rightAt ls k = check (rulesOf ls k)) := hid (by rw [HRA.out, HTK.out, HT2.out]; simp)
            generalize check (rulesOf ls k) = b3 at *
            cases b3 with
            | true =>
              go_wp2_with fail
              refine HCK.out.mono ?_
              rintro e w4 ⟨rfl, bel⟩
              have HB5 := hid (up_trans HB4.out bel)
              clear bel
              go_wp2
              go_roundw
              case rel => exact ⟨k + 1, by omega, by simp, hid (fun q hq => by
                by_cases e : q = k
                · subst e; exact HRT.out
                · exact ht.out q (by omega)), HB5.out⟩
              case measure => simp [intOf]; omega
            | false =>
              go_wp2_with fail
              refine HCK.out.mono ?_
              rintro e w4 ⟨rfl, bel⟩
              have HB5 := hid (up_trans HB4.out bel)
              clear bel
              go_wp2
              go_ret
              exact ⟨ret_bool (HRF.out k hlt HRT.out).symm, HB5.out⟩
      · have HB := hid hb
        clear hb
        obtain rfl : j = n := by omega
        go_wp2
        go_ret
        refine ⟨ret_bool ?_, HB.out⟩
        rw [HRL.out]
        exact (List.all_eq_true.2 fun k hk => ht.out k (List.mem_range.1 hk)).symm
  · have e : rightL ls = false := by unfold rightL; rw [decide_eq_false h10, Bool.false_and]
    rw [e]
    clear e
    generalize hn : ls.length = n at *
    clear hS hn
    have h11 : (10 : Int) < (n : Int) := by omega
    go_enter Tryz.func22, Tryz.ntmps22
    go_wp2
    go_ret
    exact ⟨rfl, Below.refl _ _⟩

end Go.Proofs.YtohgaknojkdohaaGreatDoor
