/- What package blob answers of one part of a style. -/
import Derived.Test.YtohgaknojkdohaaGreatDoorMem
namespace Go.Proofs.YtohgaknojkdohaaGreatDoor
open Go.RowKit Gr

theorem size_zero {s : ByteArray} (h : s.size = 0) : s = ⟨#[]⟩ := by
  obtain ⟨a⟩ := s
  congr 1
  exact Array.eq_empty_of_size_eq_zero h
theorem loop_eq (bs : ByteArray) : ∀ (n i : Nat) (r : List UInt8), bs.size - i = n → ByteArray.toList.loop bs i r = r.reverse ++ bs.data.toList.drop i
  | 0, i, r, h => by
    unfold ByteArray.toList.loop
    rw [if_neg (by omega), List.drop_eq_nil_of_le (by have : bs.data.toList.length = bs.size := rfl
                                                      omega)]
    simp
  | n + 1, i, r, h => by
    have hl : i < bs.data.toList.length := by
      have : bs.data.toList.length = bs.size := rfl
      omega
    unfold ByteArray.toList.loop
    rw [if_pos (by omega), loop_eq bs n (i + 1) _ (by omega), List.drop_eq_getElem_cons hl]
    have : bs.get! i = bs.data.toList[i] := by
      obtain ⟨a⟩ := bs
      show a[i]! = _
      rw [getElem!_pos a i (by simpa using hl)]
      simp
    rw [this]
    simp
theorem toList_data (s : ByteArray) : s.toList = s.data.toList := by
  have := loop_eq s _ 0 [] rfl
  simpa [ByteArray.toList] using this
theorem toList_inj {s t : ByteArray} (h : ¬ t = s) : ¬ t.toList = s.toList := fun e => h (by
  rw [toList_data, toList_data] at e
  obtain ⟨⟨a⟩⟩ := s
  obtain ⟨⟨b⟩⟩ := t
  simpa using e)
theorem toList_ne {s : ByteArray} (h : ¬ s = ⟨#[]⟩) : ¬ s.toList = [] := by
  have := toList_inj h
  rwa [toList_data ⟨#[]⟩] at this
theorem isPart_any (p : Part) (w : World) : Calls Tryz.prog 113 #[partV p] w fun e w' => e = .returned (.bool (partOk p)) ∧ Below w.heap.size w w' := by
  obtain ⟨kind, text, field, width, cls⟩ := p
  unfold partV
  have H1 := hid (isField_any field)
  have H2 := hid (fun w => bwithin_any width 0 9 w)
  have H3 := hid (isClass_any cls)
  by_cases h0 : kind = 0
  · subst h0
    by_cases hs : text.size ≤ 20
    · have hs2 : (text.size : Int) ≤ 20 := by omega
      have hp : partOk ⟨0, text, field, width, cls⟩ = (decide (field = 0) && (decide (width = 0) && decide (cls = 0))) := by simp [partOk, hs]
      rw [hp]
      clear hp
      go_enter Tryz.func113, Tryz.ntmps113
      go_wp2
      all_goals
        go_ret
        exact ⟨ret_bool (by simp_all), up_alloc _ _⟩
    · have hs2 : ¬ (text.size : Int) ≤ 20 := by omega
      have hp : partOk ⟨0, text, field, width, cls⟩ = false := by simp [partOk, hs]
      rw [hp]
      clear hp
      go_enter Tryz.func113, Tryz.ntmps113
      go_wp2
      all_goals
        go_ret
        exact ⟨ret_bool (by simp_all), up_alloc _ _⟩
  by_cases h1 : kind = 1
  · subst h1
    have hp : partOk ⟨1, text, field, width, cls⟩ = (fieldOk field && (inB width 0 9 && (decide (text = ⟨#[]⟩) && decide (cls = 0)))) := by
      have : decide (text.size = 0) = decide (text = ⟨#[]⟩) := decide_eq_decide.2 ⟨size_zero, fun h => by subst h; rfl⟩
      unfold partOk
      dsimp only
      rw [this]
      rfl
    rw [hp]
    clear hp
    generalize fieldOk field = b1 at *
    generalize inB width 0 9 = b2 at *
    go_enter Tryz.func113, Tryz.ntmps113
    go_wp2_with fail
    refine (H1.out _).mono ?_
    rintro e w1 ⟨rfl, hw⟩
    obtain rfl := hw.symm
    cases b1 with
    | false =>
      go_wp2
      go_ret
      exact ⟨rfl, up_alloc _ _⟩
    | true =>
      go_wp2_with fail
      refine (H2.out _).mono ?_
      rintro e w2 ⟨rfl, hw2⟩
      obtain rfl := hw2.symm
      cases b2 with
      | false =>
        go_wp2
        go_ret
        exact ⟨rfl, up_alloc _ _⟩
      | true =>
        by_cases ht : text = ⟨#[]⟩
        · subst ht
          go_wp2
          all_goals
            go_ret
            exact ⟨ret_bool (by simp_all), up_alloc _ _⟩
        · have ht2 := toList_ne ht
          go_wp2
          all_goals
            go_ret
            exact ⟨ret_bool (by simp_all), up_alloc _ _⟩
  by_cases h2 : kind = 2
  · subst h2
    have hp : partOk ⟨2, text, field, width, cls⟩ = (fieldOk field && (clsOk cls && (decide (text = ⟨#[]⟩) && decide (width = 0)))) := by
      have : decide (text.size = 0) = decide (text = ⟨#[]⟩) := decide_eq_decide.2 ⟨size_zero, fun h => by subst h; rfl⟩
      unfold partOk
      dsimp only
      rw [this]
      rfl
    rw [hp]
    clear hp
    generalize fieldOk field = b1 at *
    generalize clsOk cls = b2 at *
    go_enter Tryz.func113, Tryz.ntmps113
    go_wp2_with fail
    refine (H1.out _).mono ?_
    rintro e w1 ⟨rfl, hw⟩
    obtain rfl := hw.symm
    cases b1 with
    | false =>
      go_wp2
      go_ret
      exact ⟨rfl, up_alloc _ _⟩
    | true =>
      go_wp2_with fail
      refine (H3.out _).mono ?_
      rintro e w2 ⟨rfl, hw2⟩
      obtain rfl := hw2.symm
      cases b2 with
      | false =>
        go_wp2
        go_ret
        exact ⟨rfl, up_alloc _ _⟩
      | true =>
        by_cases ht : text = ⟨#[]⟩
        · subst ht
          go_wp2
          all_goals
            go_ret
            exact ⟨ret_bool (by simp_all), up_alloc _ _⟩
        · have ht2 := toList_ne ht
          go_wp2
          all_goals
            go_ret
            exact ⟨ret_bool (by simp_all), up_alloc _ _⟩
  have hp : partOk ⟨kind, text, field, width, cls⟩ = false := by simp [partOk, h0, h1, h2]
  rw [hp]
  clear hp
  go_enter Tryz.func113, Tryz.ntmps113
  go_wp2
  go_ret
  exact ⟨rfl, up_alloc _ _⟩

end Go.Proofs.YtohgaknojkdohaaGreatDoor
