/- Values that came in, of however few numbers: both Rights, alike. -/
import Derived.Test.YtengcdodoblabaaDoorArgs
import Derived.Test.YtengcdodoblabaaDoorRefR2
namespace Go.Proofs.YtengcdodoblabaaDoor
open Go.RowKit

def VSh (v : Value) (x : Val) : Prop := ∃ fv, v = .agg #[.int .i64 x.kind, fv] ∧ ∃ ad cap, fv = .slice ad x.f.length cap ∧ x.f.length ≤ cap ∧ cap ≤ maxLen ∧ x.f.length ≤ 1000000
set_option maxHeartbeats 1000000 in
theorem whole_sh (p : Value) (x : Val) (v : Value) (w : World) (hv : VSh v x) (hT : Tabs p w) :
    Calls Tryd.prog 21 #[v] w fun e w' => e = .returned (.bool (wholeB x)) ∧ Below w.heap.size w w' := by
  obtain ⟨k, xs⟩ := x
  obtain ⟨fv, rfl, hf⟩ := hv
  obtain ⟨ad, cap, rfl, hl, hc, hm⟩ := hf
  have HW := hid (within_any k 1 10)
  unfold wholeB
  dsimp only at *
  generalize xs.length = n at *
  have HB := hid (up_alloc w (.cells #[.int .i64 k, .slice ad n cap] 24))
  cases hi : inB k 1 10 with
  | false =>
    rw [hi] at HW
    clear hi
    go_enter Tryd.func21, Tryd.ntmps21
    go_wp2
    go_quiet ((go_at_call 30; exact (HW.out _).mono (fun e w' h => ⟨h.1, _, h.2⟩)))
    go_wp2
    go_ret
    exact ⟨ret_bool (by simp), below_drewN HB.out _⟩
  | true =>
    rw [hi] at HW
    obtain ⟨h1, h2⟩ := inB_iff.1 hi
    obtain ⟨m, rfl⟩ := Int.eq_ofNat_of_zero_le (show 0 ≤ k by omega)
    have hc0 := hT.fields m (by omega)
    have hlt := lt_of_cell hc0
    have hc2 := (HB.out.cell (p := ⟨0, m, none⟩) hlt).trans hc0
    have hm11 : (m : Int) < 11 := by omega
    have HE : Hid (fieldsL.getD ((m : Int)).toNat 0 = fieldsL.getD m 0) := hid (by simp)
    rw [HE.out]
    generalize fieldsL.getD m 0 = z at *
    clear hi hT hc0 HE
    go_enter Tryd.func21, Tryd.ntmps21
    go_wp2
    go_quiet ((go_at_call 30; exact (HW.out _).mono (fun e w' h => ⟨h.1, _, h.2⟩)))
    go_wp2
    go_ret
    exact ⟨ret_bool (by simp), below_drewN HB.out _⟩

set_option maxRecDepth 8000 in
set_option maxHeartbeats 4000000 in
theorem rr_out_sh (x : Val) (v : Value) (w : World) (hv : VSh v x) (hk : x.kind < 4 ∨ 10 < x.kind) :
    Calls Tryd.prog 11 #[v] w fun e w' => e = .returned (.bool false) ∧ Below w.heap.size w w' := by
  obtain ⟨k, f⟩ := x
  obtain ⟨fv, rfl, hf⟩ := hv
  obtain ⟨ad, cap, rfl, _⟩ := hf
  have HB := hid (up_alloc w (.cells #[.int .i64 k, .slice ad f.length cap] 24))
  dsimp only at *
  generalize f.length = n at *
  rcases hk with hk | hk
  · have g1 : decide (k < 4) = true := decide_eq_true hk
    go_enter Tryd.func11, Tryd.ntmps11
    go_wp2
    go_quiet (fail)
    go_wp2
    go_ret
    exact ⟨rfl, below_drewN HB.out _⟩
  · have g1 : decide (k < 4) = false := decide_eq_false (by omega)
    have g2 : decide (k > 10) = true := decide_eq_true hk
    have g3 : decide (10 < k) = true := decide_eq_true hk
    go_enter Tryd.func11, Tryd.ntmps11
    go_wp2
    go_quiet (fail)
    go_wp2
    go_ret
    exact ⟨rfl, below_drewN HB.out _⟩

set_option maxRecDepth 8000 in
set_option maxHeartbeats 4000000 in
theorem rr_len_sh (x : Val) (v : Value) (w : World) (hv : VSh v x) (h4 : 4 ≤ x.kind) (h10 : x.kind ≤ 10) (hl : ((x.f.length : Int) == fieldsL.getD x.kind.toNat 0) = false) :
    Calls Tryd.prog 11 #[v] w fun e w' => e = .returned (.bool false) ∧ Below w.heap.size w w' := by
  obtain ⟨k, f⟩ := x
  obtain ⟨fv, rfl, hf⟩ := hv
  obtain ⟨ad, cap, rfl, _⟩ := hf
  have HB := hid (up_alloc w (.cells #[.int .i64 k, .slice ad f.length cap] 24))
  dsimp only at *
  have HF := hid fun w => fields_any k w h4 h10
  generalize f.length = n at *
  generalize fieldsL.getD k.toNat 0 = z at *
  have g1 : decide (k < 4) = false := decide_eq_false (by omega)
  have g2 : decide (k > 10) = false := decide_eq_false (by omega)
  have g3 : decide (10 < k) = false := decide_eq_false (by omega)
  have g4 : ((n : Int) != z) = true := by simpa using hl
  clear hl h4 h10
  go_enter Tryd.func11, Tryd.ntmps11
  go_wp2
  go_quiet ((go_at_call 23; exact (HF.out _).mono (fun e w' h => ⟨h.1, _, h.2⟩)))
  go_wp2
  go_ret
  exact ⟨rfl, below_drewN HB.out _⟩

set_option maxHeartbeats 1000000 in
theorem right_sh (p : Value) (k : Int) (v : Value) (w : World) (hv : VSh v ⟨k, []⟩) (hT : Tabs p w) :
    Calls Tryd.prog 9 #[v] w fun e w' => e = .returned (.bool false) ∧ Below w.heap.size w w' := by
  have HV := hid hv
  obtain ⟨fv, rfl, hf⟩ := hv
  obtain ⟨ad, cap, rfl, hl, hc, hm⟩ := hf
  dsimp only at *
  have HB := hid (up_alloc w (.cells #[.int .i64 k, .slice ad 0 cap] 24))
  have HW := hid (whole_sh p ⟨k, []⟩ _ (w.alloc (.cells #[.int .i64 k, .slice ad 0 cap] 24)) HV.out (hT.on HB.out))
  clear hT
  cases hx : wholeB ⟨k, []⟩ with
  | false =>
    rw [hx] at HW
    clear hx
    go_enter Tryd.func9, Tryd.ntmps9
    go_wp2_with fail
    refine HW.out.mono ?_
    rintro e w1 ⟨rfl, hb⟩
    have HB1 := hid (up_trans HB.out hb)
    clear hb
    go_wp2
    go_ret
    exact ⟨ret_bool (by simp), HB1.out⟩
  | true =>
    rw [hx] at HW
    obtain rfl : k = 3 := by
      obtain ⟨h1, h2⟩ := len_of_whole hx
      obtain ⟨a1, a2⟩ := inB_iff.1 h1
      have hk : k = 1 ∨ k = 2 ∨ k = 3 ∨ k = 4 ∨ k = 5 ∨ k = 6 ∨ k = 7 ∨ k = 8 ∨ k = 9 ∨ k = 10 := by omega
      rcases hk with rfl | rfl | rfl | rfl | rfl | rfl | rfl | rfl | rfl | rfl <;> first | rfl | (exact absurd h2 (by decide))
    have HBD : Hid (∀ w', Calls Tryd.prog 22 #[.int .i64 3, .slice ad 0 cap] w' fun e w2 => e = .returned (.bool false) ∧ Below w'.heap.size w' w2) := hid fun w' => bounded_none 3 _ _ _ w' (by decide)
    clear hx
    go_enter Tryd.func9, Tryd.ntmps9
    go_wp2_with fail
    refine HW.out.mono ?_
    rintro e w1 ⟨rfl, hb⟩
    have HB1 := hid (up_trans HB.out hb)
    have hr := (hb.block w.heap.size (by simp)).trans (new_row w _)
    have c0 := cell_of_row (o := 0) hr
    have c1 := cell_of_row (o := 1) hr
    simp only [List.getElem?_toArray, List.getElem?_cons_zero, List.getElem?_cons_succ] at c0 c1
    clear hb hr
    go_wp2_with fail
    refine (HBD.out _).mono ?_
    rintro e w2 ⟨rfl, hb2⟩
    have HB2 := hid (up_trans HB1.out hb2)
    clear hb2
    go_wp2
    go_ret
    exact ⟨ret_bool (by simp), HB2.out⟩

theorem rright_sh (k : Int) (v : Value) (w : World) (hv : VSh v ⟨k, []⟩) :
    Calls Tryd.prog 11 #[v] w fun e w' => e = .returned (.bool false) ∧ Below w.heap.size w w' := by
  by_cases h : k < 4 ∨ 10 < k
  · exact rr_out_sh ⟨k, []⟩ v w hv h
  · refine rr_len_sh ⟨k, []⟩ v w hv (by show 4 ≤ k; omega) (by show k ≤ 10; omega) ?_
    have hk : k = 4 ∨ k = 5 ∨ k = 6 ∨ k = 7 ∨ k = 8 ∨ k = 9 ∨ k = 10 := by omega
    rcases hk with rfl | rfl | rfl | rfl | rfl | rfl | rfl <;> decide

/-- Of a value that came in both Rights answer alike, in whatever later world. -/
theorem both_raw (p : Value) (W : World) (v : Value) (x : Val) (hv : VW W v x) (hl : x.f.length ≤ 20) : ∃ r : Bool,
    (∀ w, Below W.heap.size W w → Tabs p w → Calls Tryd.prog 9 #[v] w fun e w' => e = .returned (.bool r) ∧ Below w.heap.size w w') ∧
    (∀ w, Below W.heap.size W w → Calls Tryd.prog 11 #[v] w fun e w' => e = .returned (.bool r) ∧ Below w.heap.size w w') := by
  obtain ⟨fv, e, ⟨⟨ad, cap, e2, h1, h2⟩, h3, _⟩, _⟩ := hv
  cases hf : x.f with
  | nil =>
    obtain ⟨k, f⟩ := x
    dsimp only at *
    subst hf
    have hs : VSh v ⟨k, []⟩ := ⟨fv, e, ad, cap, e2, h1, h2, by simp⟩
    exact ⟨false, fun w _ hT => right_sh p k v w hs hT, fun w _ => rright_sh k v w hs⟩
  | cons a l =>
    have hi := h3 (by rw [hf]; simp) (by omega)
    refine ⟨rightB x, fun w hb hT => right_any p x v w ⟨fv, e, hi.on hb⟩ hT, fun w hb => ?_⟩
    exact rright_any x v w ⟨fv, e, hi.on hb⟩
end Go.Proofs.YtengcdodoblabaaDoor
