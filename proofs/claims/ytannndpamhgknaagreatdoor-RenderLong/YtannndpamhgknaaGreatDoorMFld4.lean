/- The fields of any value that is right. -/
import Derived.Test.YtannndpamhgknaaGreatDoorXRe4
import Derived.Deep.RegionWith
namespace Go.Proofs.YtannndpamhgknaaGreatDoor
open Go.RowKit Gr Bl

theorem FRet.up {w w' : World} {fs : List Fld} {e : Ending} {w2 : World} (h : FRet w' fs e w2) (hb : Below w.heap.size w w') : FRet w fs e w2 := by
  obtain ⟨g, cap, h1, h2, h3⟩ := h
  exact ⟨g, cap, h1, ⟨own_low h2.1 hb.size, h2.2⟩, up_trans hb h3⟩

set_option maxRecDepth 8000 in
set_option maxHeartbeats 1000000 in
theorem fieldsOf_4 (fs : List Fld) (ad : Option Addr) (n cap : Nat) (w : World) (hF : ∀ w', Below w.heap.size w w' → Calls Tryz.prog 57 #[.slice ad n cap] w' (FRet w' fs)) :
    Calls Tryz.prog 37 #[.agg #[.int .i64 4, .slice ad n cap]] w (FRet w fs) := by
  obtain ⟨w1, hw1⟩ : ∃ w1, w1 = (w.alloc (.cells #[.int .i64 4, .slice ad n cap] 27)).alloc (.cells #[.nilFunc, .nilFunc, .nilFunc, .nilFunc, .func (.func 57) #[] #[], .func (.func 57) #[] #[], .func (.func 57) #[] #[], .func (.func 58) #[] #[], .func (.func 59) #[] #[], .func (.func 60) #[] #[], .func (.func 57) #[] #[]] 99) := ⟨_, rfl⟩
  have hb1 : Below w.heap.size w w1 := by rw [hw1]; exact ((Below.refl w.heap.size w).alloc (Nat.le_refl _) _).alloc (by simp) _
  have HF := hid (hF w1.drew hb1.drew)
  have HB := hid hb1.drew
  clear hF hb1
  go_enter Tryz.func37, Tryz.ntmps37
  go_wp2
  subst hw1
  go_region_with (refine HF.out.mono ?_; rintro e w2 h; have HR := hid (FRet.up h HB.out); obtain ⟨g, cap', rfl, _, _⟩ := h)
  all_goals
    go_wp2
    go_ret
    exact HR.out

set_option maxRecDepth 8000 in
set_option maxHeartbeats 1000000 in
theorem fieldsOf_5 (fs : List Fld) (ad : Option Addr) (n cap : Nat) (w : World) (hF : ∀ w', Below w.heap.size w w' → Calls Tryz.prog 57 #[.slice ad n cap] w' (FRet w' fs)) :
    Calls Tryz.prog 37 #[.agg #[.int .i64 5, .slice ad n cap]] w (FRet w fs) := by
  obtain ⟨w1, hw1⟩ : ∃ w1, w1 = (w.alloc (.cells #[.int .i64 5, .slice ad n cap] 27)).alloc (.cells #[.nilFunc, .nilFunc, .nilFunc, .nilFunc, .func (.func 57) #[] #[], .func (.func 57) #[] #[], .func (.func 57) #[] #[], .func (.func 58) #[] #[], .func (.func 59) #[] #[], .func (.func 60) #[] #[], .func (.func 57) #[] #[]] 99) := ⟨_, rfl⟩
  have hb1 : Below w.heap.size w w1 := by rw [hw1]; exact ((Below.refl w.heap.size w).alloc (Nat.le_refl _) _).alloc (by simp) _
  have HF := hid (hF w1.drew hb1.drew)
  have HB := hid hb1.drew
  clear hF hb1
  go_enter Tryz.func37, Tryz.ntmps37
  go_wp2
  subst hw1
  go_region_with (refine HF.out.mono ?_; rintro e w2 h; have HR := hid (FRet.up h HB.out); obtain ⟨g, cap', rfl, _, _⟩ := h)
  all_goals
    go_wp2
    go_ret
    exact HR.out

set_option maxRecDepth 8000 in
set_option maxHeartbeats 1000000 in
theorem fieldsOf_6 (fs : List Fld) (ad : Option Addr) (n cap : Nat) (w : World) (hF : ∀ w', Below w.heap.size w w' → Calls Tryz.prog 57 #[.slice ad n cap] w' (FRet w' fs)) :
    Calls Tryz.prog 37 #[.agg #[.int .i64 6, .slice ad n cap]] w (FRet w fs) := by
  obtain ⟨w1, hw1⟩ : ∃ w1, w1 = (w.alloc (.cells #[.int .i64 6, .slice ad n cap] 27)).alloc (.cells #[.nilFunc, .nilFunc, .nilFunc, .nilFunc, .func (.func 57) #[] #[], .func (.func 57) #[] #[], .func (.func 57) #[] #[], .func (.func 58) #[] #[], .func (.func 59) #[] #[], .func (.func 60) #[] #[], .func (.func 57) #[] #[]] 99) := ⟨_, rfl⟩
  have hb1 : Below w.heap.size w w1 := by rw [hw1]; exact ((Below.refl w.heap.size w).alloc (Nat.le_refl _) _).alloc (by simp) _
  have HF := hid (hF w1.drew hb1.drew)
  have HB := hid hb1.drew
  clear hF hb1
  go_enter Tryz.func37, Tryz.ntmps37
  go_wp2
  subst hw1
  go_region_with (refine HF.out.mono ?_; rintro e w2 h; have HR := hid (FRet.up h HB.out); obtain ⟨g, cap', rfl, _, _⟩ := h)
  all_goals
    go_wp2
    go_ret
    exact HR.out

set_option maxRecDepth 8000 in
set_option maxHeartbeats 1000000 in
theorem fieldsOf_7 (fs : List Fld) (ad : Option Addr) (n cap : Nat) (w : World) (hF : ∀ w', Below w.heap.size w w' → Calls Tryz.prog 58 #[.slice ad n cap] w' (FRet w' fs)) :
    Calls Tryz.prog 37 #[.agg #[.int .i64 7, .slice ad n cap]] w (FRet w fs) := by
  obtain ⟨w1, hw1⟩ : ∃ w1, w1 = (w.alloc (.cells #[.int .i64 7, .slice ad n cap] 27)).alloc (.cells #[.nilFunc, .nilFunc, .nilFunc, .nilFunc, .func (.func 57) #[] #[], .func (.func 57) #[] #[], .func (.func 57) #[] #[], .func (.func 58) #[] #[], .func (.func 59) #[] #[], .func (.func 60) #[] #[], .func (.func 57) #[] #[]] 99) := ⟨_, rfl⟩
  have hb1 : Below w.heap.size w w1 := by rw [hw1]; exact ((Below.refl w.heap.size w).alloc (Nat.le_refl _) _).alloc (by simp) _
  have HF := hid (hF w1.drew hb1.drew)
  have HB := hid hb1.drew
  clear hF hb1
  go_enter Tryz.func37, Tryz.ntmps37
  go_wp2
  subst hw1
  go_region_with (refine HF.out.mono ?_; rintro e w2 h; have HR := hid (FRet.up h HB.out); obtain ⟨g, cap', rfl, _, _⟩ := h)
  all_goals
    go_wp2
    go_ret
    exact HR.out

set_option maxRecDepth 8000 in
set_option maxHeartbeats 1000000 in
theorem fieldsOf_8 (fs : List Fld) (ad : Option Addr) (n cap : Nat) (w : World) (hF : ∀ w', Below w.heap.size w w' → Calls Tryz.prog 59 #[.slice ad n cap] w' (FRet w' fs)) :
    Calls Tryz.prog 37 #[.agg #[.int .i64 8, .slice ad n cap]] w (FRet w fs) := by
  obtain ⟨w1, hw1⟩ : ∃ w1, w1 = (w.alloc (.cells #[.int .i64 8, .slice ad n cap] 27)).alloc (.cells #[.nilFunc, .nilFunc, .nilFunc, .nilFunc, .func (.func 57) #[] #[], .func (.func 57) #[] #[], .func (.func 57) #[] #[], .func (.func 58) #[] #[], .func (.func 59) #[] #[], .func (.func 60) #[] #[], .func (.func 57) #[] #[]] 99) := ⟨_, rfl⟩
  have hb1 : Below w.heap.size w w1 := by rw [hw1]; exact ((Below.refl w.heap.size w).alloc (Nat.le_refl _) _).alloc (by simp) _
  have HF := hid (hF w1.drew hb1.drew)
  have HB := hid hb1.drew
  clear hF hb1
  go_enter Tryz.func37, Tryz.ntmps37
  go_wp2
  subst hw1
  go_region_with (refine HF.out.mono ?_; rintro e w2 h; have HR := hid (FRet.up h HB.out); obtain ⟨g, cap', rfl, _, _⟩ := h)
  all_goals
    go_wp2
    go_ret
    exact HR.out

set_option maxRecDepth 8000 in
set_option maxHeartbeats 1000000 in
theorem fieldsOf_9 (fs : List Fld) (ad : Option Addr) (n cap : Nat) (w : World) (hF : ∀ w', Below w.heap.size w w' → Calls Tryz.prog 60 #[.slice ad n cap] w' (FRet w' fs)) :
    Calls Tryz.prog 37 #[.agg #[.int .i64 9, .slice ad n cap]] w (FRet w fs) := by
  obtain ⟨w1, hw1⟩ : ∃ w1, w1 = (w.alloc (.cells #[.int .i64 9, .slice ad n cap] 27)).alloc (.cells #[.nilFunc, .nilFunc, .nilFunc, .nilFunc, .func (.func 57) #[] #[], .func (.func 57) #[] #[], .func (.func 57) #[] #[], .func (.func 58) #[] #[], .func (.func 59) #[] #[], .func (.func 60) #[] #[], .func (.func 57) #[] #[]] 99) := ⟨_, rfl⟩
  have hb1 : Below w.heap.size w w1 := by rw [hw1]; exact ((Below.refl w.heap.size w).alloc (Nat.le_refl _) _).alloc (by simp) _
  have HF := hid (hF w1.drew hb1.drew)
  have HB := hid hb1.drew
  clear hF hb1
  go_enter Tryz.func37, Tryz.ntmps37
  go_wp2
  subst hw1
  go_region_with (refine HF.out.mono ?_; rintro e w2 h; have HR := hid (FRet.up h HB.out); obtain ⟨g, cap', rfl, _, _⟩ := h)
  all_goals
    go_wp2
    go_ret
    exact HR.out

set_option maxRecDepth 8000 in
set_option maxHeartbeats 1000000 in
theorem fieldsOf_10 (fs : List Fld) (ad : Option Addr) (n cap : Nat) (w : World) (hF : ∀ w', Below w.heap.size w w' → Calls Tryz.prog 57 #[.slice ad n cap] w' (FRet w' fs)) :
    Calls Tryz.prog 37 #[.agg #[.int .i64 10, .slice ad n cap]] w (FRet w fs) := by
  obtain ⟨w1, hw1⟩ : ∃ w1, w1 = (w.alloc (.cells #[.int .i64 10, .slice ad n cap] 27)).alloc (.cells #[.nilFunc, .nilFunc, .nilFunc, .nilFunc, .func (.func 57) #[] #[], .func (.func 57) #[] #[], .func (.func 57) #[] #[], .func (.func 58) #[] #[], .func (.func 59) #[] #[], .func (.func 60) #[] #[], .func (.func 57) #[] #[]] 99) := ⟨_, rfl⟩
  have hb1 : Below w.heap.size w w1 := by rw [hw1]; exact ((Below.refl w.heap.size w).alloc (Nat.le_refl _) _).alloc (by simp) _
  have HF := hid (hF w1.drew hb1.drew)
  have HB := hid hb1.drew
  clear hF hb1
  go_enter Tryz.func37, Tryz.ntmps37
  go_wp2
  subst hw1
  go_region_with (refine HF.out.mono ?_; rintro e w2 h; have HR := hid (FRet.up h HB.out); obtain ⟨g, cap', rfl, _, _⟩ := h)
  all_goals
    go_wp2
    go_ret
    exact HR.out

/-- What a value that is right has in it. -/
theorem right_fits {k : Int} {f : List Int} (h : Ac.rightB ⟨k, f⟩ = true) : 4 ≤ k ∧ k ≤ 10 ∧ (f.length : Int) = Ac.fieldsL.getD k.toNat 0 ∧ Ac.boundB k f = true := by
  unfold Ac.rightB at h
  simp only [Bool.and_eq_true] at h
  obtain ⟨h1, h2⟩ := h
  obtain ⟨h3, h4⟩ := Ac.len_of_whole h1
  obtain ⟨h5, h6⟩ := Ac.inB_iff.1 h3
  refine ⟨?_, h6, h4, h2⟩
  rcases (by omega : k = 1 ∨ k = 2 ∨ k = 3 ∨ 4 ≤ k) with rfl | rfl | rfl | h
  · simp [Ac.boundB] at h2
  · simp [Ac.boundB] at h2
  · simp [Ac.boundB] at h2
  · exact h
end Go.Proofs.YtannndpamhgknaaGreatDoor
