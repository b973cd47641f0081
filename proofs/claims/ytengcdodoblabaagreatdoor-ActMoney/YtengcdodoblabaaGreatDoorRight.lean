/- Whether a value is right; years; signs. -/
import Derived.Test.YtengcdodoblabaaGreatDoorLeaf
namespace Go.Proofs.YtengcdodoblabaaGreatDoor
open Go.RowKit

def boundB (k : Int) (f : List Int) : Bool :=
  if k = 4 then Ci.dayB (f.getD 0 0) (f.getD 1 0) (f.getD 2 0)
  else if k = 5 then Ci.clockB (f.getD 0 0) (f.getD 1 0) (f.getD 2 0)
  else if k = 6 then Ci.dayB (f.getD 0 0) (f.getD 1 0) (f.getD 2 0) && Ci.clockB (f.getD 3 0) (f.getD 4 0) (f.getD 5 0)
  else if k = 7 then normB (f.getD 0 0) (f.getD 1 0)
  else if k = 8 then inB (f.getD 0 0) 0 1000000000 && inB (f.getD 1 0) (-999999999999999999) 999999999999999999
  else if k = 9 then inB (f.getD 0 0) 0 9007199254740991
  else if k = 10 then Ci.dayB (f.getD 0 0) (f.getD 1 0) (f.getD 2 0) && Ci.dayB (f.getD 3 0) (f.getD 4 0) (f.getD 5 0) && decide (cmpL (f.take 3) (f.drop 3) ≤ 0)
  else false
def rightB (x : Val) : Bool := wholeB x && boundB x.kind x.f

theorem len1 {f : List Int} (h : f.length = 1) : ∃ a, f = [a] := by
  match f, h with
  | [a], _ => exact ⟨a, rfl⟩
theorem len2 {f : List Int} (h : f.length = 2) : ∃ a b, f = [a, b] := by
  match f, h with
  | [a, b], _ => exact ⟨a, b, rfl⟩
theorem len3 {f : List Int} (h : f.length = 3) : ∃ a b c, f = [a, b, c] := by
  match f, h with
  | [a, b, c], _ => exact ⟨a, b, c, rfl⟩
theorem len6 {f : List Int} (h : f.length = 6) : ∃ a b c d e g, f = [a, b, c, d, e, g] := by
  match f, h with
  | [a, b, c, d, e, g], _ => exact ⟨a, b, c, d, e, g, rfl⟩

theorem clock111 (h i s : Int) : Ci.rtB 1 1 1 h i s = Ci.clockB h i s := by unfold Ci.rtB; rw [show Ci.dayB 1 1 1 = true by decide, Bool.true_and]

set_option maxHeartbeats 1000000 in
theorem bounded_none (k : Int) (ad : Option Addr) (n cap : Nat) (w : World) (hk : k ≠ 4 ∧ k ≠ 5 ∧ k ≠ 6 ∧ k ≠ 7 ∧ k ≠ 8 ∧ k ≠ 9 ∧ k ≠ 10) :
    Calls Tryz.prog 27 #[.int .i64 k, .slice ad n cap] w fun e w' => e = .returned (.bool false) ∧ Below w.heap.size w w' := by
  have h4 : (k == 4) = false := by simp [hk.1]
  have h5 : (k == 5) = false := by simp [hk.2.1]
  have h6 : (k == 6) = false := by simp [hk.2.2.1]
  have h7 : (k == 7) = false := by simp [hk.2.2.2.1]
  have h8 : (k == 8) = false := by simp [hk.2.2.2.2.1]
  have h9 : (k == 9) = false := by simp [hk.2.2.2.2.2.1]
  have h10 : (k == 10) = false := by simp [hk.2.2.2.2.2.2]
  clear hk
  go_enter Tryz.func27, Tryz.ntmps27
  go_wp2
  go_ret
  exact ⟨rfl, Below.refl _ _⟩

set_option maxHeartbeats 1000000 in
theorem bounded_4 (a b c : Int) (v : Value) (w : World) (h : IA w v [a, b, c]) :
    Calls Tryz.prog 27 #[.int .i64 4, v] w fun e w' => e = .returned (.bool (Ci.dayB a b c)) ∧ Below w.heap.size w w' := by
  have HD := hid (isDay_any a b c v w h)
  obtain ⟨ad, cap, rfl, _⟩ := h.shape
  clear h
  go_enter Tryz.func27, Tryz.ntmps27
  go_wp2_with fail
  refine HD.out.mono ?_
  rintro e w1 ⟨rfl, hb⟩
  have HB := hid hb
  clear hb
  go_wp2
  go_ret
  exact ⟨rfl, HB.out⟩

set_option maxHeartbeats 1000000 in
theorem bounded_5 (x y z : Int) (v : Value) (w : World) (h : IA w v [x, y, z]) :
    Calls Tryz.prog 27 #[.int .i64 5, v] w fun e w' => e = .returned (.bool (Ci.clockB x y z)) ∧ Below w.heap.size w w' := by
  obtain ⟨b, o, cap, rfl, hl, hc, hlt, hcs⟩ := h.has (by simp)
  have c0 := hcs 0 (by simp)
  have c1 := hcs 1 (by simp)
  have c2 := hcs 2 (by simp)
  simp only [List.length_cons, List.length_nil, Nat.zero_add, Nat.reduceAdd, List.getD_cons_zero, List.getD_cons_succ, Nat.add_zero] at *
  have HR : Hid (∀ w, Calls Tryz.prog 69 #[.agg #[.int .i64 1, .int .i64 1, .int .i64 1, .int .i64 x, .int .i64 y, .int .i64 z]] w fun e w' => e = .returned (.bool (Ci.clockB x y z)) ∧ Below w.heap.size w w') := hid fun w => by
    have := Ci.right_any 1 1 1 x y z w
    rwa [clock111] at this
  generalize Ci.clockB x y z = r at *
  clear h hcs
  go_enter Tryz.func27, Tryz.ntmps27
  go_wp2
  refine Ci.wp_region_ext2 (by kernel_rfl) (by kernel_rfl) (fun hne hcell => ?_)
  repeat (go_big_quiet_step ((go_at_call 69; exact (HR.out _).mono (fun e w' h => ⟨h.1, Ci.Ext.to _ h.2⟩))))
  refine wpQuiet_nil ?_
  rintro _ ⟨s, rfl⟩
  go_wp2
  go_ret
  exact ⟨rfl, s.below⟩

set_option maxHeartbeats 1000000 in
theorem bounded_6 (x y z x' y' z' : Int) (v : Value) (w : World) (h : IA w v [x, y, z, x', y', z']) :
    Calls Tryz.prog 27 #[.int .i64 6, v] w fun e w' => e = .returned (.bool (Ci.dayB x y z && Ci.clockB x' y' z')) ∧ Below w.heap.size w w' := by
  obtain ⟨b, o, cap, rfl, hl, hc, hlt, hcs⟩ := h.has (by simp)
  have c0 := hcs 0 (by simp)
  have c1 := hcs 1 (by simp)
  have c2 := hcs 2 (by simp)
  have c3 := hcs 3 (by simp)
  have c4 := hcs 4 (by simp)
  have c5 := hcs 5 (by simp)
  simp only [List.length_cons, List.length_nil, Nat.zero_add, Nat.reduceAdd, List.getD_cons_zero, List.getD_cons_succ, Nat.add_zero] at *
  have HR := hid fun w => Ci.right_any x y z x' y' z' w
  rw [show (Ci.dayB x y z && Ci.clockB x' y' z') = Ci.rtB x y z x' y' z' from rfl]
  generalize Ci.rtB x y z x' y' z' = r at *
  clear h hcs
  go_enter Tryz.func27, Tryz.ntmps27
  go_wp2
  refine Ci.wp_region_ext2 (by kernel_rfl) (by kernel_rfl) (fun hne hcell => ?_)
  repeat (go_big_quiet_step ((go_at_call 69; exact (HR.out _).mono (fun e w' h => ⟨h.1, Ci.Ext.to _ h.2⟩))))
  refine wpQuiet_nil ?_
  rintro _ ⟨s, rfl⟩
  go_wp2
  go_ret
  exact ⟨rfl, s.below⟩

set_option maxHeartbeats 1000000 in
theorem bounded_7 (x y : Int) (v : Value) (w : World) (h : IA w v [x, y]) :
    Calls Tryz.prog 27 #[.int .i64 7, v] w fun e w' => e = .returned (.bool (normB x y)) ∧ Below w.heap.size w w' := by
  obtain ⟨b, o, cap, rfl, hl, hc, hlt, hcs⟩ := h.has (by simp)
  have c0 := hcs 0 (by simp)
  have c1 := hcs 1 (by simp)
  simp only [List.length_cons, List.length_nil, Nat.zero_add, Nat.reduceAdd, List.getD_cons_zero, List.getD_cons_succ, Nat.add_zero] at *
  have HR := hid fun w => isNormed_any x y w
  generalize normB x y = r at *
  clear h hcs
  go_enter Tryz.func27, Tryz.ntmps27
  go_wp2
  refine Ci.wp_region_ext2 (by kernel_rfl) (by kernel_rfl) (fun hne hcell => ?_)
  repeat (go_big_quiet_step ((go_at_call 70; exact (HR.out _).mono (fun e w' h => ⟨h.1, Ci.Ext.to _ h.2⟩))))
  refine wpQuiet_nil ?_
  rintro _ ⟨s, rfl⟩
  go_wp2
  go_ret
  exact ⟨rfl, s.below⟩

set_option maxHeartbeats 1000000 in
theorem bounded_8 (x y : Int) (v : Value) (w : World) (h : IA w v [x, y]) :
    Calls Tryz.prog 27 #[.int .i64 8, v] w fun e w' => e = .returned (.bool (inB x 0 1000000000 && inB y (-999999999999999999) 999999999999999999)) ∧ Below w.heap.size w w' := by
  obtain ⟨b, o, cap, rfl, hl, hc, hlt, hcs⟩ := h.has (by simp)
  have c0 := hcs 0 (by simp)
  have c1 := hcs 1 (by simp)
  simp only [List.length_cons, List.length_nil, Nat.zero_add, Nat.reduceAdd, List.getD_cons_zero, List.getD_cons_succ, Nat.add_zero] at *
  have H1 := hid (within_any x 0 1000000000)
  have H2 := hid (within_any y (-999999999999999999) 999999999999999999)
  generalize inB x 0 1000000000 = r1 at *
  generalize inB y (-999999999999999999) 999999999999999999 = r2 at *
  clear h hcs
  cases r1
  · go_enter Tryz.func27, Tryz.ntmps27
    go_wp2_with fail
    refine (H1.out _).mono ?_
    rintro e w1 ⟨rfl, rfl⟩
    go_wp2
    go_ret
    exact ⟨ret_bool (by simp), Below.refl _ _⟩
  · go_enter Tryz.func27, Tryz.ntmps27
    go_wp2_with fail
    refine (H1.out _).mono ?_
    rintro e w1 ⟨rfl, rfl⟩
    go_wp2_with fail
    refine (H2.out _).mono ?_
    rintro e w1 ⟨rfl, rfl⟩
    go_wp2
    go_ret
    exact ⟨ret_bool (by simp), Below.refl _ _⟩

set_option maxHeartbeats 1000000 in
theorem bounded_9 (x : Int) (v : Value) (w : World) (h : IA w v [x]) :
    Calls Tryz.prog 27 #[.int .i64 9, v] w fun e w' => e = .returned (.bool (inB x 0 9007199254740991)) ∧ Below w.heap.size w w' := by
  obtain ⟨b, o, cap, rfl, hl, hc, hlt, hcs⟩ := h.has (by simp)
  have c0 := hcs 0 (by simp)
  simp only [List.length_cons, List.length_nil, Nat.zero_add, List.getD_cons_zero, Nat.add_zero] at *
  have H1 := hid (within_any x 0 9007199254740991)
  generalize inB x 0 9007199254740991 = r1 at *
  clear h hcs
  go_enter Tryz.func27, Tryz.ntmps27
  go_wp2_with fail
  refine (H1.out _).mono ?_
  rintro e w1 ⟨rfl, rfl⟩
  go_wp2
  go_ret
  exact ⟨rfl, Below.refl _ _⟩

theorem IA.front3 {w : World} {b o cap : Nat} {x y z x' y' z' : Int} (h : IA w (.slice (some ⟨b, o, none⟩) 6 cap) [x, y, z, x', y', z']) : IA w (.slice (some ⟨b, o, none⟩) 3 cap) [x, y, z] := by
  obtain ⟨b', o', cap', e, hl, hc, hlt, hcs⟩ := h.has (by simp)
  injection e with e1 e2 e3
  injection e1 with e1
  injection e1 with e1 e4
  subst e1 e3 e4
  refine ⟨_, _, rfl, ⟨by simp, by simp at hl ⊢; omega, hc⟩, .inr ⟨b, o, rfl, hlt, fun j hj => ?_⟩⟩
  have hj2 : j < 3 := by simpa using hj
  rw [hcs j (by simp; omega)]
  match j, hj2 with
  | 0, _ => rfl
  | 1, _ => rfl
  | 2, _ => rfl
theorem IA.back3 {w : World} {b o cap : Nat} {x y z x' y' z' : Int} (h : IA w (.slice (some ⟨b, o, none⟩) 6 cap) [x, y, z, x', y', z']) : IA w (.slice (some ⟨b, o + 3, none⟩) 3 (cap - 3)) [x', y', z'] := by
  obtain ⟨b', o', cap', e, hl, hc, hlt, hcs⟩ := h.has (by simp)
  injection e with e1 e2 e3
  injection e1 with e1
  injection e1 with e1 e4
  subst e1 e3 e4
  refine ⟨_, _, rfl, ⟨by simp, by simp at hl ⊢; omega, by omega⟩, .inr ⟨b, o + 3, rfl, hlt, fun j hj => ?_⟩⟩
  have hj2 : j < 3 := by simpa using hj
  rw [Nat.add_assoc, hcs (3 + j) (by simp; omega)]
  match j, hj2 with
  | 0, _ => rfl
  | 1, _ => rfl
  | 2, _ => rfl

set_option maxRecDepth 8000 in
set_option maxHeartbeats 1000000 in
theorem bounded_10 (x y z x' y' z' : Int) (v : Value) (w : World) (h : IA w v [x, y, z, x', y', z']) :
    Calls Tryz.prog 27 #[.int .i64 10, v] w fun e w' => e = .returned (.bool (Ci.dayB x y z && Ci.dayB x' y' z' && decide (cmpL [x, y, z] [x', y', z'] ≤ 0))) ∧ Below w.heap.size w w' := by
  obtain ⟨b, o, cap, rfl, hl, hc, hlt, hcs⟩ := h.has (by simp)
  simp only [List.length_cons, List.length_nil, Nat.zero_add, Nat.reduceAdd] at *
  have HF : Hid (∀ (s : Ci.Ext w) (a c : Nat) (r : Bool), (a = o ∧ c = cap ∧ r = Ci.dayB x y z) ∨ (a = o + 3 ∧ c = cap - 3 ∧ r = Ci.dayB x' y' z') → Calls Tryz.prog 68 #[.slice (some ⟨b, a, none⟩) 3 c] s.out fun e w' => e = .returned (.bool r) ∧ Below s.out.heap.size s.out w') := hid fun s a c r hr => by
    rcases hr with ⟨rfl, rfl, rfl⟩ | ⟨rfl, rfl, rfl⟩
    · exact isDay_any x y z _ _ (h.front3.on s.below)
    · exact isDay_any x' y' z' _ _ (h.back3.on s.below)
  have HC : Hid (∀ s : Ci.Ext w, Calls Tryz.prog 71 #[.slice (some ⟨b, o, none⟩) 3 cap, .slice (some ⟨b, o + 3, none⟩) 3 (cap - 3)] s.out fun e w' => e = .returned (.int .i64 (cmpL [x, y, z] [x', y', z'])) ∧ w' = s.out) := hid fun s => compareL_any 3 [x, y, z] [x', y', z'] _ _ _ (h.front3.on s.below) (h.back3.on s.below) rfl rfl (by decide)
  generalize Ci.dayB x y z = r1 at *
  generalize Ci.dayB x' y' z' = r2 at *
  generalize cmpL [x, y, z] [x', y', z'] = r3 at *
  clear h hcs
  have hcap : 6 ≤ cap := hl
  have hcap3 : cap ≠ 3 := by omega
  unfold maxLen at hc
  cases r1
  · go_enter Tryz.func27, Tryz.ntmps27
    go_wp2
    refine Ci.wp_region_ext2 (by kernel_rfl) (by kernel_rfl) (fun hne hcell => ?_)
    repeat (go_big_quiet_step ((first | (go_at_call 68; exact (HF.out _ _ _ _ (by first | exact Or.inl ⟨rfl, rfl, rfl⟩ | exact Or.inr ⟨rfl, rfl, rfl⟩)).mono (fun e w' h => ⟨h.1, Ci.Ext.to _ h.2⟩)))))
    refine wpQuiet_nil ?_
    rintro _ ⟨s, rfl⟩
    go_wp2
    go_ret
    exact ⟨ret_bool (by simp), s.below⟩
  · cases r2
    · go_enter Tryz.func27, Tryz.ntmps27
      go_wp2
      refine Ci.wp_region_ext2 (by kernel_rfl) (by kernel_rfl) (fun hne hcell => ?_)
      repeat (go_big_quiet_step ((first | (go_at_call 68; exact (HF.out _ _ _ _ (by first | exact Or.inl ⟨rfl, rfl, rfl⟩ | exact Or.inr ⟨rfl, rfl, rfl⟩)).mono (fun e w' h => ⟨h.1, Ci.Ext.to _ h.2⟩)))))
      refine wpQuiet_nil ?_
      rintro _ ⟨s, rfl⟩
      go_wp2
      go_ret
      exact ⟨ret_bool (by simp), s.below⟩
    · go_enter Tryz.func27, Tryz.ntmps27
      go_wp2
      refine Ci.wp_region_ext2 (by kernel_rfl) (by kernel_rfl) (fun hne hcell => ?_)
      repeat (go_big_quiet_step ((first | (go_at_call 68; exact (HF.out _ _ _ _ (by first | exact Or.inl ⟨rfl, rfl, rfl⟩ | exact Or.inr ⟨rfl, rfl, rfl⟩)).mono (fun e w' h => ⟨h.1, Ci.Ext.to _ h.2⟩)) | (go_at_call 71; exact (HC.out _).mono (fun e w' h => ⟨h.1, _, h.2⟩)))))
      refine wpQuiet_nil ?_
      rintro _ ⟨s, rfl⟩
      go_wp2
      go_ret
      exact ⟨ret_bool (by simp), s.below⟩

theorem len_of_whole {k : Int} {f : List Int} (h : wholeB ⟨k, f⟩ = true) : inB k 1 10 = true ∧ (f.length : Int) = fieldsL.getD k.toNat 0 := by
  unfold wholeB at h
  simpa using h
theorem bounded_any (k : Int) (f : List Int) (v : Value) (w : World) (h : IA w v f) (hw : wholeB ⟨k, f⟩ = true) :
    Calls Tryz.prog 27 #[.int .i64 k, v] w fun e w' => e = .returned (.bool (boundB k f)) ∧ Below w.heap.size w w' := by
  obtain ⟨h1, h2⟩ := len_of_whole hw
  obtain ⟨a1, a2⟩ := inB_iff.1 h1
  have hk : k = 1 ∨ k = 2 ∨ k = 3 ∨ k = 4 ∨ k = 5 ∨ k = 6 ∨ k = 7 ∨ k = 8 ∨ k = 9 ∨ k = 10 := by omega
  rcases hk with rfl | rfl | rfl | rfl | rfl | rfl | rfl | rfl | rfl | rfl
  · obtain ⟨ad, cap, rfl, _⟩ := h.shape; exact bounded_none 1 _ _ _ w (by decide)
  · obtain ⟨ad, cap, rfl, _⟩ := h.shape; exact bounded_none 2 _ _ _ w (by decide)
  · obtain ⟨ad, cap, rfl, _⟩ := h.shape; exact bounded_none 3 _ _ _ w (by decide)
  · obtain ⟨a, b, c, rfl⟩ := len3 (f := f) (by rw [show fieldsL.getD (Int.toNat 4) 0 = 3 by decide] at h2; omega)
    exact bounded_4 a b c v w h
  · obtain ⟨a, b, c, rfl⟩ := len3 (f := f) (by rw [show fieldsL.getD (Int.toNat 5) 0 = 3 by decide] at h2; omega)
    exact bounded_5 a b c v w h
  · obtain ⟨a, b, c, a', b', c', rfl⟩ := len6 (f := f) (by rw [show fieldsL.getD (Int.toNat 6) 0 = 6 by decide] at h2; omega)
    exact bounded_6 a b c a' b' c' v w h
  · obtain ⟨a, b, rfl⟩ := len2 (f := f) (by rw [show fieldsL.getD (Int.toNat 7) 0 = 2 by decide] at h2; omega)
    exact bounded_7 a b v w h
  · obtain ⟨a, b, rfl⟩ := len2 (f := f) (by rw [show fieldsL.getD (Int.toNat 8) 0 = 2 by decide] at h2; omega)
    exact bounded_8 a b v w h
  · obtain ⟨a, rfl⟩ := len1 (f := f) (by rw [show fieldsL.getD (Int.toNat 9) 0 = 1 by decide] at h2; omega)
    exact bounded_9 a v w h
  · obtain ⟨a, b, c, a', b', c', rfl⟩ := len6 (f := f) (by rw [show fieldsL.getD (Int.toNat 10) 0 = 6 by decide] at h2; omega)
    exact bounded_10 a b c a' b' c' v w h

set_option maxHeartbeats 1000000 in
theorem right_any (p : Value) (x : Val) (v : Value) (w : World) (hv : VA w v x) (hT : Tabs p w) :
    Calls Tryz.prog 14 #[v] w fun e w' => e = .returned (.bool (rightB x)) ∧ Below w.heap.size w w' := by
  obtain ⟨k, f⟩ := x
  have HV := hid hv
  obtain ⟨fv, rfl, hf⟩ := hv
  obtain ⟨ad, cap, rfl, hl, hc, hm⟩ := hf.shape
  dsimp only at *
  have HB := hid (up_alloc w (.cells #[.int .i64 k, .slice ad f.length cap] 27))
  have HW := hid (whole_any p ⟨k, f⟩ _ _ (HV.out.on HB.out) (hT.on HB.out))
  have HF := hid hf
  unfold rightB
  dsimp only
  clear hf hT
  cases hx : wholeB ⟨k, f⟩ with
  | false =>
    rw [hx] at HW
    clear hx
    generalize f.length = n at *
    go_enter Tryz.func14, Tryz.ntmps14
    go_wp2_with fail
    refine HW.out.mono ?_
    rintro e w1 ⟨rfl, hb⟩
    have HB1 := hid (up_trans HB.out hb)
    clear hb
    go_wp2
    go_ret
    exact ⟨ret_bool (by simp), HB1.out⟩
  | true =>
    have HX := hid hx
    rw [hx] at HW
    have HBD : Hid (∀ w', Below w.heap.size w w' → Calls Tryz.prog 27 #[.int .i64 k, .slice ad f.length cap] w' fun e w2 => e = .returned (.bool (boundB k f)) ∧ Below w'.heap.size w' w2) := hid fun w' hb => bounded_any k f _ w' (HF.out.on hb) HX.out
    clear hx
    generalize boundB k f = r at *
    generalize f.length = n at *
    go_enter Tryz.func14, Tryz.ntmps14
    go_wp2_with fail
    refine HW.out.mono ?_
    rintro e w1 ⟨rfl, hb⟩
    have HB1 := hid (up_trans HB.out hb)
    have hr := (hb.block w.heap.size (by simp)).trans (new_row w _)
    have c0 := cell_of_row (o := 0) hr
    have c1 := cell_of_row (o := 1) hr
    simp only [List.getElem?_toArray, List.getElem?_cons_zero, List.getElem?_cons_succ] at c0 c1
    clear hb hr
    go_wp2_with fail
    refine (HBD.out _ HB1.out).mono ?_
    rintro e w2 ⟨rfl, hb2⟩
    have HB2 := hid (up_trans HB1.out hb2)
    clear hb2
    go_wp2
    go_ret
    exact ⟨ret_bool (by simp), HB2.out⟩
end Go.Proofs.YtengcdodoblabaaGreatDoor
