/- What the reference's Fold answers for every string of at most a million bytes: the same two rows. -/
import Derived.Test.YtncklgdchmhoiaaGreatDoorFoNextAll
import Derived.Test.YtncklgdchmhoiaaGreatDoorFoInts
import Derived.Deep.AppendLies
namespace Go.Proofs.YtncklgdchmhoiaaGreatDoor.Fo
open Go.RowKit

theorem tail_data (s : ByteArray) (n : Nat) : (s.extract n s.size).data.toList = s.data.toList.drop n := by
  rw [Lib.extract_data]
  apply List.take_of_length_le
  rw [List.length_drop, ← Lib.size_eq]
  exact Nat.le_refl _
theorem tail_dec (s : ByteArray) (n : Nat) : Utf8.decode (s.extract n s.size) 0 = Utf8.decode s n := by
  rw [decL_drop, decL_drop, tail_data, List.drop_zero]
theorem tail_sz (s : ByteArray) (n : Nat) : (s.extract n s.size).size = s.size - n := by
  rw [Lib.size_eq, tail_data, List.length_drop, ← Lib.size_eq]

def Ap (v u : Value) : Prop := ∀ k, v.ownBlock = some k → u.ownBlock ≠ some k

theorem append_keep {w W W' : World} {B g cap n m : Nat} {v u : Value} {ys : List Value} {o : Obj} (gr : (W.alloc o).grownBy W' v.ownBlock) (hat : v.ownBlock = some g ∨ g = (W.alloc o).heap.size)
    (hu : W.ownsRow B 3 1 u n ys) (hap : Ap v u) (hL : Below B w W) (hv : ∀ k, v.ownBlock = some k → B ≤ k) (hB : B ≤ W.heap.size) :
    W'.ownsRow B 3 1 u n ys ∧ Ap (.slice (some ⟨g, 0, none⟩) m cap) u ∧ Below B w W' ∧ B ≤ W'.heap.size := by
  have hs : (W.alloc o).heap.size = W.heap.size + 1 := by simp
  refine ⟨(hu.alloc o).kept gr ?_, ?_, (hL.alloc hB o).grown gr (by omega) hv, by have := gr.size; omega⟩
  · cases hb : u.ownBlock with
    | none => exact .inl rfl
    | some k => exact .inr (fun h => hap k h.symm hb)
  · intro k hk hk2
    have hkg : g = k := by simpa [Value.ownBlock] using hk
    rcases hat with h | h
    · exact hap k (by rw [h, hkg]) hk2
    · have := (hu.lt k hk2).2
      omega
theorem Ap.symm {v u : Value} (h : Ap v u) : Ap u v := fun k h1 h2 => h k h2 h1
theorem owns_base {W : World} {B n : Nat} {v : Value} {xs : List Value} (h : W.ownsRow B 3 1 v n xs) : ∀ k, v.ownBlock = some k → B ≤ k := fun k hk => (h.lt k hk).1

theorem row_owns {W : World} {B n : Nat} {v : Value} {xs : List Int} (h : W.ownsRow B 3 1 v n (xs.map (Value.int .i64))) : RowAt W v xs := by
  have hl : xs.length = n := by have := h.1; simpa using this
  rcases h.2 with ⟨rfl, h0⟩ | ⟨g, cap, cur, rfl, _⟩
  · exact .inl ⟨rfl, List.eq_nil_of_length_eq_zero (by omega)⟩
  · refine .inr ⟨g, 0, cap, by rw [hl], holds_owns h⟩

theorem rfold_walk (s : ByteArray) (w : World) (hs : s.size ≤ 1000000) :
    Calls Tryz.prog 49 #[.string s] w fun e w' => ∃ v4 v5, e = .returned (.tuple #[v4, v5]) ∧ RowAt w' v4 (runesOf s.data.toList) ∧ RowAt w' v5 (placesOf s.data.toList) ∧ Below w.heap.size w w' := by
  obtain ⟨i0, hi, hz0, hz1, hz2⟩ := info_parts Tryz.info3
  go_enter Tryz.func49, Tryz.ntmps49
  go_wp2
  go_loopw [4, 5, 6] (fun v4 v5 v6 wr => ∃ (pos fuel : Nat) (rs ps : List Int), v6 = .int .i64 pos ∧ wr.ownsRow w.heap.size 3 1 v4 rs.length (rs.map (Value.int .i64)) ∧ wr.ownsRow w.heap.size 3 1 v5 rs.length (ps.map (Value.int .i64)) ∧ Ap v4 v5 ∧ Below w.heap.size w wr ∧ w.heap.size ≤ wr.heap.size ∧ pos ≤ s.size ∧ rs.length ≤ pos ∧ rs ++ ((signs fuel (s.data.toList.drop pos)).map fun x => runeZ (x.1 : Int)) = runesOf s.data.toList ∧ ps ++ places pos (signs fuel (s.data.toList.drop pos)) = places 0 (signsOf s.data.toList) ∧ s.size ≤ pos + fuel) (fun _ _ v6 _ => s.size - (intOf v6).toNat)
  case atStart =>
    refine ⟨0, s.size, [], [], rfl, World.ownsRow_nil _ _ _ _, World.ownsRow_nil _ _ _ _, ?_, Below.refl _ _, Nat.le_refl _, by omega, by simp, ?_, ?_, by omega⟩
    · intro k hk; simp [Value.ownBlock] at hk
    · simp only [runesOf, signsOf, ← Lib.size_eq, List.drop_zero, List.nil_append]
    · simp only [signsOf, ← Lib.size_eq, List.drop_zero, List.nil_append]
  case round =>
    obtain ⟨pos, fuel, rs, ps, rfl, h1, h2, hap, hbw, hsz, hpos, hrl, hrs, hps, hfu⟩ := hrel
    by_cases hp : pos < s.size
    · have hd := decode_facts s pos hp
      obtain ⟨f, rfl⟩ : ∃ f, fuel = f + 1 := ⟨fuel - 1, by omega⟩
      rw [signs_at s f pos hp] at hrs hps
      have HN := hid (next_any (s.extract pos s.size) wr (by rw [tail_sz]; omega) (by rw [tail_sz]; omega))
      rw [tail_dec] at HN
      have b1 : (0 : Int) ≤ (Utf8.decode s pos).1 ∧ ((Utf8.decode s pos).1 : Int) ≤ 1114111 := by have := hd.2.2.2; unfold okRune at this; omega
      have HR := hid (rrune_any ((Utf8.decode s pos).1 : Int) (by omega) (by omega) wr)
      have HA := hid h1
      have HB := hid h2
      have HP := hid hap
      have HL := hid hbw
      have HE := hid hrs
      have HQ := hid hps
      have hpi : (pos : Int) < s.size := by omega
      clear h1 h2 hap hbw hrs hps
      go_wp2_with fail
      refine HN.out.mono ?_
      rintro e w1 ⟨rfl, rfl⟩
      go_wp2_with fail
      refine HR.out.mono ?_
      rintro e w1 ⟨rfl, rfl⟩
      go_wp2_with (first | (at_builtin; refine wpList_append_lies _ rfl (.tmp 20) (.tmp 23) 35 rfl w.heap.size 3 i0 (.int .i64 0) 1 8 Tryz.underlying35 hi hz0 hz1 hz2 rfl (by decide) _ rs.length _ rfl (HA.out.alloc _) ⟨w1.heap.size, 0, none⟩ 1 1 [.int .i64 (runeZ (Utf8.decode s pos).1)] rfl rfl (one_cell _ _ _) (one_oneCell _) (by decide) (by unfold maxLen; omega) (by omega) (by simp; omega) _ rfl ?_; intro ga ca W2 ho gr hat hlt; have HF := hid (append_keep (m := rs.length + 1) (cap := ca) gr hat HB.out HP.out HL.out (owns_base HA.out) hsz); have HA4 := hid ho; clear ho gr hat hlt) | (at_builtin; refine wpList_append_lies _ rfl (.tmp 25) (.tmp 27) 35 rfl w.heap.size 3 i0 (.int .i64 0) 1 8 Tryz.underlying35 hi hz0 hz1 hz2 rfl (by decide) _ rs.length _ rfl (HF.out.1.alloc _) ⟨W2.heap.size, 0, none⟩ 1 1 [.int .i64 (pos : Int)] rfl rfl (one_cell _ _ _) (one_oneCell _) (by decide) (by unfold maxLen; omega) (by omega) (by simp; have := HF.out.2.2.2; omega) _ rfl ?_; intro gb cb W3 ho gr hat hlt; have HG := hid (append_keep (m := rs.length + 1) (cap := cb) gr hat HA4.out HF.out.2.1.symm HF.out.2.2.1 (owns_base HF.out.1) HF.out.2.2.2); have HB4 := hid ho; clear ho gr hat hlt))
      go_roundw
      case rel =>
        refine ⟨pos + (Utf8.decode s pos).2, f, rs ++ [runeZ (Utf8.decode s pos).1], ps ++ [(pos : Int)], by simp, by simpa using HG.out.1, by simpa using HB4.out, HG.out.2.1.symm, HG.out.2.2.1, HG.out.2.2.2, hd.2.1, by simp; omega, ?_, ?_, by omega⟩
        · rw [← HE.out]; simp
        · rw [← HQ.out]; simp [places]
      case measure =>
        simp [intOf]
        omega
    · obtain rfl : pos = s.size := by omega
      rw [signs_end s fuel _ hp] at hrs hps
      rw [List.map_nil, List.append_nil] at hrs
      rw [show places s.size [] = [] from rfl, List.append_nil] at hps
      have HA := hid h1
      have HB := hid h2
      have HP := hid hap
      have HL := hid hbw
      have HE := hid hrs
      have HQ := hid hps
      clear h1 h2 hap hbw hrs hps
      go_wp2_with (at_builtin; refine wpList_append_lies _ rfl (.tmp 33) (.tmp 36) 35 rfl w.heap.size 3 i0 (.int .i64 0) 1 8 Tryz.underlying35 hi hz0 hz1 hz2 rfl (by decide) _ rs.length _ rfl (HB.out.alloc _) ⟨wr.heap.size, 0, none⟩ 1 1 [.int .i64 (s.size : Int)] rfl rfl (one_cell _ _ _) (one_oneCell _) (by decide) (by unfold maxLen; omega) (by omega) (by simp; omega) _ rfl ?_; intro gb cb W3 ho gr hat hlt; have HG := hid (append_keep (m := rs.length + 1) (cap := cb) gr hat HA.out HP.out.symm HL.out (owns_base HB.out) hsz); have HB4 := hid ho; clear ho gr hat hlt)
      go_ret2
      refine ⟨_, _, rfl, ?_, ?_, HG.out.2.2.1⟩
      · rw [← HE.out]; exact row_owns HG.out.1
      · have e2 : ps ++ [(s.size : Int)] = placesOf s.data.toList := by rw [HQ.out, Lib.size_eq]; rfl
        rw [← e2]
        have h5 := HB4.out
        rw [show [Value.int .i64 (s.size : Int)] = [(s.size : Int)].map (Value.int .i64) from rfl, ← List.map_append] at h5
        exact row_owns h5

end Go.Proofs.YtncklgdchmhoiaaGreatDoor.Fo
