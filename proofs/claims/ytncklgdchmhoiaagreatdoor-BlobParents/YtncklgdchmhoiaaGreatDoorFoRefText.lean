/- What the reference's Text answers for every string of at most ten thousand bytes: the same bytes. -/
import Derived.Test.YtncklgdchmhoiaaGreatDoorFoRefFold
namespace Go.Proofs.YtncklgdchmhoiaaGreatDoor.Fo
open Go.RowKit

theorem mk_app (a b : List UInt8) : (⟨a.toArray⟩ : ByteArray) ++ ⟨b.toArray⟩ = ⟨(a ++ b).toArray⟩ := by
  rw [ByteArray.mk_append_mk]


theorem rtext_walk (s : ByteArray) (w : World) (hs : s.size ≤ 10000) :
    Calls Tryz.prog 29 #[.string s] w fun e w' => e = .returned (.string ⟨(textOf s.data.toList).toArray⟩) ∧ Below w.heap.size w w' := by
  have HF := hid (rfold_walk s w (by omega))
  have hl := runesOf_length s.data.toList
  have hok := runesOf_ok s.data.toList
  rw [← Lib.size_eq] at hl
  have HT : Hid (textOf s.data.toList = (runesOf s.data.toList).flatMap Lib.encodeRune) := hid rfl
  generalize textOf s.data.toList = T at *
  generalize runesOf s.data.toList = rs at *
  generalize placesOf s.data.toList = ps at *
  have HO := hid hok
  clear hok
  go_enter Tryz.func29, Tryz.ntmps29
  go_wp2_with fail
  refine HF.out.mono ?_
  rintro e w1 ⟨v4, v5, rfl, R4, _, bel⟩
  have HL := hid bel
  clear bel
  rcases R4 with ⟨rfl, rfl⟩ | ⟨g, o, c, rfl, hH⟩
  · go_wp2
    refine wp_loop_rounds 1 ?_
    rw [rounds_succ]
    go_wp2
    go_ret
    have h := HT.out
    rw [List.flatMap_nil] at h
    subst h
    exact ⟨rfl, HL.out⟩
  · have HH := hid hH
    clear hH
    obtain ⟨n, hn⟩ : ∃ n, n = rs.length := ⟨_, rfl⟩
    rw [← hn] at hl ⊢
    have HN := hid hn
    clear hn
    go_wp2
    go_loopw [5, 6] (fun v5 v6 wr => ∃ (j : Nat) (acc : List UInt8), j ≤ n ∧ v6 = .int .i64 j ∧ v5 = .string ⟨acc.toArray⟩ ∧ acc.length ≤ 4 * j ∧ Hid (acc = (rs.take j).flatMap Lib.encodeRune) ∧ Below w1.heap.size w1 wr) (fun _ v6 _ => n - (intOf v6).toNat)
    case atStart => exact ⟨0, [], by omega, rfl, rfl, by simp, hid (by simp), Below.refl _ _⟩
    case round =>
      obtain ⟨j, acc, hj, rfl, rfl, hal, hacc, hb⟩ := hrel
      by_cases hlt : j < n
      · have hjl : j < rs.length := by have := HN.out; omega
        have cx := (HH.out.on hb) j hjl
        have hm : rs.getD j 0 ∈ rs := by simp [List.getD, hjl]
        have hok := HO.out _ hm
        have HX : Hid ((rs.take (j + 1)).flatMap Lib.encodeRune = (rs.take j).flatMap Lib.encodeRune ++ Lib.encodeRune (rs.getD j 0)) := hid (by
          rw [List.take_add_one, List.flatMap_append]
          simp [List.getD, hjl])
        generalize rs.getD j 0 = x at *
        have xb : 0 ≤ x ∧ x ≤ 1114111 := by unfold okRune at hok; omega
        have HE := hid (fun w => one_any x w xb.1 xb.2 hok)
        have hel := encodeRune_length x
        have hsz : (⟨acc.toArray⟩ : ByteArray).size ≤ 40000 := by simp [ByteArray.size]; omega
        have hsz2 : (⟨(Lib.encodeRune x).toArray⟩ : ByteArray).size ≤ 4 := by simp [ByteArray.size]; omega
        have hap := mk_app acc (Lib.encodeRune x)
        have HB := hid hb
        clear hb hm hok hjl
        generalize Lib.encodeRune x = E at *
        go_wp2_with fail
        refine (HE.out _).mono ?_
        rintro e u1 ⟨rfl, d1⟩
        have HB2 := hid (up_trans HB.out d1)
        clear d1
        go_wp2
        go_roundw
        case rel => exact ⟨j + 1, acc ++ E, by omega, by simp, rfl, by simp; omega, hid (by rw [HX.out, hacc.out]), HB2.out⟩
        case measure => simp [intOf]; omega
      · obtain rfl : j = n := by omega
        have HB := hid hb
        clear hb
        go_wp2
        go_ret
        have h1 := hacc.out
        rw [List.take_of_length_le (by have := HN.out; omega), ← HT.out] at h1
        subst h1
        exact ⟨rfl, up_trans HL.out HB.out⟩

end Go.Proofs.YtncklgdchmhoiaaGreatDoor.Fo
