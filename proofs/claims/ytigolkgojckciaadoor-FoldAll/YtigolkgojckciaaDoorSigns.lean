/- The statements' Signs answers some string, of at most 2560 bytes, of any numbers and any row of at most sixty bytes. -/
import Derived.Test.YtigolkgojckciaaDoorArgs
import Derived.OpenShut
namespace Go.Proofs.YtigolkgojckciaaDoor
open Go.RowKit

def signL : List (List UInt8) := [[97], [90], [55], [32], [194, 160], [227, 128, 128], [45], [226, 128, 147], [226, 136, 146], [39], [226, 128, 153], [217, 163], [219, 181], [224, 165, 170], [239, 188, 145], [239, 188, 161], [239, 189, 158], [195, 132], [195, 151], [208, 150], [208, 129], [206, 169], [206, 162], [239, 191, 189], [240, 159, 152, 128], [47], [46], [9], [128], [255], [226, 130], [195]]
theorem signL_at (k : Nat) (h : k < 32) : (signL.getD k []).length ≤ 4 := by
  have : ∀ k : Fin 32, (signL.getD k.1 []).length ≤ 4 := by decide
  exact this ⟨k, h⟩
theorem str_cell {w : World} {g : Nat} {t : TypeId} {fr : Nat × Nat} {cs : Array Value} (xs : List (List UInt8)) (hcs : cs = (xs.map fun b => Value.string ⟨b.toArray⟩).toArray) (hg : w.heap[g]? = some (.cells cs t fr)) (k : Nat) (hk : k < xs.length) : w.cell? ⟨g, k, none⟩ = some (.string ⟨(xs.getD k []).toArray⟩) := by
  rw [cell_of_row w g _ cs t fr hg, hcs]
  simp [List.getD, hk]

theorem conv_take (a : Addr) (cap : Nat) (raw : List Int) (q : Nat) (w : World) (hq : q ≤ raw.length) (hc : ∀ j, j < q → w.cell? (a.add j) = some (.int .u8 (raw.getD j 0))) (hw : ∀ x ∈ raw, (Lit.int .u8 x).wf = true) :
    (convert 23 9 (.slice (some a) q cap)).run Tryd.prog w = .ok (.string ⟨((raw.take q).map fun z => z.toNat.toUInt8).toArray⟩) w := by
  have hl : ((raw.take q).map fun z => z.toNat.toUInt8).length = q := by simp; omega
  have := run_convert_bytes_back (P := Tryd.prog) w 23 9 5 a cap ((raw.take q).map fun z => z.toNat.toUInt8) Tryd.underlying23 Tryd.underlying5 Tryd.underlying9 (fun j hj => by
    rw [hl] at hj
    rw [hc j hj]
    have hjl : j < raw.length := by omega
    have hb := bounds_u8 (hw (raw.getD j 0) (by simp [List.getD, hjl]))
    have e : raw[j]?.getD 0 = raw[j] := by simp [hjl]
    simp only [List.getD] at hb ⊢
    simp only [List.getElem_map, List.getElem_take]
    rw [e] at hb ⊢
    have : (((raw[j]).toNat.toUInt8).toNat : Int) = raw[j] := by simp; omega
    rw [this])
  rw [hl] at this
  exact this

set_option maxHeartbeats 4000000 in
theorem signs_any (v0 v1 : Value) (ns raw : List Int) (w : World) (h0 : Arg w .i64 v0 ns) (h1 : Arg w .u8 v1 raw) (hr : raw.length ≤ 60) :
    Calls Tryd.prog 10 #[v0, v1] w fun e w' => ∃ s : ByteArray, e = .returned (.string s) ∧ s.size ≤ 2560 ∧ Below w.heap.size w w' := by
  obtain ⟨ad0, cap0, rfl, hl0, hm0, hn0, hc0, hw0⟩ := h0
  obtain ⟨ad1, cap1, rfl, hl1, hm1, hn1, hc1, hw1⟩ := h1
  have HC0 := hid hc0
  have HC1 := hid hc1
  have HW0 := hid hw0
  have HW1 := hid hw1
  have HN0 := hid hn0
  have HN1 := hid hn1
  clear hc0 hc1 hw0 hw1 hn0 hn1
  obtain ⟨n, hn⟩ : ∃ n, n = ns.length := ⟨_, rfl⟩
  obtain ⟨m, hm⟩ : ∃ m, m = raw.length := ⟨_, rfl⟩
  rw [← hn] at hl0 ⊢
  rw [← hm] at hl1 hr ⊢
  have HN := hid hn
  have HM := hid hm
  clear hn hm
  unfold maxLen at hm0 hm1
  go_enter Tryd.func10, Tryd.ntmps10
  go_wp2
  obtain ⟨W, hW⟩ : ∃ W, W = w.alloc (.cells #[.string ⟨#[97]⟩, .string ⟨#[90]⟩, .string ⟨#[55]⟩, .string ⟨#[32]⟩, .string ⟨#[194, 160]⟩, .string ⟨#[227, 128, 128]⟩, .string ⟨#[45]⟩, .string ⟨#[226, 128, 147]⟩, .string ⟨#[226, 136, 146]⟩, .string ⟨#[39]⟩, .string ⟨#[226, 128, 153]⟩, .string ⟨#[217, 163]⟩, .string ⟨#[219, 181]⟩, .string ⟨#[224, 165, 170]⟩, .string ⟨#[239, 188, 145]⟩, .string ⟨#[239, 188, 161]⟩, .string ⟨#[239, 189, 158]⟩, .string ⟨#[195, 132]⟩, .string ⟨#[195, 151]⟩, .string ⟨#[208, 150]⟩, .string ⟨#[208, 129]⟩, .string ⟨#[206, 169]⟩, .string ⟨#[206, 162]⟩, .string ⟨#[239, 191, 189]⟩, .string ⟨#[240, 159, 152, 128]⟩, .string ⟨#[47]⟩, .string ⟨#[46]⟩, .string ⟨#[9]⟩, .string ⟨#[128]⟩, .string ⟨#[255]⟩, .string ⟨#[226, 130]⟩, .string ⟨#[195]⟩] 9) := ⟨_, rfl⟩
  rw [← hW]
  have b1 : Below w.heap.size w W := by rw [hW]; exact up_alloc _ _
  have hG : W.heap[w.heap.size]? = some (.cells (signL.map fun b => Value.string ⟨b.toArray⟩).toArray 9 (0, 0)) := by rw [hW]; exact row_new _ _
  have HL := hid b1
  have HG := hid hG
  clear hW b1 hG
  go_loopw [6, 7] (fun v6 v7 wr => ∃ (j : Nat) (str : ByteArray), j ≤ 40 ∧ j ≤ n ∧ v7 = .int .i64 j ∧ v6 = .string str ∧ str.size ≤ 64 * j ∧ Below W.heap.size W wr) (fun _ v7 _ => 40 - (intOf v7).toNat)
  case atStart => exact ⟨0, ⟨#[]⟩, by omega, by omega, rfl, rfl, by decide, Below.refl _ _⟩
  case round =>
    obtain ⟨j, str, hj, hjn, rfl, rfl, hst, hb⟩ := hrel
    have HB := hid hb
    clear hb
    by_cases c1 : j < n
    · by_cases c2 : j < 40
      · obtain ⟨a0, rfl⟩ : ∃ a0, ad0 = some a0 := by
          cases ad0 with
          | none => have := (HN0.out rfl).1; have h2 := HN.out; rw [this] at h2; simp at h2; omega
          | some a0 => exact ⟨a0, rfl⟩
        have hup := up_trans HL.out HB.out
        have hjl : j < ns.length := by have := HN.out; omega
        obtain ⟨x, hx⟩ : ∃ x, x = ns.getD j 0 := ⟨_, rfl⟩
        have cx : wr.cell? (a0.add j) = some (.int .i64 x) := by
          have h3 := HC0.out a0 rfl j hjl
          rw [hx, (hup.cell (lt_of_cell h3)).trans h3]
        have xb := bounds_i64 (HW0.out x (by rw [hx]; simp [List.getD, hjl]))
        clear hx
        obtain ⟨k, hk⟩ : ∃ k : Nat, x % 32 = (k : Int) := ⟨(x % 32).toNat, by omega⟩
        have hk32 : k < 32 := by omega
        have ck : wr.cell? ⟨w.heap.size, k, none⟩ = some (.string ⟨(signL.getD k []).toArray⟩) := str_cell signL rfl (iter_on HG.out HB.out) k (by simpa [signL] using hk32)
        have hkl : (⟨(signL.getD k []).toArray⟩ : ByteArray).size ≤ 4 := signL_at k hk32
        generalize (⟨(signL.getD k []).toArray⟩ : ByteArray) = t at *
        have HA := hid (fun w => lwithin_any x 32 w (by decide) (by decide))
        rw [hk] at HA
        clear hk hup hjl
        have hk3 : (k : Int) < 32 := by omega
        have HQ := hid (fun w => lwithin_any (x.tdiv 40) 7 w (by decide) (by decide))
        have qb : 0 ≤ (x.tdiv 40) % 7 := by omega
        have hj40 : decide ((j : Int) < 40) = true := by simp; omega
        have hsz : (str ++ t).size ≤ 64 * j + 4 := by rw [ByteArray.size_append]; omega
        by_cases d1 : (x.tdiv 40) % 7 = 0
        · rw [d1] at HQ
          clear d1 qb
          by_cases d2 : 0 < m
          · obtain ⟨a1, rfl⟩ : ∃ a1, ad1 = some a1 := by
              cases ad1 with
              | none => have := (HN1.out rfl).1; have h2 := HM.out; rw [this] at h2; simp at h2; omega
              | some a1 => exact ⟨a1, rfl⟩
            obtain ⟨q, hq⟩ : ∃ q : Nat, x % ((m : Int) + 1) = (q : Int) := ⟨(x % ((m : Int) + 1)).toNat, by have := Int.emod_nonneg x (show (m : Int) + 1 ≠ 0 by omega); omega⟩
            have hq1 : q ≤ m := by have := Int.emod_lt_of_pos x (show 0 < (m : Int) + 1 by omega); omega
            have HZ := hid (fun w => lwithin_any x ((m : Int) + 1) w (by omega) (by omega))
            rw [hq] at HZ
            clear hq
            have hup := up_trans HL.out HB.out
            have hcv := conv_take a1 cap1 raw q wr (by have := HM.out; omega) (fun j' hj' => by
              have h3 := HC1.out a1 rfl j' (by have := HM.out; omega)
              exact (hup.cell (lt_of_cell h3)).trans h3) HW1.out
            have hbl : (⟨((raw.take q).map fun z => z.toNat.toUInt8).toArray⟩ : ByteArray).size ≤ 60 := by
              simp [ByteArray.size]; omega
            generalize (⟨((raw.take q).map fun z => z.toNat.toUInt8).toArray⟩ : ByteArray) = bs at *
            clear hup
            have hq2 : (q : Int) ≤ (m : Int) := by omega
            have hd2 : decide ((0 : Int) < (m : Int)) = true := by simp; omega
            go_wp2_with fail
            refine (HA.out _).mono ?_
            rintro e w1 ⟨rfl, rfl⟩
            go_wp2_with fail
            refine (HQ.out _).mono ?_
            rintro e w1 ⟨rfl, rfl⟩
            go_wp2_with fail
            refine (HZ.out _).mono ?_
            rintro e w1 ⟨rfl, rfl⟩
            go_wp2
            go_roundw
            case rel => exact ⟨j + 1, _, by omega, by omega, by simp, rfl, by rw [ByteArray.size_append, ByteArray.size_append]; omega, HB.out⟩
            case measure => simp [intOf]; omega
          · obtain rfl : m = 0 := by omega
            go_wp2_with fail
            refine (HA.out _).mono ?_
            rintro e w1 ⟨rfl, rfl⟩
            go_wp2_with fail
            refine (HQ.out _).mono ?_
            rintro e w1 ⟨rfl, rfl⟩
            go_wp2
            go_roundw
            case rel => exact ⟨j + 1, _, by omega, by omega, by simp, rfl, by rw [ByteArray.size_append]; omega, HB.out⟩
            case measure => simp [intOf]; omega
        · have d3 : ((x.tdiv 40) % 7 == 0) = false := by simpa using d1
          generalize (x.tdiv 40) % 7 = z at *
          go_wp2_with fail
          refine (HA.out _).mono ?_
          rintro e w1 ⟨rfl, rfl⟩
          go_wp2_with fail
          refine (HQ.out _).mono ?_
          rintro e w1 ⟨rfl, rfl⟩
          go_wp2
          go_roundw
          case rel => exact ⟨j + 1, _, by omega, by omega, by simp, rfl, by rw [ByteArray.size_append]; omega, HB.out⟩
          case measure => simp [intOf]; omega
      · obtain rfl : j = 40 := by omega
        have hd : decide ((40 : Int) < 40) = false := by decide
        go_wp2
        go_ret
        exact ⟨str, rfl, by omega, up_trans HL.out HB.out⟩
    · obtain rfl : j = n := by omega
      go_wp2
      go_ret
      exact ⟨str, rfl, by omega, up_trans HL.out HB.out⟩

end Go.Proofs.YtigolkgojckciaaDoor
