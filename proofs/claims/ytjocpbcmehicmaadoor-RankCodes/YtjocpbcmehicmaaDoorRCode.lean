/- The reference's digits and Code: the same texts as rank's. -/
import Derived.Test.YtjocpbcmehicmaaDoorCode
namespace Go.Proofs.YtjocpbcmehicmaaDoor
open Go.RowKit

def strLen : Value → Nat | .string b => b.size | _ => 0
def numOf : Value → Nat | .int _ q => q.natAbs | _ => 0
theorem size_mk (L : List UInt8) : (ByteArray.mk L.toArray).size = L.length := by
  show L.toArray.size = L.length
  simp
theorem mk_app (L M : List UInt8) : ByteArray.mk L.toArray ++ ByteArray.mk M.toArray = ByteArray.mk (L ++ M).toArray := by
  apply ByteArray.ext
  simp
theorem conv_one (w : World) (x : Int) (b : UInt8) (h : (b.toNat : Int) = x) :
    (convert 67 9 (.slice (some ⟨w.heap.size, 0, none⟩) 1 1)).run Tryd.prog (w.alloc (.cells #[.int .u8 x] 5)) = .ok (.string ⟨#[b]⟩) (w.alloc (.cells #[.int .u8 x] 5)) := by
  have := run_convert_bytes_back (P := Tryd.prog) (w.alloc (.cells #[.int .u8 x] 5)) 67 9 5 ⟨w.heap.size, 0, none⟩ 1 [b] Tryd.underlying67 Tryd.underlying5 Tryd.underlying9 (fun j hj => by
    obtain rfl : j = 0 := by simpa using hj
    subst h
    simp [Addr.add, World.cell?_alloc_at])
  exact this

/-- The digits under work. -/
def DS (n m : Int) (L : List UInt8) : Prop :=
  (L = [] ∧ m = n) ∨ (L ≠ [] ∧ ((m = 0 ∧ L = Lib.decDigits n.natAbs) ∨ (m ≠ 0 ∧ Lib.decDigits m.natAbs ++ L = Lib.decDigits n.natAbs)))
theorem DS.len {n m : Int} {L : List UInt8} (h : DS n m L) : L.length ≤ (Lib.decDigits n.natAbs).length := by
  rcases h with ⟨rfl, _⟩ | ⟨_, ⟨_, rfl⟩ | ⟨_, h⟩⟩
  · simp
  · exact Nat.le_refl _
  · rw [← h]; simp
theorem DS.step {n m q e : Int} {L : List UInt8} {b : UInt8} (h : DS n m L) (hm : m ≠ 0 ∨ L = []) (hq : q.natAbs = m.natAbs / 10) (he : e = ((m.natAbs % 10 : Nat) : Int)) (hb : b = UInt8.ofNat (48 + m.natAbs % 10)) : DS n q (b :: L) := by
  refine .inr ⟨by simp, ?_⟩
  have hD : m ≠ 0 ∨ L = [] → Lib.decDigits m.natAbs ++ L = Lib.decDigits n.natAbs := by
    intro hm
    rcases h with ⟨rfl, rfl⟩ | ⟨h0, ⟨h1, h2⟩ | ⟨h1, h2⟩⟩
    · simp
    · rcases hm with hm | hm
      · exact absurd h1 hm
      · exact absurd hm h0
    · exact h2
  have := hD hm
  rw [Lib.decDigits] at this
  by_cases h10 : m.natAbs < 10
  · rw [dif_pos h10] at this
    refine .inl ⟨by omega, ?_⟩
    rw [← this, hb, show m.natAbs % 10 = m.natAbs by omega]
    rfl
  · rw [dif_neg h10] at this
    refine .inr ⟨by omega, ?_⟩
    rw [← this, hb, hq]
    simp
theorem DS.done {n : Int} {L : List UInt8} (h : DS n 0 L) (hL : L ≠ []) : L = Lib.decDigits n.natAbs := by
  rcases h with ⟨h, _⟩ | ⟨_, ⟨_, h⟩ | ⟨h, _⟩⟩
  · exact absurd h hL
  · exact h
  · exact absurd rfl h
theorem tdm10 (m : Int) : (m.tdiv 10).natAbs = m.natAbs / 10 ∧ (m.tmod 10).natAbs = m.natAbs % 10 ∧ (m.tmod 10 < 0 → m < 0) ∧ -10 < m.tmod 10 ∧ m.tmod 10 < 10 := by
  have h := Int.tmod_add_mul_tdiv m 10
  have h1 := Int.tmod_lt_of_pos m (show (0 : Int) < 10 by decide)
  have h2 := Int.tmod_lt_of_pos (-m) (show (0 : Int) < 10 by decide)
  rw [Int.neg_tmod] at h2
  have h3 : 0 ≤ m → 0 ≤ m.tmod 10 := fun h => Int.tmod_nonneg _ h
  have h4 : 0 ≤ -m → 0 ≤ (-m).tmod 10 := fun h => Int.tmod_nonneg _ h
  rw [Int.neg_tmod] at h4
  by_cases hm : 0 ≤ m
  · have := h3 hm
    omega
  · have := h4 (by omega)
    omega

set_option maxRecDepth 100000 in
set_option maxHeartbeats 4000000 in
theorem rdigits_any (n : Int) (hn : I64 n) (w : World) :
    Calls Tryd.prog 44 #[.int .i64 n] w fun e w' => e = .returned (.string ⟨(Lib.itoa n).toArray⟩) ∧ Below w.heap.size w w' := by
  obtain ⟨n0, n1⟩ := hn
  have HLN : Hid ((Lib.decDigits n.natAbs).length ≤ 21) := hid (by
    have := Lib.itoa_length_le n n0 n1
    unfold Lib.itoa at this
    split at this
    · simp at this; omega
    · rwa [show n.toNat = n.natAbs by omega] at this)
  go_enter Tryd.func44, Tryd.ntmps44
  go_wp2_with fail
  go_loopw [0, 3] (fun x s wr => ∃ (m : Int) (L : List UInt8), x = .int .i64 m ∧ s = .string ⟨L.toArray⟩ ∧ Hid (DS n m L) ∧ (-9223372036854775808 ≤ m ∧ m ≤ 9223372036854775807) ∧ Below w.heap.size w wr) (fun x s _ => 2 * numOf x + (if strLen s = 0 then 1 else 0))
  case atStart => exact ⟨n, [], rfl, rfl, .inl ⟨rfl, rfl⟩, ⟨n0, n1⟩, Below.refl _ _⟩
  case round =>
    obtain ⟨m, L, rfl, rfl, hD, ⟨m0, m1⟩, hb⟩ := hrel
    have hLl := hD.out.len
    have hll : L.length ≤ 100 := by have := HLN.out; omega
    obtain ⟨t1, t2, t3, t4, t5⟩ := tdm10 m
    obtain ⟨b, hbt⟩ : ∃ b : UInt8, b = UInt8.ofNat (48 + m.natAbs % 10) := ⟨_, rfl⟩
    have hbn : (b.toNat : Int) = 48 + ((m.natAbs % 10 : Nat) : Int) := by
      rw [hbt]
      have : m.natAbs % 10 < 10 := Nat.mod_lt _ (by decide)
      simp
      omega
    have HS := hid fun (q : Int) (hm : m ≠ 0 ∨ L = []) (hq : q.natAbs = m.natAbs / 10) => hD.out.step (b := b) hm hq rfl hbt
    have HBN := hid hbn
    clear hLl hbt hbn
    by_cases hm : m = 0
    case pos =>
      subst hm
      by_cases hL : L = []
      case pos =>
        subst hL
        have hcv := conv_one wr 48 b (by rw [HBN.out]; rfl)
        clear t1 t2 t3 t4 t5
        go_wp2
        go_round
        case rel => exact ⟨0, [b], rfl, by rw [show #[b] = [b].toArray from rfl, show (#[] : Array UInt8) = ([] : List UInt8).toArray from rfl, mk_app]; rfl, hid (HS.out 0 (.inr rfl) rfl), ⟨by decide, by decide⟩, up_trans hb (up_alloc _ _)⟩
        case measure => simp only [strLen, ByteArray.size_append]; exact (by decide : 0 + 0 < 0 + 1)
      case neg =>
        have HF := hid (hD.out.done hL)
        have hne : L.isEmpty = false := by
          cases L with
          | nil => exact absurd rfl hL
          | cons _ _ => rfl
        clear t1 t2 t3 t4 t5
        by_cases hlow : n < 0
        · go_wp2
          go_ret
          have hF := HF.out
          subst hF
          refine ⟨?_, hb⟩
          show Ending.returned (.string (ByteArray.mk #[45] ++ ByteArray.mk (Lib.decDigits n.natAbs).toArray)) = _
          rw [show #[(45 : UInt8)] = [(45 : UInt8)].toArray from rfl, mk_app]
          unfold Lib.itoa
          rw [if_pos hlow]
          rfl
        · go_wp2
          go_ret
          have hF := HF.out
          subst hF
          refine ⟨?_, hb⟩
          unfold Lib.itoa
          rw [if_neg (by omega), show n.toNat = n.natAbs by omega]
          rfl
    case neg =>
      have hmz : (m != 0) = true := by simpa using hm
      have HQ := hid t1
      have q0 : -9223372036854775808 ≤ m.tdiv 10 ∧ m.tdiv 10 ≤ 9223372036854775807 := by omega
      by_cases hd : m.tmod 10 < 0
      case pos =>
        obtain ⟨e, he⟩ : ∃ e : Int, -(m.tmod 10) = e := ⟨_, rfl⟩
        have he0 : 0 ≤ e := by omega
        have he9 : e ≤ 9 := by omega
        have hcv := conv_one wr (48 + e) b (by rw [HBN.out]; omega)
        clear t1 t2 t3
        go_wp2
        go_round
        case rel => exact ⟨m.tdiv 10, b :: L, rfl, by rw [show #[b] = [b].toArray from rfl, mk_app]; rfl, hid (HS.out _ (.inl hm) HQ.out), q0, up_trans hb (up_alloc _ _)⟩
        case measure => simp only [strLen, numOf, ByteArray.size_append, size_mk, show (ByteArray.mk #[b]).size = 1 from rfl]; have := HQ.out; split <;> split <;> omega
      case neg =>
        have hcv := conv_one wr (48 + m.tmod 10) b (by rw [HBN.out]; omega)
        clear t1 t2 t3
        go_wp2
        go_round
        case rel => exact ⟨m.tdiv 10, b :: L, rfl, by rw [show #[b] = [b].toArray from rfl, mk_app]; rfl, hid (HS.out _ (.inl hm) HQ.out), q0, up_trans hb (up_alloc _ _)⟩
        case measure => simp only [strLen, numOf, ByteArray.size_append, size_mk, show (ByteArray.mk #[b]).size = 1 from rfl]; have := HQ.out; split <;> split <;> omega

set_option maxRecDepth 8000 in
set_option maxHeartbeats 4000000 in
theorem rcode_any (x : Val) (v : Value) (w : World) (hv : VA w v x) (hx : VI x) (hl : x.f.length ≤ 1000) :
    Calls Tryd.prog 23 #[v] w fun e w' => e = .returned (.string ⟨(codeL x).toArray⟩) ∧ Below w.heap.size w w' := by
  obtain ⟨k, f⟩ := x
  obtain ⟨fv, rfl, hf⟩ := hv
  have HF := hid hf
  dsimp only at *
  obtain ⟨ad, cap, rfl, a1, a2, a3⟩ := hf.shape
  have HX := hid hx
  obtain ⟨w1, hw1⟩ : ∃ w1, w1 = w.alloc (.cells #[.int .i64 k, .slice ad f.length cap] 24) := ⟨_, rfl⟩
  have HB1 := hid (show Below w.heap.size w w1 by rw [hw1]; exact up_alloc _ _)
  have X0 := hid (show w1.heap[w.heap.size]? = some (.cells #[.int .i64 k, .slice ad f.length cap] 24 (0, 0)) by rw [hw1]; exact new_row _ _)
  have hs1 : w1.heap.size = w.heap.size + 1 := by rw [hw1]; simp
  have HS1 := hid hs1
  have H1 := hid (rdigits_any k hx.1 w1)
  obtain ⟨n, hn⟩ : ∃ n, n = f.length := ⟨_, rfl⟩
  have HN := hid hn
  rw [← hn] at a1 a3 hl X0 hw1 ⊢
  clear hf hx hn hs1
  go_enter Tryd.func23, Tryd.ntmps23
  go_wp2_with fail
  rw [← hw1]
  clear hw1
  refine H1.out.mono ?_
  rintro e w2 ⟨rfl, hb⟩
  have HB2 := hid hb
  clear hb H1
  go_wp2
  go_loopw [3, 4] (fun v3 v4 wr => ∃ (j : Nat) (L : List UInt8), j ≤ n ∧ v4 = .int .i64 j ∧ v3 = .string ⟨L.toArray⟩ ∧ Hid (L = Lib.itoa k ++ codeF (f.take j)) ∧ Hid (Below w1.heap.size w1 wr)) (fun _ v4 _ => n - (intOf v4).toNat)
  case atStart => exact ⟨0, Lib.itoa k, by omega, rfl, rfl, hid (by simp [codeF]), HB2⟩
  case round =>
    obtain ⟨j, L, hj, rfl, rfl, HL, HB⟩ := hrel
    have hsz := HS1.out
    have hX0 := (HB.out.block w.heap.size (by omega)).trans X0.out
    have c1 := cell_of_row (o := 1) hX0
    simp only [List.getElem?_toArray, List.getElem?_cons_zero, List.getElem?_cons_succ] at c1
    clear hX0 hsz
    by_cases hlt : j < n
    case pos =>
      have hlt4 : (j : Int) < (n : Int) := by omega
      obtain ⟨b, o, c, e1, _, _, hbl, hcs⟩ := HF.out.has (by rw [← HN.out]; omega)
      injection e1 with e1a _ e1c
      subst e1a e1c
      have q0 := ((HB1.out.trans (HB.out.mono HB1.out.size)).cell hbl).trans (hcs j (by rw [← HN.out]; exact hlt))
      clear hcs
      have HY := hid (HX.out.2 (f.getD j 0) (getD_mem 0 f j (by rw [← HN.out]; exact hlt)))
      have HTK := hid (show codeF (f.take (j + 1)) = codeF (f.take j) ++ 44 :: Lib.itoa (f.getD j 0) by
        rw [List.take_add_one, List.getElem?_eq_getElem (by rw [← HN.out]; exact hlt), Option.toList_some, codeF_snoc, List.getD_eq_getElem?_getD, List.getElem?_eq_getElem (by rw [← HN.out]; exact hlt)]
        rfl)
      have hLE : L.length ≤ 1000000 := by
        rw [HL.out]
        have h1 := codeF_len (f.take j) fun y hy => HX.out.2 y (List.mem_of_mem_take hy)
        have h2 := Lib.itoa_length_le k HX.out.1.1 HX.out.1.2
        rw [List.length_append]
        have : (f.take j).length ≤ j := by rw [List.length_take]; omega
        omega
      have hYL := Lib.itoa_length_le (f.getD j 0) HY.out.1 HY.out.2
      generalize f.getD j 0 = y at *
      have HC := hid (rdigits_any y HY.out)
      obtain ⟨Y, hY⟩ : ∃ Y, Y = Lib.itoa y := ⟨_, rfl⟩
      rw [← hY] at HC HTK hYL
      clear hY
      go_wp2_with fail
      refine (HC.out _).mono ?_
      rintro e w4 ⟨rfl, hb4⟩
      have HB4 := hid (HB.out.trans (hb4.mono HB.out.size))
      clear hb4 c1 q0
      go_wp2
      go_round
      case rel => exact ⟨j + 1, L ++ 44 :: Y, by omega, by simp, by rw [show #[(44 : UInt8)] = [(44 : UInt8)].toArray from rfl, mk_app, mk_app]; simp, hid (by rw [HTK.out, HL.out]; simp), HB4⟩
      case measure => simp [intOf]; omega
    case neg =>
      obtain rfl : j = n := by omega
      have hF : L = codeL ⟨k, f⟩ := by rw [HL.out]; unfold codeL; rw [List.take_of_length_le (by rw [← HN.out]; omega)]
      subst hF
      go_wp2
      go_ret
      exact ⟨rfl, HB1.out.trans (HB.out.mono HB1.out.size)⟩
end Go.Proofs.YtjocpbcmehicmaaDoor
