/- rank.Code: a value's text. -/
import Derived.Test.YtjocpbcmehicmaaDoorCmp
import Derived.Test.YtjocpbcmehicmaaDoorAppI
import Derived.Lib.ItoaLen
import Derived.Lib.Hide
import Derived.Laws.IdiomStrings
import Derived.Laws.OwnMore
import Derived.OwnWalk
namespace Go.Proofs.YtjocpbcmehicmaaDoor
open Go.RowKit

/-- The table of powers. -/
def Tab (w : World) : Prop := Lib.TabIs Tryd.prog w "internal/strconv.uint64pow10" .u64 Lib.pow10Tab
theorem Tab.on {w w' : World} (h : Tab w) (hb : Below w.heap.size w w') : Tab w' := Lib.tabBelow_of_tabIs h w' hb
def I64 (n : Int) : Prop := -9223372036854775808 ≤ n ∧ n ≤ 9223372036854775807
def VI (x : Val) : Prop := I64 x.kind ∧ ∀ y ∈ x.f, I64 y
/-- A value's text, of its first numbers. -/
def codeF : List Int → List UInt8
  | [] => []
  | y :: l => 44 :: (Lib.itoa y ++ codeF l)
def codeL (x : Val) : List UInt8 := Lib.itoa x.kind ++ codeF x.f
theorem codeF_snoc (y : Int) : ∀ l, codeF (l ++ [y]) = codeF l ++ 44 :: Lib.itoa y
  | [] => by simp [codeF]
  | z :: l => by simp [codeF, codeF_snoc y l]
theorem codeF_len : ∀ l : List Int, (∀ y ∈ l, I64 y) → (codeF l).length ≤ 22 * l.length
  | [], _ => by simp [codeF]
  | y :: l, h => by
    have h1 := h y (by simp)
    have a := Lib.itoa_length_le y h1.1 h1.2
    have b := codeF_len l fun z hz => h z (by simp [hz])
    simp [codeF]
    omega
theorem dec_pos (u : Nat) : 0 < (Lib.decDigits u).length := by
  rw [Lib.decDigits]
  split <;> simp
theorem itoa_pos (n : Int) : 0 < (Lib.itoa n).length := by
  unfold Lib.itoa
  split
  · simp
  · exact dec_pos _
theorem info_byte : (Tryd.prog.info? 5).map (fun i => (i.zero, i.size, i.bytes)) = some (some (.int .u8 0), 1, 1) := by kernel_rfl
theorem info_parts2 {o : Option TypeInfo} {z : Value} {a b : Nat} (h : o.map (fun i => (i.zero, i.size, i.bytes)) = some (some z, a, b)) : ∃ i, o = some i ∧ i.zero = some z ∧ i.size = a ∧ i.bytes = b := by
  cases o with
  | none => cases h
  | some i => simp at h; exact ⟨i, rfl, h.1, h.2.1, h.2.2⟩
/-- A row of bytes of one's own. -/
def OB (B : Nat) (w : World) (v : Value) (l : List UInt8) : Prop := w.ownsRow B 5 1 v l.length (Lib.byteCells l)
theorem appendI_any (B : Nat) (i : Int) (hi : I64 i) (v : Value) (l : List UInt8) (w : World) (h : OB B w v l) (hB : B ≤ w.heap.size) (hl : l.length ≤ 1000000000) (hT : Lib.TabBelow Tryd.prog B w "internal/strconv.uint64pow10" .u64 Lib.pow10Tab) :
    Calls Tryd.prog 43 #[v, .int .i64 i, .int .i64 10] w fun e w' => ∃ v', e = .returned v' ∧ OB B w' v' (l ++ Lib.itoa i) ∧ Below B w w' := by
  refine (Any.strconv_AppendInt_10 appI B l.length i hi.1 hi.2 v (Lib.byteCells l) w h hB (by omega) hT).mono ?_
  rintro e w' ⟨v', rfl, h1, h2, _⟩
  refine ⟨v', rfl, ?_, h2⟩
  unfold OB
  rw [List.length_append, show Lib.byteCells (l ++ Lib.itoa i) = Lib.byteCells l ++ Lib.byteCells (Lib.itoa i) by simp [Lib.byteCells]]
  exact h1

set_option maxRecDepth 8000 in
set_option maxHeartbeats 4000000 in
theorem code_any (x : Val) (v : Value) (w : World) (hv : VA w v x) (hx : VI x) (hT : Tab w) :
    Calls Tryd.prog 22 #[v] w fun e w' => e = .returned (.string ⟨(codeL x).toArray⟩) ∧ Below w.heap.size w w' := by
  obtain ⟨k, f⟩ := x
  obtain ⟨fv, rfl, hf⟩ := hv
  have HF := hid hf
  dsimp only at *
  obtain ⟨ad, cap, rfl, a1, a2, a3⟩ := hf.shape
  have HT := hid (Lib.tabBelow_of_tabIs hT)
  have HX := hid hx
  have hk : I64 k := hx.1
  obtain ⟨w1, hw1⟩ : ∃ w1, w1 = w.alloc (.cells #[.int .i64 k, .slice ad f.length cap] 24) := ⟨_, rfl⟩
  have HB1 := hid (show Below w.heap.size w w1 by rw [hw1]; exact up_alloc _ _)
  have X0 := hid (show w1.heap[w.heap.size]? = some (.cells #[.int .i64 k, .slice ad f.length cap] 24 (0, 0)) by rw [hw1]; exact new_row _ _)
  have hs1 : w1.heap.size = w.heap.size + 1 := by rw [hw1]; simp
  have H1 := hid (appendI_any w1.heap.size k hk (.slice none 0 0) [] w1 (World.ownsRow_nil _ _ _ _) (Nat.le_refl _) (by simp) (Lib.tabBelow_of_tabIs (hT.on HB1.out)))
  obtain ⟨n, hn⟩ : ∃ n, n = f.length := ⟨_, rfl⟩
  have HN := hid hn
  rw [← hn] at a1 a3 X0 hw1 ⊢
  clear hf hx hT hn hk
  go_enter Tryd.func22, Tryd.ntmps22
  go_wp2_with fail
  rw [← hw1]
  refine H1.out.mono ?_
  rintro e w2 ⟨v2, rfl, ho, hb⟩
  have HO := hid ho
  have HB2 := hid hb
  rw [List.nil_append] at HO
  have X2 := (hb.block w.heap.size (by omega)).trans X0.out
  have c1 := cell_of_row (o := 1) X2
  simp only [List.getElem?_toArray, List.getElem?_cons_zero, List.getElem?_cons_succ] at c1
  have HS1 := hid hs1
  clear ho hb H1 hw1 X2 hs1
  go_wp2
  go_loopw [3, 12] (fun v3 v12 wr => ∃ j : Nat, j ≤ n ∧ v12 = .int .i64 j ∧ Hid (OB w1.heap.size wr v3 (Lib.itoa k ++ codeF (f.take j))) ∧ Hid (Below w1.heap.size w1 wr)) (fun _ v12 _ => n - (intOf v12).toNat)
  case atStart => exact ⟨0, by omega, rfl, hid (by simpa [codeF] using HO.out), HB2⟩
  case round =>
    obtain ⟨j, hj, rfl, HR, HB⟩ := hrel
    by_cases hlt : j < n
    case pos =>
      have hlt4 : (j : Int) < (n : Int) := by omega
      obtain ⟨b, o, c, e1, _, _, hbl, hcs⟩ := HF.out.has (by rw [← HN.out]; omega)
      injection e1 with e1a _ e1c
      subst e1a e1c
      have q0 := ((HB1.out.trans (HB.out.mono HB1.out.size)).cell hbl).trans (hcs j (by rw [← HN.out]; exact hlt))
      clear hcs
      have HY := hid (HX.out.2 (f.getD j 0) (getD_mem 0 f j (by rw [← HN.out]; exact hlt)))
      have HTK := hid (show codeF (f.take (j + 1)) = codeF (f.take j) ++ 44 :: Lib.itoa (f.getD j 0) by
        rw [List.take_add_one, List.getElem?_eq_getElem (by rw [← HN.out]; exact hlt), Option.toList_some, codeF_snoc, List.getD_eq_getElem?_getD, List.getElem?_eq_getElem (by rw [← HN.out]; exact hlt)]
        rfl)
      have HLE : Hid ((Lib.itoa k ++ codeF (f.take j)).length ≤ 100000000) := hid (by
        have h1 := codeF_len (f.take j) fun y hy => HX.out.2 y (List.mem_of_mem_take hy)
        have h2 := Lib.itoa_length_le k HX.out.1.1 HX.out.1.2
        rw [List.length_append]
        have : (f.take j).length ≤ j := by rw [List.length_take]; omega
        omega)
      generalize f.getD j 0 = y at *
      obtain ⟨i0, hi, hz0, hz1, hz2⟩ := info_parts2 info_byte
      have hsz := HB.out.size
      obtain ⟨l, hl⟩ : ∃ l, l = Lib.itoa k ++ codeF (f.take j) := ⟨_, rfl⟩
      rw [← hl] at HR HLE
      have HLQ := hid hl
      clear hl
      go_wp2_with (at_builtin; refine wpList_append_own _ rfl _ _ 67 rfl w1.heap.size 5 i0 (.int .u8 0) 1 1 Tryd.underlying67 hi hz0 hz1 hz2 rfl (by decide) _ _ _ rfl (HR.out.alloc _) ⟨wr.heap.size, 0, none⟩ 1 1 [Value.int .u8 44] rfl rfl (by intro j u' hj; match j, hj with | 0, hj => simp at hj; subst hj; simp [Addr.add]) (by intro u' hu'; simp at hu'; subst hu'; rfl) (by have := HLE.out; unfold maxLen; omega) (by have := HLE.out; omega) (by simp; omega) ?_)
      intro v3 w3 hown hgrow _
      have HO3 : Hid (OB w1.heap.size w3 v3 (l ++ [44])) := hid (by
        unfold OB
        rw [List.length_append, show Lib.byteCells (l ++ [44]) = Lib.byteCells l ++ [Value.int .u8 44] by simp [Lib.byteCells]]
        exact hown)
      have HB3 : Hid (Below w1.heap.size w1 w3) := hid ((HB.out.alloc hsz _).grown hgrow (by simp; omega) (fun k hk => (HR.out.lt k hk).1))
      have HC := hid (appendI_any w1.heap.size y HY.out v3 (l ++ [44]) w3 HO3.out HB3.out.size (by have := HLE.out; simp; omega) ((Lib.tabBelow_of_tabIs (Lib.TabBelow.here (HT.out.on HB1.out |>.on (Below.refl _ _)))).on HB3.out))
      clear hown hgrow
      go_wp2_with fail
      refine HC.out.mono ?_
      rintro e w4 ⟨v4, rfl, ho4, hb4⟩
      have HO4 := hid ho4
      have HB4 := hid (HB3.out.trans hb4)
      clear ho4 hb4
      go_wp2
      go_round
      case rel => exact ⟨j + 1, by omega, by simp, hid (by have := HO4.out; rw [HTK.out, ← List.append_assoc, ← HLQ.out]; simpa using this), HB4⟩
      case measure => simp [intOf]; omega
    case neg =>
      obtain rfl : j = n := by omega
      have HF2 : Hid (Lib.itoa k ++ codeF (f.take j) = codeL ⟨k, f⟩) := hid (by unfold codeL; rw [List.take_of_length_le (by rw [← HN.out]; omega)])
      rw [HF2.out] at HR
      obtain ⟨l, hl⟩ : ∃ l, l = codeL ⟨k, f⟩ := ⟨_, rfl⟩
      rw [← hl] at HR
      have HL := hid hl
      have hpos : 0 < l.length := by
        rw [hl]
        unfold codeL
        have : 0 < (Lib.itoa k).length := itoa_pos k
        simp; omega
      clear hl HF2
      obtain ⟨hr1, hr2⟩ := HR.out
      rcases hr2 with ⟨-, h0⟩ | ⟨g, cap2, cur, rfl, -, -, -, -, -, -⟩
      · omega
      · have hcv := run_convert_bytes_back (P := Tryd.prog) wr 67 9 5 ⟨g, 0, none⟩ cap2 l Tryd.underlying67 Tryd.underlying5 Tryd.underlying9 (fun j hj => World.ownsRow.cells HR.out (g := g) rfl j _ (by simp [Lib.byteCells, hj]))
        clear hr1
        go_wp2
        go_ret
        have hl := HL.out
        subst hl
        exact ⟨rfl, HB1.out.trans (HB.out.mono HB1.out.size)⟩
end Go.Proofs.YtjocpbcmehicmaaDoor
