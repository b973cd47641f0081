/- A word of a class that means a number, written. -/
import Derived.Test.YtannndpamhgknaaGreatDoorXRe2
namespace Go.Proofs.YtannndpamhgknaaGreatDoor
open Go.RowKit Gr Bl

set_option maxRecDepth 8000 in
theorem word1_any (x : Entry) (ga gb : Nat) (cls n : Int) (w : World) (ha : w.cell? ⟨ga, 0, none⟩ = some (.int .i64 cls)) (hb : w.cell? ⟨gb, 0, none⟩ = some (.int .i64 n)) :
    Calls Tryz.prog 91 #[entryV x, .pointer (some ⟨ga, 0, none⟩), .pointer (some ⟨gb, 0, none⟩)] w fun e w' => e = .returned (.bool (wordIs cls n x)) ∧ Below w.heap.size w w' := by
  unfold entryV
  have e2 := ((up_alloc w (.cells #[.string x.text, .int .i64 x.cls, .int .i64 x.val] 49)).cell (p := ⟨ga, 0, none⟩) (lt_of_cell ha)).trans ha
  have e3 := ((up_alloc w (.cells #[.string x.text, .int .i64 x.cls, .int .i64 x.val] 49)).cell (p := ⟨gb, 0, none⟩) (lt_of_cell hb)).trans hb
  have HB := hid (up_alloc w (.cells #[.string x.text, .int .i64 x.cls, .int .i64 x.val] 49))
  clear ha hb
  by_cases q : x.cls = cls
  · have q1 : (x.cls == cls) = true := by simp [q]
    by_cases r : x.val = n
    · have r1 : (x.val == n) = true := by simp [r]
      have E := hid (show wordIs cls n x = true by simp [wordIs, q, r])
      clear q r
      go_enter Tryz.func91, Tryz.ntmps91
      go_wp2
      go_ret
      exact ⟨ret_bool E.out.symm, HB.out⟩
    · have r1 : (x.val == n) = false := by simp [r]
      have E := hid (show wordIs cls n x = false by simp [wordIs, r])
      clear q r
      go_enter Tryz.func91, Tryz.ntmps91
      go_wp2
      go_ret
      exact ⟨ret_bool E.out.symm, HB.out⟩
  · have q1 : (x.cls == cls) = false := by simp [q]
    have E := hid (show wordIs cls n x = false by simp [wordIs, q])
    clear q
    go_enter Tryz.func91, Tryz.ntmps91
    go_wp2
    go_ret
    exact ⟨ret_bool E.out.symm, HB.out⟩

/-- Where the first word is. -/
def FoundW (lex : List Entry) (cls n : Int) (k : Int) : Prop := (k < 0 ∧ lex.find? (wordIs cls n) = none) ∨ ∃ j : Nat, k = j ∧ j < lex.length ∧ lex.find? (wordIs cls n) = some (lex.getD j nilEntry)
theorem find_at {lex : List Entry} {p : Entry → Bool} {j : Nat} (hj : j < lex.length) (h0 : (lex.take j).find? p = none) (h1 : p (lex.getD j nilEntry) = true) : lex.find? p = some (lex.getD j nilEntry) := by
  have e : lex = lex.take j ++ lex.getD j nilEntry :: lex.drop (j + 1) := by
    conv => lhs; rw [← List.take_append_drop j lex]
    rw [List.drop_eq_getElem_cons hj, List.getD_eq_getElem?_getD, List.getElem?_eq_getElem hj]; rfl
  generalize lex.getD j nilEntry = x at *
  rw [e, List.find?_append, h0]
  simp [h1]
set_option maxRecDepth 8000 in
set_option maxHeartbeats 1000000 in
theorem index_word (ga gb : Nat) (cls n : Int) (lex : List Entry) (v : Value) (w : World) (ha : w.cell? ⟨ga, 0, none⟩ = some (.int .i64 cls)) (hb : w.cell? ⟨gb, 0, none⟩ = some (.int .i64 n)) (hv : EntriesAt w v lex) :
    Calls Tryz.prog 90 #[v, .func (.func 91) #[] #[.pointer (some ⟨ga, 0, none⟩), .pointer (some ⟨gb, 0, none⟩)]] w fun e w' => ∃ k : Int, e = .returned (.int .i64 k) ∧ FoundW lex cls n k ∧ Below w.heap.size w w' := by
  obtain ⟨ad, cap, rfl, hmx, _, hc⟩ := hv
  have HC := hid hc
  clear hc
  generalize hlen : lex.length = m at *
  have HL := hid hlen
  clear hlen
  go_enter Tryz.func90, Tryz.ntmps90
  go_wp2
  go_loopw [8] (fun v wr => ∃ j : Nat, j ≤ m ∧ v = .int .i64 j ∧ Hid ((lex.take j).find? (wordIs cls n) = none) ∧ Below w.heap.size w wr) (fun v _ => m - (intOf v).toNat)
  case atStart => exact ⟨0, by omega, rfl, hid (by simp), Below.refl _ _⟩
  case round =>
    obtain ⟨j, hj, rfl, hf, hbw⟩ := hrel
    by_cases hlt : j < m
    · obtain ⟨g, o, rfl, hcj⟩ := HC.out j hlt
      have HX : Hid (lex[j]? = some (lex.getD j nilEntry)) := hid (Entry_at (by rw [HL.out]; exact hlt))
      have HF : Hid (wordIs cls n (lex.getD j nilEntry) = true → lex.find? (wordIs cls n) = some (lex.getD j nilEntry)) := hid (fun h => find_at (by rw [HL.out]; exact hlt) hf.out h)
      obtain ⟨xv, hxv⟩ : ∃ x, x = lex.getD j nilEntry := ⟨_, rfl⟩
      rw [← hxv] at hcj HX HF
      have HXV := hid hxv
      obtain ⟨c0, c1, c2⟩ := hcj.on hbw
      have HB := hid hbw
      clear hbw hcj hxv
      have hlt2 : (j : Int) < (m : Int) := by omega
      have ha2 := (HB.out.cell (lt_of_cell ha)).trans ha
      have hb2 := (HB.out.cell (lt_of_cell hb)).trans hb
      have HP := hid (word1_any xv ga gb cls n wr ha2 hb2)
      unfold entryV at HP
      clear ha2 hb2
      cases hp : wordIs cls n xv with
      | false =>
        rw [hp] at HP
        go_wp2_with fail
        refine HP.out.mono ?_
        rintro e w1 ⟨rfl, bel⟩
        have HB2 := hid (up_trans HB.out bel)
        clear bel
        go_wp2
        go_roundw
        case rel => exact ⟨j + 1, by omega, by simp, hid (by rw [List.take_add_one, HX.out, List.find?_append, hf.out]; simp [hp]), HB2.out⟩
        case measure => simp [intOf]; omega
      | true =>
        rw [hp] at HP
        have HFF := hid (HF.out hp)
        go_wp2_with fail
        refine HP.out.mono ?_
        rintro e w1 ⟨rfl, bel⟩
        have HB2 := hid (up_trans HB.out bel)
        clear bel
        go_wp2
        go_ret
        exact ⟨_, rfl, .inr ⟨j, rfl, by rw [HL.out]; exact hlt, by rw [HFF.out, HXV.out]⟩, HB2.out⟩
    · obtain rfl : j = m := by omega
      have HB := hid hbw
      clear hbw
      go_wp2
      go_ret
      exact ⟨_, rfl, .inl ⟨by decide, by have := hf.out; rwa [List.take_of_length_le (by rw [HL.out]; exact Nat.le_refl _)] at this⟩, HB.out⟩

/-- What a method of the writer leaves that writes a text or says that there is none. -/
def Wrote (w : World) (g : Nat) (lv : Value) (ds : Int) (fv : Value) (bs : List UInt8) (o : Option (List UInt8)) (e : Ending) (w' : World) : Prop :=
  Below g w w' ∧ KeptR g w w' ∧ match o with
    | none => e = .returned (.bool false)
    | some t => e = .returned (.bool true) ∧ WrR w' g lv ds fv ((bs ++ t).take 257)

set_option maxRecDepth 8000 in
set_option maxHeartbeats 1000000 in
theorem word_any (cls n : Int) (lex : List Entry) (g : Nat) (lv fv : Value) (ds : Int) (bs : List UInt8) (w : World) (h : WrR w g lv ds fv bs) (hl : bs.length ≤ 257) (hlx : EntriesAt w lv lex) (htx : ∀ x ∈ lex, x.text.size ≤ 1000000) :
    Calls Tryz.prog 63 #[.pointer (some ⟨g, 0, none⟩), .int .i64 cls, .int .i64 n] w (Wrote w g lv ds fv bs (wordL lex cls n)) := by
  obtain ⟨w1, hw1⟩ : ∃ w1, w1 = (w.alloc (.cells #[.int .i64 cls] 3)).alloc (.cells #[.int .i64 n] 3) := ⟨_, rfl⟩
  have hb1 : Below w.heap.size w w1 := by rw [hw1]; exact ((Below.refl w.heap.size w).alloc (Nat.le_refl _) _).alloc (by simp) _
  have hA : w1.heap[w.heap.size]? = some (.cells #[.int .i64 cls] 3) := by
    rw [hw1]
    exact ((up_alloc _ _).block w.heap.size (by simp)).trans (row_new w _)
  have hB : w1.heap[w.heap.size + 1]? = some (.cells #[.int .i64 n] 3) := by
    rw [hw1]
    have := row_new (w.alloc (.cells #[.int .i64 cls] 3)) (.cells #[.int .i64 n] 3)
    simpa using this
  have a0 : w1.cell? ⟨w.heap.size, 0, none⟩ = some (.int .i64 cls) := by rw [cell_of_row _ _ _ _ _ _ hA]; rfl
  have b0 : w1.cell? ⟨w.heap.size + 1, 0, none⟩ = some (.int .i64 n) := by rw [cell_of_row _ _ _ _ _ _ hB]; rfl
  have HI := hid (index_word w.heap.size (w.heap.size + 1) cls n lex lv w1 a0 b0 (hlx.on hb1))
  have HW1 := hid (h.on hb1)
  have HLX := hid (hlx.on hb1)
  have HTX := hid htx
  have HB1 := hid hb1
  have hgl := h.lt
  have HSM : Hid (∀ w', Below w.heap.size w w' → Below g w w' ∧ KeptR g w w') := hid (fun w' hb => ⟨hb.mono (by omega), KeptR.up hb⟩)
  obtain ⟨tv, hh1, _⟩ := HW1.out
  have l0 : w1.cell? ⟨g, 0, none⟩ = some lv := by rw [cell_of_row _ _ _ _ _ _ hh1]; rfl
  obtain ⟨ad, cap, elv, _⟩ := HLX.out.shape
  obtain ⟨m, hm⟩ : ∃ m, m = lex.length := ⟨_, rfl⟩
  rw [← hm] at elv
  have HM := hid hm
  subst elv
  clear h hlx htx hb1 hA hB a0 b0 hh1 hm
  have hmf : ∀ (fn : Fn) (first cap : Array Value) (w : World), (Instr.makeFunc fn first cap).run Tryz.prog w = .ok (.func fn first cap) w := fun _ _ _ _ => rfl
  go_enter Tryz.func63, Tryz.ntmps63
  subst hw1
  go_wp2_with fail
  refine HI.out.mono ?_
  rintro e w2 ⟨k, rfl, hf, hb2⟩
  have hbb := up_trans HB1.out hb2
  have HB2 := hid hbb
  have HW2 := hid (HW1.out.on hb2)
  have HLX2 := hid (HLX.out.on hb2)
  have l0 := (hb2.cell (p := ⟨g, 0, none⟩) (lt_of_cell l0)).trans l0
  rcases hf with ⟨hk, hf⟩ | ⟨j, rfl, hj, hf⟩
  · have HO : Hid (wordL lex cls n = none) := hid (by unfold wordL; rw [hf]; rfl)
    clear hb2 hbb hf
    go_wp2
    go_ret
    refine ⟨(HSM.out _ HB2.out).1, (HSM.out _ HB2.out).2, ?_⟩
    rw [HO.out]
    rfl
  · have HO : Hid (wordL lex cls n = some (lex.getD j nilEntry).text.data.toList) := hid (by unfold wordL; rw [hf]; rfl)
    obtain ⟨ad2, cap2, e2, _, _, hc⟩ := HLX2.out
    obtain ⟨q, o, e3, c0, _⟩ := hc j hj
    injection e2 with e2 _ _
    subst e2 e3
    have hj2 : (j : Int) < (m : Int) := by rw [HM.out]; omega
    have hjm : j < m := by rw [HM.out]; exact hj
    have hsz : (lex.getD j nilEntry).text.size ≤ 1000000 := HTX.out _ (by rw [List.getD_eq_getElem?_getD, List.getElem?_eq_getElem hj]; exact List.getElem_mem _)
    have hts : (lex.getD j nilEntry).text.data.toList.length ≤ 1000000 := by
      have : (lex.getD j nilEntry).text.data.toList.length = (lex.getD j nilEntry).text.size := rfl
      omega
    have HP := hid (put_any (lex.getD j nilEntry).text.data.toList g _ fv ds bs w2 HW2.out hl hts)
    rw [show (⟨(lex.getD j nilEntry).text.data.toList.toArray⟩ : ByteArray) = (lex.getD j nilEntry).text from rfl] at HP
    clear hb2 hbb hf hc hj hsz hts
    generalize (lex.getD j nilEntry).text = tx at *
    go_wp2_with fail
    refine HP.out.mono ?_
    rintro e w3 ⟨rfl, hW3, hb3, hK3⟩
    have HW3 := hid hW3
    have HB3 := hid ((HSM.out _ HB2.out).1.trans hb3)
    have HK3 := hid ((HSM.out _ HB2.out).2.trans hK3)
    clear hW3 hb3 hK3
    go_wp2
    go_ret
    refine ⟨HB3.out, HK3.out, ?_⟩
    rw [HO.out]
    exact ⟨rfl, HW3.out⟩
end Go.Proofs.YtannndpamhgknaaGreatDoor
