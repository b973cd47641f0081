/- Fld, Split, RelC: these texts, one behind the other. -/
import Derived.Test.YtannndpamhgknaaGreatDoorXRe0
import Derived.Test.YtannndpamhgknaaGreatDoorXBl1
import Derived.StillTail
import Derived.RegionTactic
/- The fields of a value: rows of numbers as they are written. -/
namespace Go.Proofs.YtannndpamhgknaaGreatDoor
open Go.RowKit Gr Bl

/-- Which method writes it. -/
def wayF (k : Nat) : FuncId := if k = 0 then 85 else if k = 1 then 87 else 88
def fldCells (x : Fld) : List Value := [.string ⟨x.num.sg.toArray⟩, .string ⟨x.num.dg.toArray⟩, .func (.func (wayF x.way)) #[numV x.num] #[]]
theorem info_Fld : (Tryz.prog.info? 104).map (fun i => (i.zero, i.size, i.bytes)) = some (some (.agg #[.string ⟨#[]⟩, .string ⟨#[]⟩, .nilFunc]), 3, 40) := by kernel_rfl
theorem fldCells_one (x : Fld) : ∀ u ∈ fldCells x, u.oneCell' = true := by
  intro u hu
  simp [fldCells] at hu
  rcases hu with rfl | rfl | rfl <;> rfl
/-- A row of fields, of a block from B on. -/
def FldsOwn (B : Nat) (w : World) (v : Value) (fs : List Fld) : Prop := w.ownsRow B 104 3 v fs.length (fs.flatMap fldCells) ∧ fs.length ≤ 20
theorem flat_len (fs : List Fld) : (fs.flatMap fldCells).length = fs.length * 3 := by
  induction fs with
  | nil => rfl
  | cons x fs ih => rw [List.flatMap_cons, List.length_append, ih, List.length_cons]; simp [fldCells]; omega

set_option maxRecDepth 8000 in
theorem numbers_any (f : List Int) (v : Value) (w : World) (hf : Ac.IA w v f) (hb : ∀ n ∈ f, i18 n) (hl : f.length ≤ 10) (htab : De.Tab w) :
    Calls Tryz.prog 57 #[v] w fun e w' => ∃ g, e = .returned (.slice (some ⟨g, 0, none⟩) f.length f.length) ∧ FldsOwn w.heap.size w' (.slice (some ⟨g, 0, none⟩) f.length f.length) (numsF f) ∧ Below w.heap.size w w' := by
  have HIA := hid hf
  have HT := hid htab
  have HBD := hid hb
  obtain ⟨i0, hi, hz0, hz1, hz2⟩ := info_parts info_Fld
  obtain ⟨ad, cap, rfl, hc, hm, _⟩ := hf.shape
  have hmf : ∀ (fn : Fn) (first cap : Array Value) (w : World), (Instr.makeFunc fn first cap).run Tryz.prog w = .ok (.func fn first cap) w := fun _ _ _ _ => rfl
  obtain ⟨n, hn⟩ : ∃ n, n = f.length := ⟨_, rfl⟩
  have HN := hid hn
  rw [← hn] at hc hl ⊢
  clear hf hn hb htab
  go_enter Tryz.func57, Tryz.ntmps57
  go_wp2_with (at_make; refine wpList_make_full _ rfl _ _ 77 rfl w.heap.size 104 i0 _ 3 Tryz.underlying77 hi hz0 hz1 .i64 .i64 n n n rfl rfl rfl rfl (by rw [hz2]; omega) (by unfold maxLen; omega) (Nat.le_refl _) ?_; intro w2 hown hgr; have HO := hid hown; have HB2 := hid (show Below w.heap.size w w2 from ⟨hgr.os, hgr.tape, hgr.output, hgr.size, fun k hk => hgr.block k hk (by simp)⟩); clear hown hgr)
  obtain ⟨k, hk⟩ : ∃ k, w.heap.size = k := ⟨_, rfl⟩
  rw [hk] at HO HB2
  have HK := hid hk
  simp only [hk]
  go_loopw [12] (fun v wr => ∃ (i : Nat) (L : List Value), i ≤ n ∧ v = .int .i64 i ∧ wr.ownsRow k 104 3 (.slice (some ⟨k, 0, none⟩) n n) n L ∧ L.take (i * 3) = ((numsF f).take i).flatMap fldCells ∧ Below k w wr) (fun v _ => n - (intOf v).toNat)
  case atStart => exact ⟨0, _, by omega, rfl, HO.out, by simp, HB2.out⟩
  case round =>
    obtain ⟨i, L, hin, rfl, hown, hL, hbw⟩ := hrel
    by_cases hlt : i < n
    · have hlt2 : (i : Int) < (n : Int) := by omega
      have hbw' : Below w.heap.size w wr := by rw [HK.out]; exact hbw
      obtain ⟨b, o, cap2, e1, _, _, _, hcs⟩ := (HIA.out.on hbw').has (by rw [← HN.out]; omega)
      injection e1 with e1 e3 e4
      subst e1
      clear e3 e4
      have ci := hcs i (by rw [← HN.out]; exact hlt)
      have HIF := hid (HBD.out (f.getD i 0) (by rw [List.getD_eq_getElem?_getD, List.getElem?_eq_getElem (by rw [← HN.out]; exact hlt)]; exact List.getElem_mem _))
      have HNF : Hid ((numsF f)[i]? = some ⟨nI (f.getD i 0), 0⟩) := hid (by unfold numsF; rw [List.getElem?_map, getD_at (by rw [← HN.out]; exact hlt)]; rfl)
      generalize f.getD i 0 = x at *
      have x0 : -9223372036854775808 ≤ x := by have := HIF.out; unfold i18 at this; omega
      have x1 : x ≤ 9223372036854775807 := by have := HIF.out; unfold i18 at this; omega
      have HI := hid (De.itoa_any x x0 x1 wr (HT.out.on hbw'))
      have HNO := hid (fun w => numeralOf_any (Lib.itoa x) w)
      rw [numOf_itoa] at HNO
      have HOW := hid hown
      have HBW := hid hbw
      have HL := hid hL
      clear hown hbw hL hbw' hcs
      unfold numV at HNO
      generalize hnx : nI x = y at *
      have HNX := hid hnx
      clear hnx
      obtain ⟨sg, dg⟩ := y
      dsimp only at HNO
      go_wp2_with fail
      refine HI.out.mono ?_
      rintro e w3 ⟨rfl, hb3⟩
      have HB3 := hid hb3
      clear hb3
      go_wp2_with fail
      refine (HNO.out _).mono ?_
      rintro e w4 ⟨rfl, hb4⟩
      obtain ⟨w5, hw5⟩ : ∃ w5, w5 = w4.alloc (.cells #[.string ⟨sg.toArray⟩, .string ⟨dg.toArray⟩] 102) := ⟨_, rfl⟩
      have hb5 : Below wr.heap.size wr w5 := by rw [hw5]; exact up_trans (up_trans HB3.out hb4) (up_alloc _ _)
      have hX : w5.heap[w4.heap.size]? = some (.cells #[.string ⟨sg.toArray⟩, .string ⟨dg.toArray⟩] 102) := by rw [hw5]; exact row_new _ _
      have d0 : w5.cell? ⟨w4.heap.size, 0, none⟩ = some (.string ⟨sg.toArray⟩) := by rw [cell_of_row _ _ _ _ _ _ hX]; rfl
      have d1 : w5.cell? ⟨w4.heap.size, 1, none⟩ = some (.string ⟨dg.toArray⟩) := by rw [cell_of_row _ _ _ _ _ _ hX]; rfl
      have hown5 := owns_below HOW.out hb5
      have f0 := frozen_own hown5 (i * 3)
      have f1 := frozen_own hown5 (i * 3 + 1)
      have f2 := frozen_own hown5 (i * 3 + 2)
      obtain ⟨z0, c0⟩ := own_has hown5 (i * 3) (by omega)
      obtain ⟨z1, c1⟩ := own_has hown5 (i * 3 + 1) (by omega)
      obtain ⟨z2, c2⟩ := own_has hown5 (i * 3 + 2) (by omega)
      have HO5 := hid hown5
      have HB5 := hid hb5
      clear hown5 hb5 hX hb4
      subst hw5
      go_wp2
      have hp := putL_own (fldCells ⟨⟨sg, dg⟩, 0⟩) _ L (i * 3) HO5.out
      have hk2 := HB2.out.size
      have hlen := HO5.out.1
      have htk := setL_take (fldCells ⟨⟨sg, dg⟩, 0⟩) L (i * 3) (by rw [hlen]; show i * 3 + 3 ≤ n * 3; omega)
      refine ⟨⟨i + 1, setL L (i * 3) (fldCells ⟨⟨sg, dg⟩, 0⟩), by omega, by simp, hp.1, ?_, ?_⟩, by simp [intOf]; omega⟩
      · rw [show (i + 1) * 3 = i * 3 + (fldCells ⟨⟨sg, dg⟩, 0⟩).length by show _ = i * 3 + 3; omega, htk, HL.out, List.take_add_one, HNF.out]
        simp
      · have hkw : k ≤ wr.heap.size := by have := (World.ownsRow.lt HOW.out k rfl).2; omega
        exact (((HBW.out.trans (HB5.out.mono hkw)).setCell (p := ⟨k, _, none⟩) (Nat.le_refl _) _).setCell (p := ⟨k, _, none⟩) (Nat.le_refl _) _).setCell (p := ⟨k, _, none⟩) (Nat.le_refl _) _
    · obtain rfl : n = i := by omega
      have HOW := hid hown
      have HBW := hid hbw
      have HL := hid hL
      clear hown hbw hL
      go_wp2
      go_ret
      have hfl : (numsF f).length = n := by unfold numsF; rw [List.length_map, HN.out]
      have e := HL.out
      rw [List.take_of_length_le (by rw [HOW.out.1]; exact Nat.le_refl _), List.take_of_length_le (by rw [hfl]; exact Nat.le_refl _)] at e
      refine ⟨_, rfl, ⟨?_, by rw [hfl]; omega⟩, by rw [HK.out]; exact HBW.out⟩
      rw [hfl, HK.out, ← e]
      exact HOW.out
end Go.Proofs.YtannndpamhgknaaGreatDoor

/- A decimal's text, taken apart at its point. -/
namespace Go.Proofs.YtannndpamhgknaaGreatDoor
open Go.RowKit Gr Bl
open Go.Lib (decDigits nDigits)

/-- The tables that render's numbers read. -/
structure TabN (w : World) : Prop where
  tab : De.Tab w
  max : ∃ m, w.cell? ⟨5, 0, none⟩ = some (.int .i64 m)
theorem TabN.on {w w' : World} (h : TabN w) (hb : Below w.heap.size w w') : TabN w' := by
  refine ⟨h.tab.on hb, ?_⟩
  obtain ⟨m, hm⟩ := h.max
  exact ⟨m, (hb.cell (lt_of_cell hm)).trans hm⟩

theorem index_none : ∀ (l : List UInt8), (46 : UInt8) ∉ l → Lib.index l [46] = -1
  | [], _ => by simp [Lib.index]
  | c :: l, h => by
    have hc : ((46 : UInt8) == c) = false := by rw [beq_eq_false_iff_ne]; intro e; exact h (by rw [e]; simp)
    have ih := index_none l (fun hm => h (List.mem_cons_of_mem _ hm))
    simp [Lib.index, List.isPrefixOf, hc, ih]
theorem index_app : ∀ (l r : List UInt8), (46 : UInt8) ∉ l → Lib.index (l ++ 46 :: r) [46] = l.length
  | [], r, _ => by simp [Lib.index, List.isPrefixOf]
  | c :: l, r, h => by
    have hc : ((46 : UInt8) == c) = false := by rw [beq_eq_false_iff_ne]; intro e; exact h (by rw [e]; simp)
    have ih := index_app l r (fun hm => h (List.mem_cons_of_mem _ hm))
    rw [List.cons_append, Lib.index]
    rw [if_neg (by simp [List.isPrefixOf, hc]), ih, if_neg (by rw [beq_iff_eq]; omega)]
    rw [List.length_cons]; omega
theorem cut_none {l : List UInt8} (h : (46 : UInt8) ∉ l) : Lib.cut l [46] = (l, [], false) := by
  unfold Lib.cut; rw [index_none l h, if_neg (by decide)]
theorem cut_app {l r : List UInt8} (h : (46 : UInt8) ∉ l) : Lib.cut (l ++ 46 :: r) [46] = (l, r, true) := by
  unfold Lib.cut
  rw [index_app l r h, if_pos (by omega)]
  have e1 : ((l.length : Int)).toNat = l.length := by omega
  rw [e1]
  refine Prod.ext ?_ (Prod.ext ?_ rfl)
  · simp
  · show (l ++ 46 :: r).drop (l.length + 1) = r
    rw [List.drop_append]
    simp
theorem no_point (m : Int) (q : Nat) : (46 : UInt8) ∉ De.Dc.sgn m ++ decDigits q := by
  intro h
  rcases List.mem_append.1 h with h | h
  · rcases sg_of m with e | e <;> rw [e] at h <;> simp at h
  · have := Dig.dec q 46 h
    revert this; decide
theorem cut_text (m : Int) (s : Nat) : Lib.cut (De.Dc.text m s) [46] = (De.Dc.sgn m ++ decDigits (m.natAbs / 10 ^ s), (partN m s).dg, decide (s ≠ 0)) := by
  unfold De.Dc.text partN
  dsimp only
  by_cases h : s = 0
  · rw [if_pos h, if_pos h, List.append_nil, cut_none (no_point _ _)]
    simp [h]
  · rw [if_neg h, if_neg h, cut_app (no_point _ _)]
    simp [h]
theorem numOf_part (m : Int) (s : Nat) : numOf (partN m s).dg = partN m s := by
  have := numOf_of (s := []) (.inl rfl) (Dig.part m s)
  rw [List.nil_append] at this
  rw [this]; rfl

theorem results_two {fn : Func} {p q : Tmp} {ty : TypeId} (h : fn.results = #[.cell p ty, .cell q ty]) (tmps : Array Value) (w : World) (g g' : Nat) (cs cs' : Array Value)
    (hp : tmps.getD p undef = .pointer (some ⟨g, 0, none⟩)) (hq : tmps.getD q undef = .pointer (some ⟨g', 0, none⟩)) (hl : (loadVar ty ⟨g, 0, none⟩).run Tryz.prog w = .ok (.agg cs) w) (hl' : (loadVar ty ⟨g', 0, none⟩).run Tryz.prog w = .ok (.agg cs') w) :
    (results fn tmps).run Tryz.prog w = .ok (.tuple #[.agg cs, .agg cs']) w := by
  have hp' : tmps[p]?.getD undef = .pointer (some ⟨g, 0, none⟩) := by simpa using hp
  have hq' : tmps[q]?.getD undef = .pointer (some ⟨g', 0, none⟩) := by simpa using hq
  simp [results, h, hp', hq', asAddr, hl, hl']

set_option maxRecDepth 8000 in
theorem split_any (m : Int) (s : Nat) (w : World) (hs : s ≤ 18) (h0 : -1000000000000000000 < m) (h1 : m < 1000000000000000000) (hT : TabN w) :
    Calls Tryz.prog 86 #[.int .i64 m, .int .i64 s] w fun e w' => e = .returned (.tuple #[numV (wholeN m s), numV (partN m s)]) ∧ Below w.heap.size w w' := by
  have HX0 := hid (row_new w (.cells #[.string ⟨#[]⟩, .string ⟨#[]⟩] 102))
  obtain ⟨w1, hw1⟩ : ∃ w1, w1 = (w.alloc (.cells #[.string ⟨#[]⟩, .string ⟨#[]⟩] 102)).alloc (.cells #[.string ⟨#[]⟩, .string ⟨#[]⟩] 102) := ⟨_, rfl⟩
  have hb1 : Below w.heap.size w w1 := by rw [hw1]; exact ((Below.refl w.heap.size w).alloc (Nat.le_refl _) _).alloc (by simp) _
  have hA : w1.heap[w.heap.size]? = some (.cells #[.string ⟨#[]⟩, .string ⟨#[]⟩] 102) := by
    rw [hw1]
    exact ((up_alloc _ _).block w.heap.size (by simp)).trans HX0.out
  have hB : w1.heap[w.heap.size + 1]? = some (.cells #[.string ⟨#[]⟩, .string ⟨#[]⟩] 102) := by
    rw [hw1]
    have := row_new (w.alloc (.cells #[.string ⟨#[]⟩, .string ⟨#[]⟩] 102)) (.cells #[.string ⟨#[]⟩, .string ⟨#[]⟩] 102)
    simpa using this
  have HTX := hid (De.text_any m s w1 hs h0 h1 (hT.on hb1).tab)
  have HT1 := hid (hT.on hb1)
  have htl : (De.Dc.text m s).length ≤ 1000 := by
    unfold De.Dc.text
    have a1 := dec_len (m.natAbs / 10 ^ s) (by have := Nat.div_le_self m.natAbs (10 ^ s); omega)
    have a2 : (De.Dc.sgn m).length ≤ 1 := by rcases sg_of m with e | e <;> rw [e] <;> decide
    rw [List.length_append, List.length_append]
    split
    · simp; omega
    · rw [List.length_cons, De.Dc.pad_length]; omega
  have HC := hid (fun mx w hm => cut_any (De.Dc.text m s) [46] mx w htl hm)
  rw [cut_text] at HC
  have HN1 := hid (fun w => numeralOf_any (De.Dc.sgn m ++ decDigits (m.natAbs / 10 ^ s)) w)
  rw [numOf_of (sg_of m) (Dig.dec _), show (⟨De.Dc.sgn m, decDigits (m.natAbs / 10 ^ s)⟩ : Num) = wholeN m s from rfl] at HN1
  have HN2 := hid (fun w => numeralOf_any (partN m s).dg w)
  rw [numOf_part] at HN2
  dsimp only at HC
  have HB1 := hid hb1
  have HA := hid hA
  have HB := hid hB
  have hz1 := (Array.getElem?_eq_some_iff.1 hB).1
  generalize De.Dc.sgn m ++ decDigits (m.natAbs / 10 ^ s) = t1 at *
  generalize (partN m s).dg = t2 at HC HN2
  generalize De.Dc.text m s = tx at *
  generalize wholeN m s = x1 at *
  generalize partN m s = x2 at *
  generalize decide (s ≠ 0) = is at *
  obtain ⟨sg1, dg1⟩ := x1
  obtain ⟨sg2, dg2⟩ := x2
  unfold numV at *
  dsimp only at *
  clear hT hb1 hA hB htl
  go_enter Tryz.func86, Tryz.ntmps86
  go_wp2_with fail
  rw [← hw1]
  refine HTX.out.mono ?_
  rintro e w2 ⟨rfl, hb2⟩
  have HB2 := hid hb2
  obtain ⟨mx, hmx⟩ := (HT1.out.on hb2).max
  clear hb2
  go_wp2_with fail
  refine (HC.out mx _ hmx).mono ?_
  rintro e w3 ⟨rfl, hb3⟩
  have HB3 := hid (up_trans HB2.out hb3)
  clear hb3
  go_wp2_with fail
  refine (HN1.out _).mono ?_
  rintro e w4 ⟨rfl, hb4⟩
  have HB4 := hid (up_trans HB3.out hb4)
  clear hb4
  go_wp2_with fail
  refine (HN2.out _).mono ?_
  rintro e w5 ⟨rfl, hb5⟩
  have HB5 := hid (up_trans HB4.out hb5)
  have hA5 := (HB5.out.block _ (by omega)).trans HA.out
  have hB5 := (HB5.out.block _ (by omega)).trans HB.out
  have HA5 := hid hA5
  have HBB5 := hid hB5
  have a0 : w5.cell? ⟨w.heap.size, 0, none⟩ = some (.string ⟨#[]⟩) := by rw [cell_of_row _ _ _ _ _ _ hA5]; rfl
  have a1 : w5.cell? ⟨w.heap.size, 1, none⟩ = some (.string ⟨#[]⟩) := by rw [cell_of_row _ _ _ _ _ _ hA5]; rfl
  have b0 : w5.cell? ⟨w.heap.size + 1, 0, none⟩ = some (.string ⟨#[]⟩) := by rw [cell_of_row _ _ _ _ _ _ hB5]; rfl
  have b1 : w5.cell? ⟨w.heap.size + 1, 1, none⟩ = some (.string ⟨#[]⟩) := by rw [cell_of_row _ _ _ _ _ _ hB5]; rfl
  have fa : ∀ c, w5.frozen? ⟨w.heap.size, c, none⟩ = false := fun c => frozen_of_row _ _ _ _ _ hA5
  have fb : ∀ c, w5.frozen? ⟨w.heap.size + 1, c, none⟩ = false := fun c => frozen_of_row _ _ _ _ _ hB5
  clear hb5 hA5 hB5
  go_wp2
  have hA6 := heap_setCell_same _ w.heap.size 1 _ _ (.string ⟨dg1.toArray⟩) (heap_setCell_same _ w.heap.size 0 _ _ (.string ⟨sg1.toArray⟩) HA5.out)
  have hA7 := (Below.heap_setCell _ ⟨w.heap.size + 1, 1, none⟩ (.string ⟨dg2.toArray⟩) w.heap.size (by simp)).trans ((Below.heap_setCell _ ⟨w.heap.size + 1, 0, none⟩ (.string ⟨sg2.toArray⟩) w.heap.size (by simp)).trans hA6)
  have hB6 := (Below.heap_setCell _ ⟨w.heap.size, 1, none⟩ (.string ⟨dg1.toArray⟩) (w.heap.size + 1) (by simp)).trans ((Below.heap_setCell _ ⟨w.heap.size, 0, none⟩ (.string ⟨sg1.toArray⟩) (w.heap.size + 1) (by simp)).trans HBB5.out)
  have hB7 := heap_setCell_same _ (w.heap.size + 1) 1 _ _ (.string ⟨dg2.toArray⟩) (heap_setCell_same _ (w.heap.size + 1) 0 _ _ (.string ⟨sg2.toArray⟩) hB6)
  refine bodyPost_ret (results_two rfl _ _ w.heap.size (w.heap.size + 1) _ _ rfl rfl (run_loadVar_row _ _ 102 102 _ (0, 0) _ hA7 Tryz.underlying102 rfl (by kernel_rfl)) (run_loadVar_row _ _ 102 102 _ (0, 0) _ hB7 Tryz.underlying102 rfl (by kernel_rfl))) rfl ⟨rfl, ?_⟩
  exact ((((HB1.out.trans (HB5.out.mono HB1.out.size)).setCell (p := ⟨_, _, none⟩) (Nat.le_refl _) _).setCell (p := ⟨_, _, none⟩) (Nat.le_refl _) _).setCell (p := ⟨_, _, none⟩) (Nat.le_succ _) _).setCell (p := ⟨_, _, none⟩) (Nat.le_succ _) _
end Go.Proofs.YtannndpamhgknaaGreatDoor

/- A region that draws its order, whose operations but the last ones only make memory: told by what each operation's value is, and by a relation on all values made so far, in whatever world; one case an operation, none an order. -/
namespace Go.Proofs.YtannndpamhgknaaGreatDoor

section
variable {P : Program} {ops : Array Oper}
def cntF (listed : Array Bool) : Nat → Nat
  | 0 => 0
  | n + 1 => cntF listed n + if listed.getD n true = true then 0 else 1
theorem cnt_out {listed : Array Bool} {i : Nat} : ∀ n, n ≤ i → cntF (listed.setIfInBounds i true) n = cntF listed n
  | 0, _ => rfl
  | n + 1, h => by
    unfold cntF
    rw [cnt_out n (by omega), getD_set_ne true (show i ≠ n by omega)]
theorem cnt_set {listed : Array Bool} {i : Nat} (hi : listed.getD i true = false) : ∀ n, i < n → cntF (listed.setIfInBounds i true) n + 1 = cntF listed n
  | 0, h => absurd h (by omega)
  | n + 1, h => by
    unfold cntF
    by_cases e : i = n
    · subst e
      rw [cnt_out i (Nat.le_refl _), hi]
      have hlt : i < listed.size := by
        rcases Nat.lt_or_ge i listed.size with h' | h'
        · exact h'
        · simp [Array.getElem?_eq_none h'] at hi
      simp [hlt]
    · rw [getD_set_ne true e]
      have := cnt_set hi n (by omega)
      omega
theorem cnt_zero {listed : Array Bool} : ∀ n, cntF listed n = 0 → ∀ j, j < n → listed.getD j true = true
  | 0, _, j, h => absurd h (by omega)
  | n + 1, h, j, hj => by
    unfold cntF at h
    by_cases e : j = n
    · subst e
      by_cases hq : listed.getD j true = true
      · exact hq
      · rw [if_neg hq] at h; omega
    · exact cnt_zero n (by omega) j (by omega)
theorem cnt_least {listed : Array Bool} : ∀ n, cntF listed n ≠ 0 → ∃ m, m < n ∧ listed.getD m true = false ∧ ∀ j, j < m → listed.getD j true = true
  | 0, h => absurd rfl h
  | n + 1, h => by
    by_cases h0 : cntF listed n = 0
    · unfold cntF at h
      rw [h0] at h
      refine ⟨n, by omega, ?_, cnt_zero n h0⟩
      by_cases hq : listed.getD n true = true
      · rw [if_pos hq] at h; omega
      · simpa using hq
    · obtain ⟨m, h1, h2, h3⟩ := cnt_least n h0
      exact ⟨m, by omega, h2, h3⟩
theorem getD_true {listed : Array Bool} {j : Nat} (hj : j < listed.size) (h : listed.getD j true = true) : listed.getD j false = true := by
  simp [hj] at h ⊢; exact h

/-- Each operation waits for earlier ones alone. -/
def fwdB (ops : Array Oper) : Bool :=
  (List.range ops.size).all fun j => match ops[j]? with
    | some o => o.after.all fun e => !Region.binds .any e || decide (e.on < j)
    | none => true
theorem fwd_spec (h : fwdB ops = true) {j : Nat} {o : Oper} (ho : ops[j]? = some o) : ∀ e ∈ o.after, Region.binds .any e = true → e.on < j := by
  intro e he hb
  have hj : j < ops.size := (Array.getElem?_eq_some_iff.1 ho).1
  have h1 := List.all_eq_true.1 h j (List.mem_range.2 hj)
  simp only [ho] at h1
  have h2 := Array.all_eq_true'.1 h1 e he
  simpa [hb] using h2
/-- The region's first n operations in whatever order; the store (n) behind all of them but some that float (E); behind it the others, one behind the other. -/
def headB (ops : Array Oper) (n : Nat) (E : Nat → Bool) : Bool :=
  decide (n < ops.size) && fwdB ops && ((List.range n).all fun i => E i || Region.waitsFor .any ops n i) && ((List.range ops.size).all fun t => decide (t ≤ n) || (List.range t).all fun i => Region.waitsFor .any ops t i) &&
    Region.seqB .any ops (ops.size - (n + 1)) (n + 1) (List.replicate (n + 1) true ++ List.replicate (ops.size - (n + 1)) false).toArray

theorem listed_eq {n : Nat} {listed : Array Bool} (hn : n < ops.size) (hs : listed.size = ops.size) (ht : ∀ t, n < t → t < ops.size → listed.getD t true = false) (h : ∀ j, j < n + 1 → listed.getD j true = true) : listed = (List.replicate (n + 1) true ++ List.replicate (ops.size - (n + 1)) false).toArray := by
  apply Array.ext
  · simp [hs]; omega
  · intro j h1 h2
    by_cases hj : j < n + 1
    · have := h j hj
      simp [h1] at this
      simp [this, hj]
    · have := ht j (by omega) (by rw [← hs]; exact h1)
      simp [h1] at this
      simp [this, List.getElem_append, hj]
theorem waits_on {t i : Nat} (h : Region.waitsFor .any ops t i = true) {listed : Array Bool} (hr : t ∈ Region.ready .any ops listed) : listed.getD i false = true := by
  obtain ⟨oj, hoj, e, he, hb, hon⟩ := Region.waitsFor_spec h
  obtain ⟨_, o, ho, hall⟩ := mem_ready.1 hr
  obtain rfl : oj = o := Option.some.inj (hoj.symm.trans ho)
  rw [← hon]
  exact hall e he hb
theorem getD_up {listed : Array Bool} {j : Nat} (h : listed.getD j false = true) : listed.getD j true = true := by
  rcases Nat.lt_or_ge j listed.size with h' | h'
  · simp [h'] at h ⊢; exact h
  · simp [Array.getElem?_eq_none h']

def upd (us : Nat → Value) (i : Nat) (v : Value) : Nat → Value := fun j => if j = i then v else us j

theorem wpAny_relc {l : List Oper} {n : Nat} {E : Nat → Bool} {Q : Exit → Act → World → Prop} (hB : headB l.toArray n E = true)
    (F : (Nat → Value) → Act) (Pp : Nat → Value → World → Prop) (Wk : Nat → Value → Prop) (C : (Nat → Value) → World → Prop) (G : World → World → Prop) (Fn : (Nat → Value) → World → Prop)
    (hst : ∀ j v w w', G w w' → Pp j v w → Pp j v w') (hwk : ∀ j v w, Pp j v w → Wk j v) (hFn : ∀ us w i v, E i = true → Fn us w → Fn (upd us i v) w)
    (hstep : ∀ i, i < n → ∀ us w, C us w → (∀ o, l[i]? = some o → ∀ e ∈ o.after, Region.binds .any e = true → Pp e.on (us e.on) w) → wpOp P l.toArray Q i (fun a' w' => ∃ v, a' = F (upd us i v) ∧ Pp i v w' ∧ G w w' ∧ C (upd us i v) w') (F us) w)
    (hstore : ∀ us w, C us w → (∀ i, i < n → E i = false → Pp i (us i) w) → wpOp P l.toArray Q n (fun a' w' => ∃ v, a' = F (upd us n v) ∧ Fn (upd us n v) w') (F us) w)
    (hfloat : ∀ i, i < n → E i = true → ∀ us w, (∀ o, l[i]? = some o → ∀ e ∈ o.after, Region.binds .any e = true → Wk e.on (us e.on)) → wpOp P l.toArray Q i (fun a' w' => ∃ v, a' = F (upd us i v) ∧ Wk i v ∧ w' = w) (F us) w)
    (hend : ∀ us w, Fn us w → (∀ i, i < n → Wk i (us i)) → wpList P l.toArray Q (l.drop (n + 1)) (F us) w) :
    ∀ f listed us w, listed.size = l.toArray.size → (∀ t, n < t → t < l.toArray.size → listed.getD t true = false) → cntF listed (n + 1) = f →
      (listed.getD n false = false ∧ C us w ∧ (∀ j, j < n → listed.getD j false = true → Pp j (us j) w) ∨ listed.getD n false = true ∧ Fn us w ∧ (∀ j, j < n → E j = false → listed.getD j false = true) ∧ (∀ j, j < n → listed.getD j false = true → Wk j (us j))) →
      wpAny P .any l.toArray Q (f + (l.toArray.size - (n + 1))) listed (F us) w := by
  simp only [headB, Bool.and_eq_true, decide_eq_true_eq] at hB
  obtain ⟨⟨⟨⟨hn, hf⟩, hs⟩, hc⟩, hseq⟩ := hB
  have hdl : (l.drop (n + 1)).length = l.toArray.size - (n + 1) := by simp
  intro f
  induction f with
  | zero =>
    intro listed us w hsz htl h0 hI
    have hall := cnt_zero (n + 1) h0
    have he := listed_eq hn hsz htl hall
    have hnn : listed.getD n false = true := getD_true (by rw [hsz]; exact hn) (hall n (by omega))
    rcases hI with ⟨h, _⟩ | ⟨_, hF, _, hW⟩
    · rw [hnn] at h; cases h
    · rw [Nat.zero_add, ← hdl]
      exact wpAny_of_seq (l.drop (n + 1)) (n + 1) listed (F us) w (fun j => by simp [List.getElem?_drop]) (by rw [hdl, he]; exact hseq) (hend us w hF fun i hi => hW i hi (getD_true (by rw [hsz]; omega) (hall i (by omega))))
  | succ f ih =>
    intro listed us w hsz htl hcnt hI
    obtain ⟨m, hm, hm1, hm2⟩ := cnt_least (n + 1) (by omega : cntF listed (n + 1) ≠ 0)
    have hmr : m ∈ Region.ready .any l.toArray listed := by
      refine mem_ready.2 ⟨hm1, l.toArray[m]'(by omega), Array.getElem?_eq_getElem (by omega), fun e he hb => ?_⟩
      have := fwd_spec hf (Array.getElem?_eq_getElem (show m < l.toArray.size by omega)) e he hb
      exact getD_true (by rw [hsz]; omega) (hm2 _ this)
    rw [show f + 1 + (l.toArray.size - (n + 1)) = (f + (l.toArray.size - (n + 1))) + 1 by omega]
    refine ⟨fun h0 => (by rw [h0] at hmr; cases hmr), fun i hi => ?_⟩
    obtain ⟨hi1, oi, hoi, hdeps⟩ := mem_ready.1 hi
    have hil : i < l.toArray.size := (Array.getElem?_eq_some_iff.1 hoi).1
    have hin : i ≤ n := by
      rcases Nat.lt_or_ge n i with h | h
      · have h1 := List.all_eq_true.1 hc i (List.mem_range.2 hil)
        simp only [Bool.or_eq_true, decide_eq_true_eq] at h1
        rcases h1 with h1 | h1
        · omega
        · have h2 := getD_up (waits_on (List.all_eq_true.1 h1 m (List.mem_range.2 (by omega))) hi)
          rw [hm1] at h2; cases h2
      · exact h
    have hcs := cnt_set hi1 (n + 1) (by omega)
    have hsz' : (listed.setIfInBounds i true).size = l.toArray.size := by simp [hsz]
    have htl' : ∀ t, n < t → t < l.toArray.size → (listed.setIfInBounds i true).getD t true = false := fun t h1 h2 => by rw [getD_set_ne true (by omega)]; exact htl t h1 h2
    have hself : (listed.setIfInBounds i true).getD i false = true := by simp [hsz]; simpa using hil
    have hoi' : ∀ o, l[i]? = some o → oi = o := fun o ho => by
      have : l.toArray[i]? = some o := by simpa using ho
      exact Option.some.inj (hoi.symm.trans this)
    rcases hI with ⟨hnn, hC, hP⟩ | ⟨hnn, hF, hE, hW⟩
    · by_cases e : i = n
      · subst e
        have hheads : ∀ j, j < i → E j = false → listed.getD j false = true := fun j hj hE => by
          have h1 := List.all_eq_true.1 hs j (List.mem_range.2 hj)
          rw [hE, Bool.false_or] at h1
          exact waits_on h1 hi
        refine wpOp_mono ?_ (hstore us w hC fun j hj hE => hP j hj (hheads j hj hE))
        rintro a' w' ⟨v, rfl, hF⟩
        refine ih _ _ w' hsz' htl' (by omega) (.inr ⟨hself, hF, fun j hj hE => getD_set_true (hheads j hj hE), fun j hj hl => ?_⟩)
        rw [getD_set_ne false (by omega)] at hl
        unfold upd
        rw [if_neg (by omega)]
        exact hwk j _ w (hP j hj hl)
      · refine wpOp_mono ?_ (hstep i (by omega) us w hC fun o ho e he hb => ?_)
        · rintro a' w' ⟨v, rfl, hp, hg, hC'⟩
          refine ih _ _ _ hsz' htl' (by omega) (.inl ⟨by rw [getD_set_ne false e]; exact hnn, hC', fun j hj hl => ?_⟩)
          by_cases e2 : j = i
          · subst e2
            unfold upd
            rw [if_pos rfl]
            exact hp
          · unfold upd
            rw [if_neg e2]
            rw [getD_set_ne false (Ne.symm e2)] at hl
            exact hst j _ w w' hg (hP j hj hl)
        · obtain rfl := hoi' o ho
          have hlt := fwd_spec hf hoi e he hb
          exact hP _ (by omega) (hdeps e he hb)
    · have e : i ≠ n := fun e => by
        subst e
        have := getD_up hnn
        rw [hi1] at this; cases this
      have hEi : E i = true := by
        cases hq : E i with
        | true => rfl
        | false =>
          have := getD_up (hE i (by omega) hq)
          rw [hi1] at this; cases this
      refine wpOp_mono ?_ (hfloat i (by omega) hEi us w fun o ho e he hb => ?_)
      · rintro a' w' ⟨v, rfl, hp, rfl⟩
        refine ih _ _ _ hsz' htl' (by omega) (.inr ⟨by rw [getD_set_ne false e]; exact hnn, hFn _ _ _ _ hEi hF, fun j hj hE2 => getD_set_true (hE j hj hE2), fun j hj hl => ?_⟩)
        by_cases e2 : j = i
        · subst e2
          unfold upd
          rw [if_pos rfl]
          exact hp
        · unfold upd
          rw [if_neg e2]
          rw [getD_set_ne false (Ne.symm e2)] at hl
          exact hW j hj hl
      · obtain rfl := hoi' o ho
        have hlt := fwd_spec hf hoi e he hb
        exact hW _ (by omega) (hdeps e he hb)

theorem wp_region_relc {id : Nat} {l : List Oper} {n : Nat} {E : Nat → Bool} {Q : Exit → Act → World → Prop} {a : Act} {w : World} (hm : P.follows .mixedOrders = true) (hB : headB l.toArray n E = true)
    (F : (Nat → Value) → Act) (Pp : Nat → Value → World → Prop) (Wk : Nat → Value → Prop) (C : (Nat → Value) → World → Prop) (G : World → World → Prop) (Fn : (Nat → Value) → World → Prop) (us : Nat → Value) (ha : a = F us) (hC : C us w.drew)
    (hst : ∀ j v w w', G w w' → Pp j v w → Pp j v w') (hwk : ∀ j v w, Pp j v w → Wk j v) (hFn : ∀ us w i v, E i = true → Fn us w → Fn (upd us i v) w)
    (hstep : ∀ i, i < n → ∀ us w, C us w → (∀ o, l[i]? = some o → ∀ e ∈ o.after, Region.binds .any e = true → Pp e.on (us e.on) w) → wpOp P l.toArray Q i (fun a' w' => ∃ v, a' = F (upd us i v) ∧ Pp i v w' ∧ G w w' ∧ C (upd us i v) w') (F us) w)
    (hstore : ∀ us w, C us w → (∀ i, i < n → E i = false → Pp i (us i) w) → wpOp P l.toArray Q n (fun a' w' => ∃ v, a' = F (upd us n v) ∧ Fn (upd us n v) w') (F us) w)
    (hfloat : ∀ i, i < n → E i = true → ∀ us w, (∀ o, l[i]? = some o → ∀ e ∈ o.after, Region.binds .any e = true → Wk e.on (us e.on)) → wpOp P l.toArray Q i (fun a' w' => ∃ v, a' = F (upd us i v) ∧ Wk i v ∧ w' = w) (F us) w)
    (hend : ∀ us w, Fn us w → (∀ i, i < n → Wk i (us i)) → wpList P l.toArray Q (l.drop (n + 1)) (F us) w) : (Code.region id l.toArray true).wp P Q a w := by
  subst ha
  have hn : n < l.toArray.size := by
    simp only [headB, Bool.and_eq_true, decide_eq_true_eq] at hB
    exact hB.1.1.1.1
  have hc0 : ∀ k, k ≤ l.toArray.size → cntF (Array.replicate l.toArray.size false) k = k := by
    intro k
    induction k with
    | zero => intro _; rfl
    | succ k ih =>
      intro hk
      unfold cntF
      rw [ih (by omega), getD_in (by simp at hk ⊢; omega) (getD_replicate_false _ _)]
      simp
  have H := wpAny_relc (P := P) (Q := Q) hB F Pp Wk C G Fn hst hwk hFn hstep hstore hfloat hend (n + 1) (Array.replicate l.toArray.size false) us w.drew (by simp) (fun t _ ht => getD_in (by simpa using ht) (getD_replicate_false _ _)) (hc0 (n + 1) (by omega)) (.inl ⟨getD_replicate_false _ _, hC, fun j _ hl => by rw [getD_replicate_false] at hl; cases hl⟩)
  rw [show n + 1 + (l.toArray.size - (n + 1)) = l.toArray.size by omega] at H
  exact wp_region_any hm H
end
end Go.Proofs.YtannndpamhgknaaGreatDoor
