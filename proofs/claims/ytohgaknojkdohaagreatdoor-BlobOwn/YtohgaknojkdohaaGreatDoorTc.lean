/- Wr, Wr2, Enc, RLoc, REnc, RSame: these texts, one behind the other. -/
import Derived.Test.YtohgaknojkdohaaGreatDoorTb
import Derived.Lib.AppendStr
import Derived.Deep.RegionHeld
import Derived.Test.YtohgaknojkdohaaGreatDoorTa
/- What is written: package blob's writer, number by number, text by text. -/
namespace Go.Proofs.YtohgaknojkdohaaGreatDoor
open Go.RowKit Gr

/-- A number's bytes, the greatest first. -/
def byteAt (n : Int) (s : Nat) : Int := (n / (2 : Int) ^ s) % 256
def numB (n : Int) : List Int := (List.range 8).map fun k : Nat => byteAt n (56 - 8 * k)
/-- A writer at block g: what it has written. -/
def Wr (w : World) (g : Nat) (bs : List Int) : Prop := ∃ v, w.heap[g]? = some (.cells #[v] 76 (0, 0)) ∧ w.ownsRow (g + 1) 5 1 v bs.length (bs.map (Value.int .u8))
/-- All blocks but g, and but rows of bytes, are as they were. -/
def Kept (g : Nat) (w w' : World) : Prop := ∀ k cs t fr, k ≠ g → t ≠ 5 → w.heap[k]? = some (.cells cs t fr) → w'.heap[k]? = some (.cells cs t fr)
theorem Kept.refl (g : Nat) (w : World) : Kept g w w := fun _ _ _ _ _ _ h => h
theorem Kept.trans {g : Nat} {w w1 w2 : World} (h : Kept g w w1) (k : Kept g w1 w2) : Kept g w w2 := fun b cs t fr h1 h2 h3 => k b cs t fr h1 h2 (h b cs t fr h1 h2 h3)
theorem Kept.up {g : Nat} {w w' : World} (hb : Below w.heap.size w w') : Kept g w w' := fun b _ _ _ _ _ h => (hb.block b (Array.getElem?_eq_some_iff.1 h).1).trans h
theorem Kept.set {w : World} {g c : Nat} {u : Value} : Kept g w (w.setCell ⟨g, c, none⟩ u) := fun _ _ _ _ h1 _ h => (Below.heap_setCell _ _ _ _ h1).trans h
theorem Kept.grown {g B n : Nat} {w w' : World} {v : Value} {xs : List Value} (h : w.ownsRow B 5 1 v n xs) (hg : w.grownBy w' v.ownBlock) : Kept g w w' := fun b cs t fr _ h2 h3 => by
  refine (hg.block b (Array.getElem?_eq_some_iff.1 h3).1 (fun e => ?_)).trans h3
  obtain ⟨_, ⟨rfl, _⟩ | ⟨g', cap, cur, rfl, _, h5, _⟩⟩ := h
  · cases e
  · have e' : some b = some g' := e
    injection e' with e'
    subst e'
    rw [h5] at h3
    injection h3 with h3
    injection h3 with _ h3 _
    exact h2 h3.symm
theorem info_byte : (Tryz.prog.info? 5).map (fun i => (i.zero, i.size, i.bytes)) = some (some (.int .u8 0), 1, 1) := by kernel_rfl
theorem Wr.lt {w : World} {g : Nat} {bs : List Int} (h : Wr w g bs) : g < w.heap.size := by
  obtain ⟨v, h1, _⟩ := h
  exact (Array.getElem?_eq_some_iff.1 h1).1
theorem Wr.on {w w' : World} {g : Nat} {bs : List Int} (h : Wr w g bs) (hb : Below w.heap.size w w') : Wr w' g bs := by
  obtain ⟨v, h1, h2⟩ := h
  exact ⟨v, (hb.block g (Array.getElem?_eq_some_iff.1 h1).1).trans h1, owns_below h2 hb⟩
/-- Behind an append onto its row, and the store. -/
theorem Wr.put {w w1 w2 : World} {g n : Nat} {v v' : Value} {bs cs : List Int} (h1 : w.heap[g]? = some (.cells #[v] 76 (0, 0))) (h2 : w.ownsRow (g + 1) 5 1 v bs.length (bs.map (Value.int .u8))) (hb : Below w.heap.size w w1) (ho : w2.ownsRow (g + 1) 5 1 v' n ((bs ++ cs).map (Value.int .u8))) (hn : n = (bs ++ cs).length) (hg : w1.grownBy w2 v.ownBlock) :
    Wr (w2.setCell ⟨g, 0, none⟩ v') g (bs ++ cs) ∧ Below g w (w2.setCell ⟨g, 0, none⟩ v') ∧ Kept g w (w2.setCell ⟨g, 0, none⟩ v') := by
  subst hn
  have hlt := (Array.getElem?_eq_some_iff.1 h1).1
  have hne : ∀ k, v.ownBlock = some k → g + 1 ≤ k := fun k e => (World.ownsRow.lt h2 k e).1
  have k1 : w1.heap[g]? = some (.cells #[v] 76 (0, 0)) := (hb.block g hlt).trans h1
  have k2 : w2.heap[g]? = some (.cells #[v] 76 (0, 0)) := (hg.block g (Array.getElem?_eq_some_iff.1 k1).1 (fun e => by have := hne g e.symm; omega)).trans k1
  refine ⟨⟨v', heap_setCell_same w2 g 0 _ _ _ k2, ?_⟩, ?_, ?_⟩
  · refine ho.kept (set_grown w2 g 0 v') ?_
    cases e : v'.ownBlock with
    | none => exact .inl rfl
    | some k => exact .inr (fun e2 => by injection e2 with e2; have := (World.ownsRow.lt ho k e).1; omega)
  · exact (((hb.mono (Nat.le_of_lt hlt)).grown hg (by have := hb.size; omega) (fun k e => by have := hne k e; omega)).setCell (p := ⟨g, 0, none⟩) (Nat.le_refl _) _)
  · exact ((Kept.up hb).trans (Kept.grown (owns_below h2 hb) hg)).trans Kept.set

set_option maxRecDepth 8000 in
theorem number_any (n : Int) (g : Nat) (bs : List Int) (w : World) (h : Wr w g bs) (hl : bs.length ≤ 900000) :
    Calls Tryz.prog 54 #[.pointer (some ⟨g, 0, none⟩), .int .i64 n] w fun e w' => e = .returned (.tuple #[]) ∧ Wr w' g (bs ++ numB n) ∧ Below g w w' ∧ Kept g w w' := by
  have H := hid h
  clear h
  go_enter Tryz.func54, Tryz.ntmps54
  go_wp2
  go_loopw [4] (fun v4 wr => ∃ k : Nat, k ≤ 8 ∧ v4 = .int .i64 (56 - 8 * (k : Int)) ∧ Wr wr g (bs ++ (numB n).take k) ∧ Below g w wr ∧ Kept g w wr) (fun v4 _ => (intOf v4 + 8).toNat)
  case atStart => exact ⟨0, by omega, rfl, by simpa using H.out, Below.refl _ _, Kept.refl _ _⟩
  case round =>
    obtain ⟨k, hk, rfl, hW, hb, hK⟩ := hrel
    by_cases hlt : k < 8
    · obtain ⟨v, h1, h2⟩ := hW
      have c0 : wr.cell? ⟨g, 0, none⟩ = some v := by rw [cell_of_row _ _ _ _ _ _ h1]; rfl
      have f0 : wr.frozen? ⟨g, 0, none⟩ = false := frozen_of_row _ _ _ _ _ h1
      obtain ⟨ad, cap, ev, _⟩ := own_shape h2
      have hgl : g < wr.heap.size := (Array.getElem?_eq_some_iff.1 h1).1
      have hs0 : ¬ (56 - 8 * (k : Int)) < 0 := by omega
      have hs1 : (56 - 8 * (k : Int)) < 64 := by omega
      have hLB : (bs ++ (numB n).take k).length ≤ 900008 := by
        rw [List.length_append, List.length_take]
        omega
      have HT : Hid ((numB n).take (k + 1) = (numB n).take k ++ [byteAt n (56 - 8 * k)]) := hid (by
        unfold numB
        rw [List.take_add_one, List.getElem?_map, List.getElem?_range hlt]
        rfl)
      have hy : IntKind.u8.wrap (n / 2 ^ (56 - 8 * (k : Int)).toNat) = byteAt n (56 - 8 * k) := by
        unfold byteAt
        rw [IntKind.wrap_u8, show (56 - 8 * (k : Int)).toNat = 56 - 8 * k by omega]
      generalize byteAt n (56 - 8 * k) = y at *
      generalize hbk : bs ++ (numB n).take k = bk at *
      generalize hL : bk.length = L at *
      subst ev
      have H1 := hid h1
      have H2 := hid h2
      have HLL := hid hL
      have HB := hid hb
      have HK := hid hK
      have HBK := hid hbk
      have HUP := hid ((up_alloc wr (.cells #[.int .u8 y] 5)).drew)
      have HOA := hid (owns_below h2 HUP.out)
      have HLIT := hid ((cells_lit wr 5 [.int .u8 y] #[.int .u8 y] rfl _ 1 1 rfl rfl (by intro u hu; simp at hu; subst hu; rfl)).on (Below.refl _ _).drew)
      have hgs := (World.ownsRow.lt h2)
      have HGS := hid (fun q e => (hgs q e).1)
      clear h1 h2 hL hb hK hbk hgs
      go_wp2
      go_region_law (refine step_append_cells _ rfl (.tmp 13) (.tmp 18) 28 5 rfl (.int .u8 0) 1 1 Tryz.underlying28 info_byte rfl (by decide) (by decide) (g + 1) (.slice ad L cap) L _ (by simp [Act.eval]) HOA.out (.slice (some ⟨wr.heap.size, 0, none⟩) 1 1) 1 [.int .u8 y] (by simp [Act.eval]) HLIT.out (by omega) (by simp; omega) ?_; intro v' w' h1 h2 h3; have hk2 := (h2.block g (by simp; omega) (fun e => by have := HGS.out g e.symm; omega)).trans ((HUP.out.block g hgl).trans H1.out); have c0' : w'.cell? ⟨g, 0, none⟩ = some (.slice ad L cap) := (by rw [cell_of_row _ _ _ _ _ _ hk2]; rfl); have f0' : w'.frozen? ⟨g, 0, none⟩ = false := frozen_of_row _ _ _ _ _ hk2; have HP := hid (Wr.put (cs := [y]) H1.out (by rw [HLL.out]; exact H2.out) HUP.out (by rw [List.map_append]; exact h1) (by rw [List.length_append, HLL.out]; rfl) h2); obtain ⟨adv, capv, ev', _⟩ := own_shape h1; subst ev'; have hgl' : g < w'.heap.size := (Array.getElem?_eq_some_iff.1 hk2).1; clear h1 h2 h3 hk2)
      all_goals
        go_wp2
        go_roundw
        case rel => exact ⟨k + 1, by omega, by congr 1; omega, by rw [HT.out, ← List.append_assoc, HBK.out]; exact HP.out.1, HB.out.trans HP.out.2.1, HK.out.trans HP.out.2.2⟩
        case measure => simp [intOf]; omega
    · obtain rfl : k = 8 := by omega
      have hW' := hW
      rw [List.take_of_length_le (by simp [numB])] at hW'
      have HW := hid hW'
      have HB := hid hb
      have HK := hid hK
      clear hW hb hK hW'
      go_wp2
      go_end0
      exact ⟨rfl, HW.out, HB.out, HK.out⟩

end Go.Proofs.YtohgaknojkdohaaGreatDoor

/- What is written: package blob's writer, all but single numbers; Encode. -/
namespace Go.Proofs.YtohgaknojkdohaaGreatDoor
open Go.RowKit Gr

theorem numB_length (n : Int) : (numB n).length = 8 := by simp [numB]
/-- What a call that writes leaves. -/
def Wrote (g : Nat) (w : World) (bs : List Int) (e : Ending) (w' : World) : Prop := e = .returned (.tuple #[]) ∧ Wr w' g bs ∧ Below g w w' ∧ Kept g w w'
def encText (s : ByteArray) : List Int := numB (s.size : Int) ++ nums s
def encNums (l : List Int) : List Int := l.flatMap numB
def encInts (l : List Int) : List Int := numB (l.length : Int) ++ l.flatMap numB
def encEntry (x : Entry) : List Int := encText x.text ++ encNums [x.cls, x.val]
def encPart (x : Part) : List Int := numB x.kind ++ encText x.text ++ encNums [x.field, x.width, x.cls]
def encParts (l : List Part) : List Int := numB (l.length : Int) ++ l.flatMap encPart
def encStyle (x : Style) : List Int := numB x.kind ++ encParts x.parts
def encRule (x : Rule) : List Int := numB x.lhs ++ encInts x.rhs ++ numB x.op ++ encInts x.p ++ numB x.cost
def encEntries (l : List Entry) : List Int := numB (l.length : Int) ++ l.flatMap encEntry
def encRules (l : List Rule) : List Int := numB (l.length : Int) ++ l.flatMap encRule
def encStyles (l : List Style) : List Int := numB (l.length : Int) ++ l.flatMap encStyle
def encLocale (x : Locale) : List Int := encText x.id ++ encNums [x.parent, x.digits] ++ encEntries x.lex ++ encRules x.rules ++ encStyles x.styles
def encLocales (l : List Locale) : List Int := numB (l.length : Int) ++ l.flatMap encLocale
theorem flatMap_take {α : Type} (f : α → List Int) (l : List α) (j : Nat) : ((l.take j).flatMap f).length ≤ (l.flatMap f).length := by
  conv => rhs; rw [← List.take_append_drop j l, List.flatMap_append, List.length_append]
  omega
theorem flatMap_snoc {α : Type} (f : α → List Int) (l : List α) (j : Nat) (x : α) (h : l[j]? = some x) : (l.take (j + 1)).flatMap f = (l.take j).flatMap f ++ f x := by
  rw [List.take_add_one, h, List.flatMap_append]
  simp

set_option maxRecDepth 8000 in
theorem numbers_any (xs : List Int) (b g : Nat) (bs : List Int) (w : World) (h : Wr w g bs) (hr : w.heap[b]? = some (.cells (xs.map (Value.int .i64)).toArray 3 (0, 0))) (hbg : b ≠ g) (hl : bs.length + (encNums xs).length ≤ 900000) (hx : xs.length ≤ 1000) :
    Calls Tryz.prog 56 #[.pointer (some ⟨g, 0, none⟩), .slice (some ⟨b, 0, none⟩) xs.length xs.length] w (Wrote g w (bs ++ encNums xs)) := by
  have H := hid h
  have HR := hid hr
  have HL := hid hl
  clear h hr hl
  generalize hn : xs.length = n at *
  have HN := hid hn
  clear hn
  go_enter Tryz.func56, Tryz.ntmps56
  go_wp2
  go_loopw [8] (fun v wr => ∃ j : Nat, j ≤ n ∧ v = .int .i64 j ∧ Wr wr g (bs ++ encNums (xs.take j)) ∧ Below g w wr ∧ Kept g w wr) (fun v _ => n - (intOf v).toNat)
  case atStart => exact ⟨0, by omega, rfl, by simpa [encNums] using H.out, Below.refl _ _, Kept.refl _ _⟩
  case round =>
    obtain ⟨j, hj, rfl, hW, hb, hK⟩ := hrel
    by_cases hlt : j < n
    · have hlt2 : (j : Int) < (n : Int) := by omega
      have HX : Hid (xs[j]? = some (xs.getD j 0)) := hid (getD_at (by rw [HN.out]; exact hlt))
      have hrow := hK b _ 3 _ hbg (by decide) HR.out
      have c0 : wr.cell? ⟨b, j, none⟩ = some (.int .i64 (xs.getD j 0)) := by
        rw [cell_of_row _ _ _ _ _ _ hrow, List.getElem?_toArray, List.getElem?_map, HX.out]
        rfl
      have HC := hid (number_any (xs.getD j 0) g _ wr hW (by have h1 := HL.out; have h2 := flatMap_take numB xs j; unfold encNums at h1 ⊢; rw [List.length_append]; omega))
      generalize xs.getD j 0 = y at *
      have HB := hid hb
      have HK := hid hK
      clear hW hb hK hrow
      go_wp2_with fail
      refine HC.out.mono ?_
      rintro e w1 ⟨rfl, hW, hb, hK⟩
      have HW1 := hid hW
      have HB1 := hid (HB.out.trans hb)
      have HK1 := hid (HK.out.trans hK)
      clear hW hb hK
      go_wp2
      go_roundw
      case rel => exact ⟨j + 1, by omega, by simp, by have := HW1.out; unfold encNums at this ⊢; rw [flatMap_snoc numB xs j y HX.out, ← List.append_assoc]; exact this, HB1.out, HK1.out⟩
      case measure => simp [intOf]; omega
    · have hW' := hW
      rw [List.take_of_length_le (by rw [HN.out]; omega)] at hW'
      have HW := hid hW'
      have HB := hid hb
      have HK := hid hK
      clear hW hb hK hW'
      obtain rfl : j = n := by omega
      go_wp2
      go_end0
      exact ⟨rfl, HW.out, HB.out, HK.out⟩

set_option maxRecDepth 8000 in
theorem wtext_any (s : ByteArray) (g : Nat) (bs : List Int) (w : World) (h : Wr w g bs) (hl : bs.length + (encText s).length ≤ 900000) :
    Calls Tryz.prog 55 #[.pointer (some ⟨g, 0, none⟩), .string s] w (Wrote g w (bs ++ encText s)) := by
  have hl' := hl
  unfold encText at hl'
  rw [List.length_append, numB_length, nums_length] at hl'
  have HC := hid (number_any (s.size : Int) g bs w h (by omega))
  clear h hl
  obtain ⟨i0, hi, hz0, hz1, hz2⟩ := info_parts info_byte
  go_enter Tryz.func55, Tryz.ntmps55
  go_wp2_with fail
  refine HC.out.mono ?_
  rintro e w1 ⟨rfl, hW, hb, hK⟩
  obtain ⟨v, h1, h2⟩ := hW
  have c0 : w1.cell? ⟨g, 0, none⟩ = some v := by rw [cell_of_row _ _ _ _ _ _ h1]; rfl
  have f0 : w1.frozen? ⟨g, 0, none⟩ = false := frozen_of_row _ _ _ _ _ h1
  have hgl : g < w1.heap.size := (Array.getElem?_eq_some_iff.1 h1).1
  obtain ⟨ad, cap, ev, _⟩ := own_shape h2
  have hL : (bs ++ numB (s.size : Int)).length = bs.length + 8 := by rw [List.length_append, numB_length]
  have H1 := hid h1
  have H2 := hid h2
  have HB := hid hb
  have HK := hid hK
  have HS : Hid (Lib.strCells s = (nums s).map (Value.int .u8)) := hid (by unfold Lib.strCells nums; rw [List.map_map]; rfl)
  have HGS := hid (fun q e => (World.ownsRow.lt h2 q e).1)
  rw [hL] at ev
  subst ev
  have HLL := hid hL
  clear h1 h2 hb hK hL
  go_wp2_with (at_builtin; refine Lib.wpList_append_own_string _ rfl (.tmp 12) (.tmp 13) 28 9 rfl (g + 1) 5 i0 Tryz.underlying28 Tryz.underlying9 hi hz0 hz1 hz2 _ (bs.length + 8) _ rfl (by have := H2.out; rwa [HLL.out] at this) s rfl (by unfold maxLen; omega) (by omega) (by omega) ?_; intro v' w' k1 k2 k3; have hk2 := (k2.block g hgl (fun e => by have := HGS.out g e.symm; omega)).trans H1.out; have c0' : w'.cell? ⟨g, 0, none⟩ = some (.slice ad (bs.length + 8) cap) := (by rw [cell_of_row _ _ _ _ _ _ hk2]; rfl); have f0' : w'.frozen? ⟨g, 0, none⟩ = false := frozen_of_row _ _ _ _ _ hk2; have HP := hid (Wr.put (cs := nums s) H1.out H2.out (Below.refl _ _) (by rw [List.map_append, ← HS.out]; exact k1) (by rw [List.length_append, HLL.out, nums_length]) k2); obtain ⟨adv, capv, ev', _⟩ := own_shape k1; subst ev'; have hgl' : g < w'.heap.size := (Array.getElem?_eq_some_iff.1 hk2).1; clear k1 k2 k3 hk2)
  go_end0
  exact ⟨rfl, by have := HP.out.1; unfold encText; rwa [← List.append_assoc], HB.out.trans HP.out.2.1, HK.out.trans HP.out.2.2⟩

set_option maxRecDepth 8000 in
theorem put_int (xs : List Int) (v : Value) (g : Nat) (bs : List Int) (w0 w : World) (h : Wr w g bs) (hw0 : w0.heap.size ≤ g) (hbw : Below w0.heap.size w0 w) (hx : Row w0 v xs) (hl : bs.length + (encInts xs).length ≤ 900000) :
    Calls Tryz.prog 94 #[.pointer (some ⟨g, 0, none⟩), v, .func (.func 54) #[.pointer (some ⟨g, 0, none⟩)] #[]] w (Wrote g w (bs ++ encInts xs)) := by
  have hl' := hl
  unfold encInts at hl'
  rw [List.length_append, numB_length] at hl'
  obtain ⟨ad, cap, rfl, hmx, hc⟩ := hx
  unfold maxLen at hmx
  have HC := hid hc
  have HNB := hid (number_any (xs.length : Int) g bs w h (by omega))
  have HL := hid hl'
  have HBW := hid hbw
  have hsg := hw0
  clear hc h hl hl' hbw
  generalize hlen : xs.length = n at *
  have HN := hid hlen
  clear hlen
  go_enter Tryz.func94, Tryz.ntmps94
  go_wp2_with fail
  refine HNB.out.mono ?_
  rintro e w1 ⟨rfl, hW, hb, hK⟩
  have HW1 := hid hW
  have HB1 := hid hb
  have HK1 := hid hK
  clear hW hb hK
  go_wp2
  go_loopw [14] (fun v wr => ∃ j : Nat, j ≤ n ∧ v = .int .i64 j ∧ Wr wr g (bs ++ numB (n : Int) ++ (xs.take j).flatMap numB) ∧ Below g w wr ∧ Kept g w wr) (fun v _ => n - (intOf v).toNat)
  case atStart => exact ⟨0, by omega, rfl, by simpa using HW1.out, HB1.out, HK1.out⟩
  case round =>
    obtain ⟨j, hj, rfl, hW, hb, hK⟩ := hrel
    by_cases hlt : j < n
    · have hlt2 : (j : Int) < (n : Int) := by omega
      have HX : Hid (xs[j]? = some (xs.getD j 0)) := hid (getD_at (by rw [HN.out]; exact hlt))
      have HLJ : Hid (bs.length + 8 + ((xs.take j).flatMap numB).length + (numB (xs.getD j 0)).length ≤ 900000) := hid (by
        have h1 := HL.out
        have h2 := flatMap_take numB xs (j + 1)
        rw [flatMap_snoc numB xs j _ HX.out, List.length_append] at h2
        omega)
      have HBR := hid (HBW.out.trans (hb.mono hsg))
      obtain ⟨a, eg, hcj⟩ := HC.out j hlt
      generalize xs.getD j 0 = y at *
      subst eg
      obtain ⟨_, c0⟩ := (show ∃ _ : Unit, wr.cell? (a.add j) = some (.int .i64 y) from ⟨(), (HBR.out.cell (lt_of_cell hcj)).trans hcj⟩)
      have HW := hid hW
      have HB := hid hb
      have HK := hid hK
      have hgl := hW.lt
      clear hW hb hK
      go_wp2_with fail
      refine (number_any y g _ wr HW.out (by have := HLJ.out; simp only [List.length_append, numB_length]; omega)).mono ?_
      rintro e w2 ⟨rfl, hW, hb, hK⟩
      have HW2 := hid hW
      have HB2 := hid (HB.out.trans (hb))
      have HK2 := hid (HK.out.trans (hK))
      clear hW hb hK
      go_wp2
      go_roundw
      case rel => exact ⟨j + 1, by omega, by simp, by rw [flatMap_snoc numB xs j y HX.out, ← List.append_assoc]; exact HW2.out, HB2.out, HK2.out⟩
      case measure => simp [intOf]; omega
    · have hW' := hW
      rw [List.take_of_length_le (by rw [HN.out]; omega), List.append_assoc] at hW'
      have HW : Hid (Wr wr g (bs ++ encInts xs)) := hid (by unfold encInts; rw [HN.out]; exact hW')
      have HB := hid hb
      have HK := hid hK
      clear hW hb hK hW'
      obtain rfl : j = n := by omega
      go_wp2
      go_end0
      exact ⟨rfl, HW.out, HB.out, HK.out⟩

set_option maxRecDepth 8000 in
theorem wentry_any (x : Entry) (g : Nat) (bs : List Int) (w : World) (h : Wr w g bs) (hl : bs.length + (encEntry x).length ≤ 900000) :
    Calls Tryz.prog 58 #[.pointer (some ⟨g, 0, none⟩), entryV x] w (Wrote g w (bs ++ encEntry x)) := by
  unfold entryV
  have HL0 := hid hl
  have HBX := hid (row_new w (.cells #[.string x.text, .int .i64 x.cls, .int .i64 x.val] 46))
  have HUP := hid (up_alloc w (.cells #[.string x.text, .int .i64 x.cls, .int .i64 x.val] 46))
  have hgw := h.lt
  have hne : w.heap.size ≠ g := by omega
  have HW0 := hid (h.on HUP.out)
  obtain ⟨w0, hw0⟩ : ∃ w0, w0 = w.alloc (.cells #[.string x.text, .int .i64 x.cls, .int .i64 x.val] 46) := ⟨_, rfl⟩
  have HB0 := hid (HUP.out.mono (Nat.le_of_lt hgw))
  have HK0 : Hid (Kept g w (w.alloc (.cells #[.string x.text, .int .i64 x.cls, .int .i64 x.val] 46))) := hid (Kept.up HUP.out)
  rw [← hw0] at HBX HUP HW0 HB0 HK0
  have HKB0 := hid (Kept.refl g w0)
  clear h hl
  have c0 : w0.cell? ⟨w.heap.size, 0, none⟩ = some (.string x.text) := by rw [cell_of_row _ _ _ _ _ _ HBX.out]; rfl
  have c1 : w0.cell? ⟨w.heap.size, 1, none⟩ = some (.int .i64 x.cls) := by rw [cell_of_row _ _ _ _ _ _ HBX.out]; rfl
  have c2 : w0.cell? ⟨w.heap.size, 2, none⟩ = some (.int .i64 x.val) := by rw [cell_of_row _ _ _ _ _ _ HBX.out]; rfl
  go_enter Tryz.func58, Tryz.ntmps58
  go_wp2_with fail
  rw [← hw0]
  clear hw0
  refine (wtext_any x.text g _ w0 HW0.out (by have := HL0.out; unfold encEntry at this; simp only [List.length_append] at this ⊢; (try simp only [numB_length] at this ⊢); omega)).mono ?_
  rintro e w1 ⟨rfl, hW, hb, hK⟩
  have HW1 := hid hW
  have HB1 := hid (HB0.out.trans hb)
  have HK1 := hid (HK0.out.trans hK)
  have HKB1 := hid (HKB0.out.trans hK)
  clear hW hb hK
  have hbx := HKB1.out w.heap.size _ _ _ hne (by decide) HBX.out
  have d0 : w1.cell? ⟨w.heap.size, 0, none⟩ = some (.string x.text) := by rw [cell_of_row _ _ _ _ _ _ hbx]; rfl
  have d1 : w1.cell? ⟨w.heap.size, 1, none⟩ = some (.int .i64 x.cls) := by rw [cell_of_row _ _ _ _ _ _ hbx]; rfl
  have d2 : w1.cell? ⟨w.heap.size, 2, none⟩ = some (.int .i64 x.val) := by rw [cell_of_row _ _ _ _ _ _ hbx]; rfl
  clear hbx
  replace c0 := d0
  replace c1 := d1
  replace c2 := d2
  clear d0 d1 d2
  go_wp2_with fail
  refine (numbers_any [x.cls, x.val] w1.heap.size g _ (w1.alloc (.cells #[.int .i64 x.cls, .int .i64 x.val] 3)) (HW1.out.on (up_alloc _ _)) (row_new _ _) (by have := HW1.out.lt; omega) (by have := HL0.out; unfold encEntry at this; simp only [List.length_append] at this ⊢; (try simp only [numB_length] at this ⊢); omega) (by simp)).mono ?_
  rintro e w2 ⟨rfl, hW, hb, hK⟩
  have hb := ((up_alloc w1 (.cells #[.int .i64 x.cls, .int .i64 x.val] 3)).mono (Nat.le_of_lt HW1.out.lt)).trans hb
  have hK := (Kept.up (up_alloc w1 (.cells #[.int .i64 x.cls, .int .i64 x.val] 3))).trans hK
  have HW2 := hid hW
  have HB2 := hid (HB1.out.trans hb)
  have HK2 := hid (HK1.out.trans hK)
  have HKB2 := hid (HKB1.out.trans hK)
  clear hW hb hK
  go_wp2
  go_end0
  exact ⟨rfl, by have := HW2.out; unfold encEntry; simpa only [List.append_assoc] using this, HB2.out, HK2.out⟩

set_option maxRecDepth 8000 in
theorem wpart_any (x : Part) (g : Nat) (bs : List Int) (w : World) (h : Wr w g bs) (hl : bs.length + (encPart x).length ≤ 900000) :
    Calls Tryz.prog 96 #[.pointer (some ⟨g, 0, none⟩), partV x] w (Wrote g w (bs ++ encPart x)) := by
  unfold partV
  have HL0 := hid hl
  have HBX := hid (row_new w (.cells #[.int .i64 x.kind, .string x.text, .int .i64 x.field, .int .i64 x.width, .int .i64 x.cls] 48))
  have HUP := hid (up_alloc w (.cells #[.int .i64 x.kind, .string x.text, .int .i64 x.field, .int .i64 x.width, .int .i64 x.cls] 48))
  have hgw := h.lt
  have hne : w.heap.size ≠ g := by omega
  have HW0 := hid (h.on HUP.out)
  obtain ⟨w0, hw0⟩ : ∃ w0, w0 = w.alloc (.cells #[.int .i64 x.kind, .string x.text, .int .i64 x.field, .int .i64 x.width, .int .i64 x.cls] 48) := ⟨_, rfl⟩
  have HB0 := hid (HUP.out.mono (Nat.le_of_lt hgw))
  have HK0 : Hid (Kept g w (w.alloc (.cells #[.int .i64 x.kind, .string x.text, .int .i64 x.field, .int .i64 x.width, .int .i64 x.cls] 48))) := hid (Kept.up HUP.out)
  rw [← hw0] at HBX HUP HW0 HB0 HK0
  have HKB0 := hid (Kept.refl g w0)
  clear h hl
  have c0 : w0.cell? ⟨w.heap.size, 0, none⟩ = some (.int .i64 x.kind) := by rw [cell_of_row _ _ _ _ _ _ HBX.out]; rfl
  have c1 : w0.cell? ⟨w.heap.size, 1, none⟩ = some (.string x.text) := by rw [cell_of_row _ _ _ _ _ _ HBX.out]; rfl
  have c2 : w0.cell? ⟨w.heap.size, 2, none⟩ = some (.int .i64 x.field) := by rw [cell_of_row _ _ _ _ _ _ HBX.out]; rfl
  have c3 : w0.cell? ⟨w.heap.size, 3, none⟩ = some (.int .i64 x.width) := by rw [cell_of_row _ _ _ _ _ _ HBX.out]; rfl
  have c4 : w0.cell? ⟨w.heap.size, 4, none⟩ = some (.int .i64 x.cls) := by rw [cell_of_row _ _ _ _ _ _ HBX.out]; rfl
  go_enter Tryz.func96, Tryz.ntmps96
  go_wp2_with fail
  rw [← hw0]
  clear hw0
  refine (number_any (x.kind) g _ w0 HW0.out (by have := HL0.out; unfold encPart at this; simp only [List.length_append] at this ⊢; (try simp only [numB_length] at this ⊢); omega)).mono ?_
  rintro e w1 ⟨rfl, hW, hb, hK⟩
  have HW1 := hid hW
  have HB1 := hid (HB0.out.trans hb)
  have HK1 := hid (HK0.out.trans hK)
  have HKB1 := hid (HKB0.out.trans hK)
  clear hW hb hK
  have hbx := HKB1.out w.heap.size _ _ _ hne (by decide) HBX.out
  have d0 : w1.cell? ⟨w.heap.size, 0, none⟩ = some (.int .i64 x.kind) := by rw [cell_of_row _ _ _ _ _ _ hbx]; rfl
  have d1 : w1.cell? ⟨w.heap.size, 1, none⟩ = some (.string x.text) := by rw [cell_of_row _ _ _ _ _ _ hbx]; rfl
  have d2 : w1.cell? ⟨w.heap.size, 2, none⟩ = some (.int .i64 x.field) := by rw [cell_of_row _ _ _ _ _ _ hbx]; rfl
  have d3 : w1.cell? ⟨w.heap.size, 3, none⟩ = some (.int .i64 x.width) := by rw [cell_of_row _ _ _ _ _ _ hbx]; rfl
  have d4 : w1.cell? ⟨w.heap.size, 4, none⟩ = some (.int .i64 x.cls) := by rw [cell_of_row _ _ _ _ _ _ hbx]; rfl
  clear hbx
  replace c0 := d0
  replace c1 := d1
  replace c2 := d2
  replace c3 := d3
  replace c4 := d4
  clear d0 d1 d2 d3 d4
  go_wp2_with fail
  refine (wtext_any x.text g _ w1 HW1.out (by have := HL0.out; unfold encPart at this; simp only [List.length_append] at this ⊢; (try simp only [numB_length] at this ⊢); omega)).mono ?_
  rintro e w2 ⟨rfl, hW, hb, hK⟩
  have HW2 := hid hW
  have HB2 := hid (HB1.out.trans hb)
  have HK2 := hid (HK1.out.trans hK)
  have HKB2 := hid (HKB1.out.trans hK)
  clear hW hb hK
  have hbx := HKB2.out w.heap.size _ _ _ hne (by decide) HBX.out
  have d0 : w2.cell? ⟨w.heap.size, 0, none⟩ = some (.int .i64 x.kind) := by rw [cell_of_row _ _ _ _ _ _ hbx]; rfl
  have d1 : w2.cell? ⟨w.heap.size, 1, none⟩ = some (.string x.text) := by rw [cell_of_row _ _ _ _ _ _ hbx]; rfl
  have d2 : w2.cell? ⟨w.heap.size, 2, none⟩ = some (.int .i64 x.field) := by rw [cell_of_row _ _ _ _ _ _ hbx]; rfl
  have d3 : w2.cell? ⟨w.heap.size, 3, none⟩ = some (.int .i64 x.width) := by rw [cell_of_row _ _ _ _ _ _ hbx]; rfl
  have d4 : w2.cell? ⟨w.heap.size, 4, none⟩ = some (.int .i64 x.cls) := by rw [cell_of_row _ _ _ _ _ _ hbx]; rfl
  clear hbx
  replace c0 := d0
  replace c1 := d1
  replace c2 := d2
  replace c3 := d3
  replace c4 := d4
  clear d0 d1 d2 d3 d4
  go_wp2_with fail
  refine (numbers_any [x.field, x.width, x.cls] w2.heap.size g _ (w2.alloc (.cells #[.int .i64 x.field, .int .i64 x.width, .int .i64 x.cls] 3)) (HW2.out.on (up_alloc _ _)) (row_new _ _) (by have := HW2.out.lt; omega) (by have := HL0.out; unfold encPart at this; simp only [List.length_append] at this ⊢; (try simp only [numB_length] at this ⊢); omega) (by simp)).mono ?_
  rintro e w3 ⟨rfl, hW, hb, hK⟩
  have hb := ((up_alloc w2 (.cells #[.int .i64 x.field, .int .i64 x.width, .int .i64 x.cls] 3)).mono (Nat.le_of_lt HW2.out.lt)).trans hb
  have hK := (Kept.up (up_alloc w2 (.cells #[.int .i64 x.field, .int .i64 x.width, .int .i64 x.cls] 3))).trans hK
  have HW3 := hid hW
  have HB3 := hid (HB2.out.trans hb)
  have HK3 := hid (HK2.out.trans hK)
  have HKB3 := hid (HKB2.out.trans hK)
  clear hW hb hK
  go_wp2
  go_end0
  exact ⟨rfl, by have := HW3.out; unfold encPart; simpa only [List.append_assoc] using this, HB3.out, HK3.out⟩

set_option maxRecDepth 8000 in
theorem put_Entry (xs : List Entry) (v : Value) (g : Nat) (bs : List Int) (w0 w : World) (h : Wr w g bs) (hw0 : w0.heap.size ≤ g) (hbw : Below w0.heap.size w0 w) (hx : EntriesAt w0 v xs) (hl : bs.length + (encEntries xs).length ≤ 900000) :
    Calls Tryz.prog 57 #[.pointer (some ⟨g, 0, none⟩), v, .func (.func 58) #[.pointer (some ⟨g, 0, none⟩)] #[]] w (Wrote g w (bs ++ encEntries xs)) := by
  have hl' := hl
  unfold encEntries at hl'
  rw [List.length_append, numB_length] at hl'
  obtain ⟨ad, cap, rfl, hmx, _, hc⟩ := hx
  have HC := hid hc
  have HNB := hid (number_any (xs.length : Int) g bs w h (by omega))
  have HL := hid hl'
  have HBW := hid hbw
  have hsg := hw0
  clear hc h hl hl' hbw
  generalize hlen : xs.length = n at *
  have HN := hid hlen
  clear hlen
  go_enter Tryz.func57, Tryz.ntmps57
  go_wp2_with fail
  refine HNB.out.mono ?_
  rintro e w1 ⟨rfl, hW, hb, hK⟩
  have HW1 := hid hW
  have HB1 := hid hb
  have HK1 := hid hK
  clear hW hb hK
  go_wp2
  go_loopw [14] (fun v wr => ∃ j : Nat, j ≤ n ∧ v = .int .i64 j ∧ Wr wr g (bs ++ numB (n : Int) ++ (xs.take j).flatMap encEntry) ∧ Below g w wr ∧ Kept g w wr) (fun v _ => n - (intOf v).toNat)
  case atStart => exact ⟨0, by omega, rfl, by simpa using HW1.out, HB1.out, HK1.out⟩
  case round =>
    obtain ⟨j, hj, rfl, hW, hb, hK⟩ := hrel
    by_cases hlt : j < n
    · have hlt2 : (j : Int) < (n : Int) := by omega
      have HX : Hid (xs[j]? = some (xs.getD j nilEntry)) := hid (Entry_at (by rw [HN.out]; exact hlt))
      have HLJ : Hid (bs.length + 8 + ((xs.take j).flatMap encEntry).length + (encEntry (xs.getD j nilEntry)).length ≤ 900000) := hid (by
        have h1 := HL.out
        have h2 := flatMap_take encEntry xs (j + 1)
        rw [flatMap_snoc encEntry xs j _ HX.out, List.length_append] at h2
        omega)
      have HBR := hid (HBW.out.trans (hb.mono hsg))
      obtain ⟨gx, ox, eg, hcj⟩ := HC.out j hlt
      generalize xs.getD j nilEntry = y at *
      subst eg
      obtain ⟨c0, c1, c2⟩ := hcj.on HBR.out
      have HW := hid hW
      have HB := hid hb
      have HK := hid hK
      have hgl := hW.lt
      clear hW hb hK
      go_wp2_with fail
      refine (wentry_any y g _ (wr.alloc (.cells #[.string y.text, .int .i64 y.cls, .int .i64 y.val] 46)) (HW.out.on (up_alloc _ _)) (by have := HLJ.out; simp only [List.length_append, numB_length]; omega)).mono ?_
      rintro e w2 ⟨rfl, hW, hb, hK⟩
      have HW2 := hid hW
      have HB2 := hid (HB.out.trans (((up_alloc wr (.cells #[.string y.text, .int .i64 y.cls, .int .i64 y.val] 46)).mono (Nat.le_of_lt hgl)).trans hb))
      have HK2 := hid (HK.out.trans ((Kept.up (up_alloc wr (.cells #[.string y.text, .int .i64 y.cls, .int .i64 y.val] 46))).trans hK))
      clear hW hb hK
      go_wp2
      go_roundw
      case rel => exact ⟨j + 1, by omega, by simp, by rw [flatMap_snoc encEntry xs j y HX.out, ← List.append_assoc]; exact HW2.out, HB2.out, HK2.out⟩
      case measure => simp [intOf]; omega
    · have hW' := hW
      rw [List.take_of_length_le (by rw [HN.out]; omega), List.append_assoc] at hW'
      have HW : Hid (Wr wr g (bs ++ encEntries xs)) := hid (by unfold encEntries; rw [HN.out]; exact hW')
      have HB := hid hb
      have HK := hid hK
      clear hW hb hK hW'
      obtain rfl : j = n := by omega
      go_wp2
      go_end0
      exact ⟨rfl, HW.out, HB.out, HK.out⟩

set_option maxRecDepth 8000 in
theorem put_Part (xs : List Part) (v : Value) (g : Nat) (bs : List Int) (w0 w : World) (h : Wr w g bs) (hw0 : w0.heap.size ≤ g) (hbw : Below w0.heap.size w0 w) (hx : PartsAt w0 v xs) (hl : bs.length + (encParts xs).length ≤ 900000) :
    Calls Tryz.prog 95 #[.pointer (some ⟨g, 0, none⟩), v, .func (.func 96) #[.pointer (some ⟨g, 0, none⟩)] #[]] w (Wrote g w (bs ++ encParts xs)) := by
  have hl' := hl
  unfold encParts at hl'
  rw [List.length_append, numB_length] at hl'
  obtain ⟨ad, cap, rfl, hmx, _, hc⟩ := hx
  have HC := hid hc
  have HNB := hid (number_any (xs.length : Int) g bs w h (by omega))
  have HL := hid hl'
  have HBW := hid hbw
  have hsg := hw0
  clear hc h hl hl' hbw
  generalize hlen : xs.length = n at *
  have HN := hid hlen
  clear hlen
  go_enter Tryz.func95, Tryz.ntmps95
  go_wp2_with fail
  refine HNB.out.mono ?_
  rintro e w1 ⟨rfl, hW, hb, hK⟩
  have HW1 := hid hW
  have HB1 := hid hb
  have HK1 := hid hK
  clear hW hb hK
  go_wp2
  go_loopw [14] (fun v wr => ∃ j : Nat, j ≤ n ∧ v = .int .i64 j ∧ Wr wr g (bs ++ numB (n : Int) ++ (xs.take j).flatMap encPart) ∧ Below g w wr ∧ Kept g w wr) (fun v _ => n - (intOf v).toNat)
  case atStart => exact ⟨0, by omega, rfl, by simpa using HW1.out, HB1.out, HK1.out⟩
  case round =>
    obtain ⟨j, hj, rfl, hW, hb, hK⟩ := hrel
    by_cases hlt : j < n
    · have hlt2 : (j : Int) < (n : Int) := by omega
      have HX : Hid (xs[j]? = some (xs.getD j nilPart)) := hid (Part_at (by rw [HN.out]; exact hlt))
      have HLJ : Hid (bs.length + 8 + ((xs.take j).flatMap encPart).length + (encPart (xs.getD j nilPart)).length ≤ 900000) := hid (by
        have h1 := HL.out
        have h2 := flatMap_take encPart xs (j + 1)
        rw [flatMap_snoc encPart xs j _ HX.out, List.length_append] at h2
        omega)
      have HBR := hid (HBW.out.trans (hb.mono hsg))
      obtain ⟨gx, ox, eg, hcj⟩ := HC.out j hlt
      generalize xs.getD j nilPart = y at *
      subst eg
      obtain ⟨c0, c1, c2, c3, c4⟩ := hcj.on HBR.out
      have HW := hid hW
      have HB := hid hb
      have HK := hid hK
      have hgl := hW.lt
      clear hW hb hK
      go_wp2_with fail
      refine (wpart_any y g _ (wr.alloc (.cells #[.int .i64 y.kind, .string y.text, .int .i64 y.field, .int .i64 y.width, .int .i64 y.cls] 48)) (HW.out.on (up_alloc _ _)) (by have := HLJ.out; simp only [List.length_append, numB_length]; omega)).mono ?_
      rintro e w2 ⟨rfl, hW, hb, hK⟩
      have HW2 := hid hW
      have HB2 := hid (HB.out.trans (((up_alloc wr (.cells #[.int .i64 y.kind, .string y.text, .int .i64 y.field, .int .i64 y.width, .int .i64 y.cls] 48)).mono (Nat.le_of_lt hgl)).trans hb))
      have HK2 := hid (HK.out.trans ((Kept.up (up_alloc wr (.cells #[.int .i64 y.kind, .string y.text, .int .i64 y.field, .int .i64 y.width, .int .i64 y.cls] 48))).trans hK))
      clear hW hb hK
      go_wp2
      go_roundw
      case rel => exact ⟨j + 1, by omega, by simp, by rw [flatMap_snoc encPart xs j y HX.out, ← List.append_assoc]; exact HW2.out, HB2.out, HK2.out⟩
      case measure => simp [intOf]; omega
    · have hW' := hW
      rw [List.take_of_length_le (by rw [HN.out]; omega), List.append_assoc] at hW'
      have HW : Hid (Wr wr g (bs ++ encParts xs)) := hid (by unfold encParts; rw [HN.out]; exact hW')
      have HB := hid hb
      have HK := hid hK
      clear hW hb hK hW'
      obtain rfl : j = n := by omega
      go_wp2
      go_end0
      exact ⟨rfl, HW.out, HB.out, HK.out⟩

set_option maxRecDepth 8000 in
theorem wstyle_any (x : Style) (v0 : Value) (g : Nat) (bs : List Int) (w : World) (h : Wr w g bs) (wd : World) (hwd : wd.heap.size ≤ g) (hbd : Below wd.heap.size wd w) (hp : PartsAt wd v0 x.parts) (hl : bs.length + (encStyle x).length ≤ 900000) :
    Calls Tryz.prog 62 #[.pointer (some ⟨g, 0, none⟩), styleV x v0] w (Wrote g w (bs ++ encStyle x)) := by
  unfold styleV
  have HPP := hid hp
  have HBD := hid hbd
  obtain ⟨adp, capp, ep, _⟩ := hp.shape
  subst ep
  clear hp hbd
  have HL0 := hid hl
  have HBX := hid (row_new w (.cells #[.int .i64 x.kind, .slice adp x.parts.length capp] 52))
  have HUP := hid (up_alloc w (.cells #[.int .i64 x.kind, .slice adp x.parts.length capp] 52))
  have hgw := h.lt
  have hne : w.heap.size ≠ g := by omega
  have HW0 := hid (h.on HUP.out)
  obtain ⟨w0, hw0⟩ : ∃ w0, w0 = w.alloc (.cells #[.int .i64 x.kind, .slice adp x.parts.length capp] 52) := ⟨_, rfl⟩
  have HB0 := hid (HUP.out.mono (Nat.le_of_lt hgw))
  have HK0 : Hid (Kept g w (w.alloc (.cells #[.int .i64 x.kind, .slice adp x.parts.length capp] 52))) := hid (Kept.up HUP.out)
  rw [← hw0] at HBX HUP HW0 HB0 HK0
  have HKB0 := hid (Kept.refl g w0)
  clear h hl
  have c0 : w0.cell? ⟨w.heap.size, 0, none⟩ = some (.int .i64 x.kind) := by rw [cell_of_row _ _ _ _ _ _ HBX.out]; rfl
  have c1 : w0.cell? ⟨w.heap.size, 1, none⟩ = some (.slice adp x.parts.length capp) := by rw [cell_of_row _ _ _ _ _ _ HBX.out]; rfl
  go_enter Tryz.func62, Tryz.ntmps62
  go_wp2_with fail
  rw [← hw0]
  clear hw0
  refine (number_any (x.kind) g _ w0 HW0.out (by have := HL0.out; unfold encStyle at this; simp only [List.length_append] at this ⊢; (try simp only [numB_length] at this ⊢); omega)).mono ?_
  rintro e w1 ⟨rfl, hW, hb, hK⟩
  have HW1 := hid hW
  have HB1 := hid (HB0.out.trans hb)
  have HK1 := hid (HK0.out.trans hK)
  have HKB1 := hid (HKB0.out.trans hK)
  clear hW hb hK
  have hbx := HKB1.out w.heap.size _ _ _ hne (by decide) HBX.out
  have d0 : w1.cell? ⟨w.heap.size, 0, none⟩ = some (.int .i64 x.kind) := by rw [cell_of_row _ _ _ _ _ _ hbx]; rfl
  have d1 : w1.cell? ⟨w.heap.size, 1, none⟩ = some (.slice adp x.parts.length capp) := by rw [cell_of_row _ _ _ _ _ _ hbx]; rfl
  clear hbx
  replace c0 := d0
  replace c1 := d1
  clear d0 d1
  go_wp2_with fail
  refine (put_Part x.parts _ g _ wd w1 HW1.out hwd (HBD.out.trans (HB1.out.mono hwd)) HPP.out (by have := HL0.out; unfold encStyle at this; simp only [List.length_append] at this ⊢; (try simp only [numB_length] at this ⊢); omega)).mono ?_
  rintro e w2 ⟨rfl, hW, hb, hK⟩
  have HW2 := hid hW
  have HB2 := hid (HB1.out.trans hb)
  have HK2 := hid (HK1.out.trans hK)
  have HKB2 := hid (HKB1.out.trans hK)
  clear hW hb hK
  go_wp2
  go_end0
  exact ⟨rfl, by have := HW2.out; unfold encStyle; simpa only [List.append_assoc] using this, HB2.out, HK2.out⟩

set_option maxRecDepth 8000 in
theorem put_Style (xs : List Style) (v : Value) (g : Nat) (bs : List Int) (w0 w : World) (h : Wr w g bs) (hw0 : w0.heap.size ≤ g) (hbw : Below w0.heap.size w0 w) (hx : StylesAt w0 v xs) (hl : bs.length + (encStyles xs).length ≤ 900000) :
    Calls Tryz.prog 61 #[.pointer (some ⟨g, 0, none⟩), v, .func (.func 62) #[.pointer (some ⟨g, 0, none⟩)] #[]] w (Wrote g w (bs ++ encStyles xs)) := by
  have hl' := hl
  unfold encStyles at hl'
  rw [List.length_append, numB_length] at hl'
  obtain ⟨ad, cap, rfl, hmx, _, hc⟩ := hx
  have HC := hid hc
  have HNB := hid (number_any (xs.length : Int) g bs w h (by omega))
  have HL := hid hl'
  have HBW := hid hbw
  have hsg := hw0
  clear hc h hl hl' hbw
  generalize hlen : xs.length = n at *
  have HN := hid hlen
  clear hlen
  go_enter Tryz.func61, Tryz.ntmps61
  go_wp2_with fail
  refine HNB.out.mono ?_
  rintro e w1 ⟨rfl, hW, hb, hK⟩
  have HW1 := hid hW
  have HB1 := hid hb
  have HK1 := hid hK
  clear hW hb hK
  go_wp2
  go_loopw [14] (fun v wr => ∃ j : Nat, j ≤ n ∧ v = .int .i64 j ∧ Wr wr g (bs ++ numB (n : Int) ++ (xs.take j).flatMap encStyle) ∧ Below g w wr ∧ Kept g w wr) (fun v _ => n - (intOf v).toNat)
  case atStart => exact ⟨0, by omega, rfl, by simpa using HW1.out, HB1.out, HK1.out⟩
  case round =>
    obtain ⟨j, hj, rfl, hW, hb, hK⟩ := hrel
    by_cases hlt : j < n
    · have hlt2 : (j : Int) < (n : Int) := by omega
      have HX : Hid (xs[j]? = some (xs.getD j nilStyle)) := hid (Style_at (by rw [HN.out]; exact hlt))
      have HLJ : Hid (bs.length + 8 + ((xs.take j).flatMap encStyle).length + (encStyle (xs.getD j nilStyle)).length ≤ 900000) := hid (by
        have h1 := HL.out
        have h2 := flatMap_take encStyle xs (j + 1)
        rw [flatMap_snoc encStyle xs j _ HX.out, List.length_append] at h2
        omega)
      have HBR := hid (HBW.out.trans (hb.mono hsg))
      obtain ⟨gx, ox, eg, hcj⟩ := HC.out j hlt
      generalize xs.getD j nilStyle = y at *
      subst eg
      obtain ⟨v0, c0, c1, q0⟩ := hcj.on HBR.out
      obtain ⟨v0', d0, d1, qq⟩ := hcj
      obtain rfl : v0' = v0 := Option.some.inj (((HBR.out.cell (lt_of_cell d1)).trans d1).symm.trans c1)
      have HQQ := hid qq
      obtain ⟨ad0, cap0, eq0, _⟩ := qq.shape
      subst eq0
      clear qq q0 d0 d1
      have HW := hid hW
      have HB := hid hb
      have HK := hid hK
      have hgl := hW.lt
      clear hW hb hK
      go_wp2_with fail
      refine (wstyle_any y _ g _ (wr.alloc (.cells #[.int .i64 y.kind, .slice ad0 y.parts.length cap0] 52)) (HW.out.on (up_alloc _ _)) w0 hsg (HBR.out.trans ((up_alloc _ _).mono (Nat.le_trans hsg (Nat.le_of_lt hgl)))) HQQ.out (by have := HLJ.out; simp only [List.length_append, numB_length]; omega)).mono ?_
      rintro e w2 ⟨rfl, hW, hb, hK⟩
      have HW2 := hid hW
      have HB2 := hid (HB.out.trans (((up_alloc wr (.cells #[.int .i64 y.kind, .slice ad0 y.parts.length cap0] 52)).mono (Nat.le_of_lt hgl)).trans hb))
      have HK2 := hid (HK.out.trans ((Kept.up (up_alloc wr (.cells #[.int .i64 y.kind, .slice ad0 y.parts.length cap0] 52))).trans hK))
      clear hW hb hK
      go_wp2
      go_roundw
      case rel => exact ⟨j + 1, by omega, by simp, by rw [flatMap_snoc encStyle xs j y HX.out, ← List.append_assoc]; exact HW2.out, HB2.out, HK2.out⟩
      case measure => simp [intOf]; omega
    · have hW' := hW
      rw [List.take_of_length_le (by rw [HN.out]; omega), List.append_assoc] at hW'
      have HW : Hid (Wr wr g (bs ++ encStyles xs)) := hid (by unfold encStyles; rw [HN.out]; exact hW')
      have HB := hid hb
      have HK := hid hK
      clear hW hb hK hW'
      obtain rfl : j = n := by omega
      go_wp2
      go_end0
      exact ⟨rfl, HW.out, HB.out, HK.out⟩

set_option maxRecDepth 8000 in
theorem wrule_any (x : Rule) (v0 v1 : Value) (g : Nat) (bs : List Int) (w : World) (h : Wr w g bs) (wd : World) (hwd : wd.heap.size ≤ g) (hbd : Below wd.heap.size wd w) (hp0 : Row wd v0 x.rhs) (hp1 : Row wd v1 x.p) (hl : bs.length + (encRule x).length ≤ 900000) :
    Calls Tryz.prog 60 #[.pointer (some ⟨g, 0, none⟩), ruleV x v0 v1] w (Wrote g w (bs ++ encRule x)) := by
  unfold ruleV
  have HPP := hid (And.intro hp0 hp1)
  have HBD := hid hbd
  obtain ⟨adp0, capp0, ep0, _⟩ := hp0
  obtain ⟨adp1, capp1, ep1, _⟩ := hp1
  subst ep0 ep1
  clear hbd
  have HL0 := hid hl
  have HBX := hid (row_new w (.cells #[.int .i64 x.lhs, .slice adp0 x.rhs.length capp0, .int .i64 x.op, .slice adp1 x.p.length capp1, .int .i64 x.cost] 56))
  have HUP := hid (up_alloc w (.cells #[.int .i64 x.lhs, .slice adp0 x.rhs.length capp0, .int .i64 x.op, .slice adp1 x.p.length capp1, .int .i64 x.cost] 56))
  have hgw := h.lt
  have hne : w.heap.size ≠ g := by omega
  have HW0 := hid (h.on HUP.out)
  obtain ⟨w0, hw0⟩ : ∃ w0, w0 = w.alloc (.cells #[.int .i64 x.lhs, .slice adp0 x.rhs.length capp0, .int .i64 x.op, .slice adp1 x.p.length capp1, .int .i64 x.cost] 56) := ⟨_, rfl⟩
  have HB0 := hid (HUP.out.mono (Nat.le_of_lt hgw))
  have HK0 : Hid (Kept g w (w.alloc (.cells #[.int .i64 x.lhs, .slice adp0 x.rhs.length capp0, .int .i64 x.op, .slice adp1 x.p.length capp1, .int .i64 x.cost] 56))) := hid (Kept.up HUP.out)
  rw [← hw0] at HBX HUP HW0 HB0 HK0
  have HKB0 := hid (Kept.refl g w0)
  clear h hl
  have c0 : w0.cell? ⟨w.heap.size, 0, none⟩ = some (.int .i64 x.lhs) := by rw [cell_of_row _ _ _ _ _ _ HBX.out]; rfl
  have c1 : w0.cell? ⟨w.heap.size, 1, none⟩ = some (.slice adp0 x.rhs.length capp0) := by rw [cell_of_row _ _ _ _ _ _ HBX.out]; rfl
  have c2 : w0.cell? ⟨w.heap.size, 2, none⟩ = some (.int .i64 x.op) := by rw [cell_of_row _ _ _ _ _ _ HBX.out]; rfl
  have c3 : w0.cell? ⟨w.heap.size, 3, none⟩ = some (.slice adp1 x.p.length capp1) := by rw [cell_of_row _ _ _ _ _ _ HBX.out]; rfl
  have c4 : w0.cell? ⟨w.heap.size, 4, none⟩ = some (.int .i64 x.cost) := by rw [cell_of_row _ _ _ _ _ _ HBX.out]; rfl
  go_enter Tryz.func60, Tryz.ntmps60
  go_wp2_with fail
  rw [← hw0]
  clear hw0
  refine (number_any (x.lhs) g _ w0 HW0.out (by have := HL0.out; unfold encRule at this; simp only [List.length_append] at this ⊢; (try simp only [numB_length] at this ⊢); omega)).mono ?_
  rintro e w1 ⟨rfl, hW, hb, hK⟩
  have HW1 := hid hW
  have HB1 := hid (HB0.out.trans hb)
  have HK1 := hid (HK0.out.trans hK)
  have HKB1 := hid (HKB0.out.trans hK)
  clear hW hb hK
  have hbx := HKB1.out w.heap.size _ _ _ hne (by decide) HBX.out
  have d0 : w1.cell? ⟨w.heap.size, 0, none⟩ = some (.int .i64 x.lhs) := by rw [cell_of_row _ _ _ _ _ _ hbx]; rfl
  have d1 : w1.cell? ⟨w.heap.size, 1, none⟩ = some (.slice adp0 x.rhs.length capp0) := by rw [cell_of_row _ _ _ _ _ _ hbx]; rfl
  have d2 : w1.cell? ⟨w.heap.size, 2, none⟩ = some (.int .i64 x.op) := by rw [cell_of_row _ _ _ _ _ _ hbx]; rfl
  have d3 : w1.cell? ⟨w.heap.size, 3, none⟩ = some (.slice adp1 x.p.length capp1) := by rw [cell_of_row _ _ _ _ _ _ hbx]; rfl
  have d4 : w1.cell? ⟨w.heap.size, 4, none⟩ = some (.int .i64 x.cost) := by rw [cell_of_row _ _ _ _ _ _ hbx]; rfl
  clear hbx
  replace c0 := d0
  replace c1 := d1
  replace c2 := d2
  replace c3 := d3
  replace c4 := d4
  clear d0 d1 d2 d3 d4
  go_wp2_with fail
  refine (put_int x.rhs _ g _ wd w1 HW1.out hwd (HBD.out.trans (HB1.out.mono hwd)) HPP.out.1 (by have := HL0.out; unfold encRule at this; simp only [List.length_append] at this ⊢; (try simp only [numB_length] at this ⊢); omega)).mono ?_
  rintro e w2 ⟨rfl, hW, hb, hK⟩
  have HW2 := hid hW
  have HB2 := hid (HB1.out.trans hb)
  have HK2 := hid (HK1.out.trans hK)
  have HKB2 := hid (HKB1.out.trans hK)
  clear hW hb hK
  have hbx := HKB2.out w.heap.size _ _ _ hne (by decide) HBX.out
  have d0 : w2.cell? ⟨w.heap.size, 0, none⟩ = some (.int .i64 x.lhs) := by rw [cell_of_row _ _ _ _ _ _ hbx]; rfl
  have d1 : w2.cell? ⟨w.heap.size, 1, none⟩ = some (.slice adp0 x.rhs.length capp0) := by rw [cell_of_row _ _ _ _ _ _ hbx]; rfl
  have d2 : w2.cell? ⟨w.heap.size, 2, none⟩ = some (.int .i64 x.op) := by rw [cell_of_row _ _ _ _ _ _ hbx]; rfl
  have d3 : w2.cell? ⟨w.heap.size, 3, none⟩ = some (.slice adp1 x.p.length capp1) := by rw [cell_of_row _ _ _ _ _ _ hbx]; rfl
  have d4 : w2.cell? ⟨w.heap.size, 4, none⟩ = some (.int .i64 x.cost) := by rw [cell_of_row _ _ _ _ _ _ hbx]; rfl
  clear hbx
  replace c0 := d0
  replace c1 := d1
  replace c2 := d2
  replace c3 := d3
  replace c4 := d4
  clear d0 d1 d2 d3 d4
  go_wp2_with fail
  refine (number_any (x.op) g _ w2 HW2.out (by have := HL0.out; unfold encRule at this; simp only [List.length_append] at this ⊢; (try simp only [numB_length] at this ⊢); omega)).mono ?_
  rintro e w3 ⟨rfl, hW, hb, hK⟩
  have HW3 := hid hW
  have HB3 := hid (HB2.out.trans hb)
  have HK3 := hid (HK2.out.trans hK)
  have HKB3 := hid (HKB2.out.trans hK)
  clear hW hb hK
  have hbx := HKB3.out w.heap.size _ _ _ hne (by decide) HBX.out
  have d0 : w3.cell? ⟨w.heap.size, 0, none⟩ = some (.int .i64 x.lhs) := by rw [cell_of_row _ _ _ _ _ _ hbx]; rfl
  have d1 : w3.cell? ⟨w.heap.size, 1, none⟩ = some (.slice adp0 x.rhs.length capp0) := by rw [cell_of_row _ _ _ _ _ _ hbx]; rfl
  have d2 : w3.cell? ⟨w.heap.size, 2, none⟩ = some (.int .i64 x.op) := by rw [cell_of_row _ _ _ _ _ _ hbx]; rfl
  have d3 : w3.cell? ⟨w.heap.size, 3, none⟩ = some (.slice adp1 x.p.length capp1) := by rw [cell_of_row _ _ _ _ _ _ hbx]; rfl
  have d4 : w3.cell? ⟨w.heap.size, 4, none⟩ = some (.int .i64 x.cost) := by rw [cell_of_row _ _ _ _ _ _ hbx]; rfl
  clear hbx
  replace c0 := d0
  replace c1 := d1
  replace c2 := d2
  replace c3 := d3
  replace c4 := d4
  clear d0 d1 d2 d3 d4
  go_wp2_with fail
  refine (put_int x.p _ g _ wd w3 HW3.out hwd (HBD.out.trans (HB3.out.mono hwd)) HPP.out.2 (by have := HL0.out; unfold encRule at this; simp only [List.length_append] at this ⊢; (try simp only [numB_length] at this ⊢); omega)).mono ?_
  rintro e w4 ⟨rfl, hW, hb, hK⟩
  have HW4 := hid hW
  have HB4 := hid (HB3.out.trans hb)
  have HK4 := hid (HK3.out.trans hK)
  have HKB4 := hid (HKB3.out.trans hK)
  clear hW hb hK
  have hbx := HKB4.out w.heap.size _ _ _ hne (by decide) HBX.out
  have d0 : w4.cell? ⟨w.heap.size, 0, none⟩ = some (.int .i64 x.lhs) := by rw [cell_of_row _ _ _ _ _ _ hbx]; rfl
  have d1 : w4.cell? ⟨w.heap.size, 1, none⟩ = some (.slice adp0 x.rhs.length capp0) := by rw [cell_of_row _ _ _ _ _ _ hbx]; rfl
  have d2 : w4.cell? ⟨w.heap.size, 2, none⟩ = some (.int .i64 x.op) := by rw [cell_of_row _ _ _ _ _ _ hbx]; rfl
  have d3 : w4.cell? ⟨w.heap.size, 3, none⟩ = some (.slice adp1 x.p.length capp1) := by rw [cell_of_row _ _ _ _ _ _ hbx]; rfl
  have d4 : w4.cell? ⟨w.heap.size, 4, none⟩ = some (.int .i64 x.cost) := by rw [cell_of_row _ _ _ _ _ _ hbx]; rfl
  clear hbx
  replace c0 := d0
  replace c1 := d1
  replace c2 := d2
  replace c3 := d3
  replace c4 := d4
  clear d0 d1 d2 d3 d4
  go_wp2_with fail
  refine (number_any (x.cost) g _ w4 HW4.out (by have := HL0.out; unfold encRule at this; simp only [List.length_append] at this ⊢; (try simp only [numB_length] at this ⊢); omega)).mono ?_
  rintro e w5 ⟨rfl, hW, hb, hK⟩
  have HW5 := hid hW
  have HB5 := hid (HB4.out.trans hb)
  have HK5 := hid (HK4.out.trans hK)
  have HKB5 := hid (HKB4.out.trans hK)
  clear hW hb hK
  go_wp2
  go_end0
  exact ⟨rfl, by have := HW5.out; unfold encRule; simpa only [List.append_assoc] using this, HB5.out, HK5.out⟩

set_option maxRecDepth 8000 in
theorem put_Rule (xs : List Rule) (v : Value) (g : Nat) (bs : List Int) (w0 w : World) (h : Wr w g bs) (hw0 : w0.heap.size ≤ g) (hbw : Below w0.heap.size w0 w) (hx : RulesOk w0 v xs) (hl : bs.length + (encRules xs).length ≤ 900000) :
    Calls Tryz.prog 59 #[.pointer (some ⟨g, 0, none⟩), v, .func (.func 60) #[.pointer (some ⟨g, 0, none⟩)] #[]] w (Wrote g w (bs ++ encRules xs)) := by
  have hl' := hl
  unfold encRules at hl'
  rw [List.length_append, numB_length] at hl'
  obtain ⟨⟨ad, cap, rfl, hmx, hc⟩, _⟩ := hx
  have HC := hid hc
  have HNB := hid (number_any (xs.length : Int) g bs w h (by omega))
  have HL := hid hl'
  have HBW := hid hbw
  have hsg := hw0
  clear hc h hl hl' hbw
  generalize hlen : xs.length = n at *
  have HN := hid hlen
  clear hlen
  go_enter Tryz.func59, Tryz.ntmps59
  go_wp2_with fail
  refine HNB.out.mono ?_
  rintro e w1 ⟨rfl, hW, hb, hK⟩
  have HW1 := hid hW
  have HB1 := hid hb
  have HK1 := hid hK
  clear hW hb hK
  go_wp2
  go_loopw [14] (fun v wr => ∃ j : Nat, j ≤ n ∧ v = .int .i64 j ∧ Wr wr g (bs ++ numB (n : Int) ++ (xs.take j).flatMap encRule) ∧ Below g w wr ∧ Kept g w wr) (fun v _ => n - (intOf v).toNat)
  case atStart => exact ⟨0, by omega, rfl, by simpa using HW1.out, HB1.out, HK1.out⟩
  case round =>
    obtain ⟨j, hj, rfl, hW, hb, hK⟩ := hrel
    by_cases hlt : j < n
    · have hlt2 : (j : Int) < (n : Int) := by omega
      have HX : Hid (xs[j]? = some (xs.getD j nilRule)) := hid (rule_at (by rw [HN.out]; exact hlt))
      have HLJ : Hid (bs.length + 8 + ((xs.take j).flatMap encRule).length + (encRule (xs.getD j nilRule)).length ≤ 900000) := hid (by
        have h1 := HL.out
        have h2 := flatMap_take encRule xs (j + 1)
        rw [flatMap_snoc encRule xs j _ HX.out, List.length_append] at h2
        omega)
      have HBR := hid (HBW.out.trans (hb.mono hsg))
      obtain ⟨gx, ox, eg, hcj⟩ := HC.out j hlt
      generalize xs.getD j nilRule = y at *
      subst eg
      obtain ⟨v0, v1, c0, c1, c2, c3, c4, q0, q1⟩ := hcj.on HBR.out
      obtain ⟨v0', v1', d0, d1, d2, d3, d4, qq0, qq1⟩ := hcj
      obtain rfl : v0' = v0 := Option.some.inj (((HBR.out.cell (lt_of_cell d1)).trans d1).symm.trans c1)
      obtain rfl : v1' = v1 := Option.some.inj (((HBR.out.cell (lt_of_cell d3)).trans d3).symm.trans c3)
      have HQQ := hid (And.intro qq0 qq1)
      obtain ⟨ad0, cap0, eq0, _⟩ := qq0
      obtain ⟨ad1, cap1, eq1, _⟩ := qq1
      subst eq0 eq1
      clear q0 q1 d0 d1 d2 d3 d4
      have HW := hid hW
      have HB := hid hb
      have HK := hid hK
      have hgl := hW.lt
      clear hW hb hK
      go_wp2_with fail
      refine (wrule_any y _ _ g _ (wr.alloc (.cells #[.int .i64 y.lhs, .slice ad0 y.rhs.length cap0, .int .i64 y.op, .slice ad1 y.p.length cap1, .int .i64 y.cost] 56)) (HW.out.on (up_alloc _ _)) w0 hsg (HBR.out.trans ((up_alloc _ _).mono (Nat.le_trans hsg (Nat.le_of_lt hgl)))) HQQ.out.1 HQQ.out.2 (by have := HLJ.out; simp only [List.length_append, numB_length]; omega)).mono ?_
      rintro e w2 ⟨rfl, hW, hb, hK⟩
      have HW2 := hid hW
      have HB2 := hid (HB.out.trans (((up_alloc wr (.cells #[.int .i64 y.lhs, .slice ad0 y.rhs.length cap0, .int .i64 y.op, .slice ad1 y.p.length cap1, .int .i64 y.cost] 56)).mono (Nat.le_of_lt hgl)).trans hb))
      have HK2 := hid (HK.out.trans ((Kept.up (up_alloc wr (.cells #[.int .i64 y.lhs, .slice ad0 y.rhs.length cap0, .int .i64 y.op, .slice ad1 y.p.length cap1, .int .i64 y.cost] 56))).trans hK))
      clear hW hb hK
      go_wp2
      go_roundw
      case rel => exact ⟨j + 1, by omega, by simp, by rw [flatMap_snoc encRule xs j y HX.out, ← List.append_assoc]; exact HW2.out, HB2.out, HK2.out⟩
      case measure => simp [intOf]; omega
    · have hW' := hW
      rw [List.take_of_length_le (by rw [HN.out]; omega), List.append_assoc] at hW'
      have HW : Hid (Wr wr g (bs ++ encRules xs)) := hid (by unfold encRules; rw [HN.out]; exact hW')
      have HB := hid hb
      have HK := hid hK
      clear hW hb hK hW'
      obtain rfl : j = n := by omega
      go_wp2
      go_end0
      exact ⟨rfl, HW.out, HB.out, HK.out⟩

set_option maxRecDepth 8000 in
theorem wlocale_any (x : Locale) (v0 v1 v2 : Value) (g : Nat) (bs : List Int) (w : World) (h : Wr w g bs) (wd : World) (hwd : wd.heap.size ≤ g) (hbd : Below wd.heap.size wd w) (hp : LocaleAt wd x v0 v1 v2) (hl : bs.length + (encLocale x).length ≤ 900000) :
    Calls Tryz.prog 34 #[.pointer (some ⟨g, 0, none⟩), localeV x v0 v1 v2] w (Wrote g w (bs ++ encLocale x)) := by
  unfold localeV
  have HPP := hid hp
  have HBD := hid hbd
  obtain ⟨adp0, capp0, ep0, _⟩ := hp.1.shape
  obtain ⟨adp1, capp1, ep1, _⟩ := hp.2.1.shape
  obtain ⟨adp2, capp2, ep2, _⟩ := hp.2.2.shape
  subst ep0 ep1 ep2
  clear hp hbd
  have HL0 := hid hl
  have HBX := hid (row_new w (.cells #[.string x.id, .int .i64 x.parent, .int .i64 x.digits, .slice adp0 x.lex.length capp0, .slice adp1 x.rules.length capp1, .slice adp2 x.styles.length capp2] 44))
  have HUP := hid (up_alloc w (.cells #[.string x.id, .int .i64 x.parent, .int .i64 x.digits, .slice adp0 x.lex.length capp0, .slice adp1 x.rules.length capp1, .slice adp2 x.styles.length capp2] 44))
  have hgw := h.lt
  have hne : w.heap.size ≠ g := by omega
  have HW0 := hid (h.on HUP.out)
  obtain ⟨w0, hw0⟩ : ∃ w0, w0 = w.alloc (.cells #[.string x.id, .int .i64 x.parent, .int .i64 x.digits, .slice adp0 x.lex.length capp0, .slice adp1 x.rules.length capp1, .slice adp2 x.styles.length capp2] 44) := ⟨_, rfl⟩
  have HB0 := hid (HUP.out.mono (Nat.le_of_lt hgw))
  have HK0 : Hid (Kept g w (w.alloc (.cells #[.string x.id, .int .i64 x.parent, .int .i64 x.digits, .slice adp0 x.lex.length capp0, .slice adp1 x.rules.length capp1, .slice adp2 x.styles.length capp2] 44))) := hid (Kept.up HUP.out)
  rw [← hw0] at HBX HUP HW0 HB0 HK0
  have HKB0 := hid (Kept.refl g w0)
  clear h hl
  have c0 : w0.cell? ⟨w.heap.size, 0, none⟩ = some (.string x.id) := by rw [cell_of_row _ _ _ _ _ _ HBX.out]; rfl
  have c1 : w0.cell? ⟨w.heap.size, 1, none⟩ = some (.int .i64 x.parent) := by rw [cell_of_row _ _ _ _ _ _ HBX.out]; rfl
  have c2 : w0.cell? ⟨w.heap.size, 2, none⟩ = some (.int .i64 x.digits) := by rw [cell_of_row _ _ _ _ _ _ HBX.out]; rfl
  have c3 : w0.cell? ⟨w.heap.size, 3, none⟩ = some (.slice adp0 x.lex.length capp0) := by rw [cell_of_row _ _ _ _ _ _ HBX.out]; rfl
  have c4 : w0.cell? ⟨w.heap.size, 4, none⟩ = some (.slice adp1 x.rules.length capp1) := by rw [cell_of_row _ _ _ _ _ _ HBX.out]; rfl
  have c5 : w0.cell? ⟨w.heap.size, 5, none⟩ = some (.slice adp2 x.styles.length capp2) := by rw [cell_of_row _ _ _ _ _ _ HBX.out]; rfl
  go_enter Tryz.func34, Tryz.ntmps34
  go_wp2_with fail
  rw [← hw0]
  clear hw0
  refine (wtext_any x.id g _ w0 HW0.out (by have := HL0.out; unfold encLocale at this; simp only [List.length_append] at this ⊢; (try simp only [numB_length] at this ⊢); omega)).mono ?_
  rintro e w1 ⟨rfl, hW, hb, hK⟩
  have HW1 := hid hW
  have HB1 := hid (HB0.out.trans hb)
  have HK1 := hid (HK0.out.trans hK)
  have HKB1 := hid (HKB0.out.trans hK)
  clear hW hb hK
  have hbx := HKB1.out w.heap.size _ _ _ hne (by decide) HBX.out
  have d0 : w1.cell? ⟨w.heap.size, 0, none⟩ = some (.string x.id) := by rw [cell_of_row _ _ _ _ _ _ hbx]; rfl
  have d1 : w1.cell? ⟨w.heap.size, 1, none⟩ = some (.int .i64 x.parent) := by rw [cell_of_row _ _ _ _ _ _ hbx]; rfl
  have d2 : w1.cell? ⟨w.heap.size, 2, none⟩ = some (.int .i64 x.digits) := by rw [cell_of_row _ _ _ _ _ _ hbx]; rfl
  have d3 : w1.cell? ⟨w.heap.size, 3, none⟩ = some (.slice adp0 x.lex.length capp0) := by rw [cell_of_row _ _ _ _ _ _ hbx]; rfl
  have d4 : w1.cell? ⟨w.heap.size, 4, none⟩ = some (.slice adp1 x.rules.length capp1) := by rw [cell_of_row _ _ _ _ _ _ hbx]; rfl
  have d5 : w1.cell? ⟨w.heap.size, 5, none⟩ = some (.slice adp2 x.styles.length capp2) := by rw [cell_of_row _ _ _ _ _ _ hbx]; rfl
  clear hbx
  replace c0 := d0
  replace c1 := d1
  replace c2 := d2
  replace c3 := d3
  replace c4 := d4
  replace c5 := d5
  clear d0 d1 d2 d3 d4 d5
  go_wp2_with fail
  refine (numbers_any [x.parent, x.digits] w1.heap.size g _ (w1.alloc (.cells #[.int .i64 x.parent, .int .i64 x.digits] 3)) (HW1.out.on (up_alloc _ _)) (row_new _ _) (by have := HW1.out.lt; omega) (by have := HL0.out; unfold encLocale at this; simp only [List.length_append] at this ⊢; (try simp only [numB_length] at this ⊢); omega) (by simp)).mono ?_
  rintro e w2 ⟨rfl, hW, hb, hK⟩
  have hb := ((up_alloc w1 (.cells #[.int .i64 x.parent, .int .i64 x.digits] 3)).mono (Nat.le_of_lt HW1.out.lt)).trans hb
  have hK := (Kept.up (up_alloc w1 (.cells #[.int .i64 x.parent, .int .i64 x.digits] 3))).trans hK
  have HW2 := hid hW
  have HB2 := hid (HB1.out.trans hb)
  have HK2 := hid (HK1.out.trans hK)
  have HKB2 := hid (HKB1.out.trans hK)
  clear hW hb hK
  have hbx := HKB2.out w.heap.size _ _ _ hne (by decide) HBX.out
  have d0 : w2.cell? ⟨w.heap.size, 0, none⟩ = some (.string x.id) := by rw [cell_of_row _ _ _ _ _ _ hbx]; rfl
  have d1 : w2.cell? ⟨w.heap.size, 1, none⟩ = some (.int .i64 x.parent) := by rw [cell_of_row _ _ _ _ _ _ hbx]; rfl
  have d2 : w2.cell? ⟨w.heap.size, 2, none⟩ = some (.int .i64 x.digits) := by rw [cell_of_row _ _ _ _ _ _ hbx]; rfl
  have d3 : w2.cell? ⟨w.heap.size, 3, none⟩ = some (.slice adp0 x.lex.length capp0) := by rw [cell_of_row _ _ _ _ _ _ hbx]; rfl
  have d4 : w2.cell? ⟨w.heap.size, 4, none⟩ = some (.slice adp1 x.rules.length capp1) := by rw [cell_of_row _ _ _ _ _ _ hbx]; rfl
  have d5 : w2.cell? ⟨w.heap.size, 5, none⟩ = some (.slice adp2 x.styles.length capp2) := by rw [cell_of_row _ _ _ _ _ _ hbx]; rfl
  clear hbx
  replace c0 := d0
  replace c1 := d1
  replace c2 := d2
  replace c3 := d3
  replace c4 := d4
  replace c5 := d5
  clear d0 d1 d2 d3 d4 d5
  go_wp2_with fail
  refine (put_Entry x.lex _ g _ wd w2 HW2.out hwd (HBD.out.trans (HB2.out.mono hwd)) HPP.out.1 (by have := HL0.out; unfold encLocale at this; simp only [List.length_append] at this ⊢; (try simp only [numB_length] at this ⊢); omega)).mono ?_
  rintro e w3 ⟨rfl, hW, hb, hK⟩
  have HW3 := hid hW
  have HB3 := hid (HB2.out.trans hb)
  have HK3 := hid (HK2.out.trans hK)
  have HKB3 := hid (HKB2.out.trans hK)
  clear hW hb hK
  have hbx := HKB3.out w.heap.size _ _ _ hne (by decide) HBX.out
  have d0 : w3.cell? ⟨w.heap.size, 0, none⟩ = some (.string x.id) := by rw [cell_of_row _ _ _ _ _ _ hbx]; rfl
  have d1 : w3.cell? ⟨w.heap.size, 1, none⟩ = some (.int .i64 x.parent) := by rw [cell_of_row _ _ _ _ _ _ hbx]; rfl
  have d2 : w3.cell? ⟨w.heap.size, 2, none⟩ = some (.int .i64 x.digits) := by rw [cell_of_row _ _ _ _ _ _ hbx]; rfl
  have d3 : w3.cell? ⟨w.heap.size, 3, none⟩ = some (.slice adp0 x.lex.length capp0) := by rw [cell_of_row _ _ _ _ _ _ hbx]; rfl
  have d4 : w3.cell? ⟨w.heap.size, 4, none⟩ = some (.slice adp1 x.rules.length capp1) := by rw [cell_of_row _ _ _ _ _ _ hbx]; rfl
  have d5 : w3.cell? ⟨w.heap.size, 5, none⟩ = some (.slice adp2 x.styles.length capp2) := by rw [cell_of_row _ _ _ _ _ _ hbx]; rfl
  clear hbx
  replace c0 := d0
  replace c1 := d1
  replace c2 := d2
  replace c3 := d3
  replace c4 := d4
  replace c5 := d5
  clear d0 d1 d2 d3 d4 d5
  go_wp2_with fail
  refine (put_Rule x.rules _ g _ wd w3 HW3.out hwd (HBD.out.trans (HB3.out.mono hwd)) HPP.out.2.1 (by have := HL0.out; unfold encLocale at this; simp only [List.length_append] at this ⊢; (try simp only [numB_length] at this ⊢); omega)).mono ?_
  rintro e w4 ⟨rfl, hW, hb, hK⟩
  have HW4 := hid hW
  have HB4 := hid (HB3.out.trans hb)
  have HK4 := hid (HK3.out.trans hK)
  have HKB4 := hid (HKB3.out.trans hK)
  clear hW hb hK
  have hbx := HKB4.out w.heap.size _ _ _ hne (by decide) HBX.out
  have d0 : w4.cell? ⟨w.heap.size, 0, none⟩ = some (.string x.id) := by rw [cell_of_row _ _ _ _ _ _ hbx]; rfl
  have d1 : w4.cell? ⟨w.heap.size, 1, none⟩ = some (.int .i64 x.parent) := by rw [cell_of_row _ _ _ _ _ _ hbx]; rfl
  have d2 : w4.cell? ⟨w.heap.size, 2, none⟩ = some (.int .i64 x.digits) := by rw [cell_of_row _ _ _ _ _ _ hbx]; rfl
  have d3 : w4.cell? ⟨w.heap.size, 3, none⟩ = some (.slice adp0 x.lex.length capp0) := by rw [cell_of_row _ _ _ _ _ _ hbx]; rfl
  have d4 : w4.cell? ⟨w.heap.size, 4, none⟩ = some (.slice adp1 x.rules.length capp1) := by rw [cell_of_row _ _ _ _ _ _ hbx]; rfl
  have d5 : w4.cell? ⟨w.heap.size, 5, none⟩ = some (.slice adp2 x.styles.length capp2) := by rw [cell_of_row _ _ _ _ _ _ hbx]; rfl
  clear hbx
  replace c0 := d0
  replace c1 := d1
  replace c2 := d2
  replace c3 := d3
  replace c4 := d4
  replace c5 := d5
  clear d0 d1 d2 d3 d4 d5
  go_wp2_with fail
  refine (put_Style x.styles _ g _ wd w4 HW4.out hwd (HBD.out.trans (HB4.out.mono hwd)) HPP.out.2.2 (by have := HL0.out; unfold encLocale at this; simp only [List.length_append] at this ⊢; (try simp only [numB_length] at this ⊢); omega)).mono ?_
  rintro e w5 ⟨rfl, hW, hb, hK⟩
  have HW5 := hid hW
  have HB5 := hid (HB4.out.trans hb)
  have HK5 := hid (HK4.out.trans hK)
  have HKB5 := hid (HKB4.out.trans hK)
  clear hW hb hK
  go_wp2
  go_end0
  exact ⟨rfl, by have := HW5.out; unfold encLocale; simpa only [List.append_assoc] using this, HB5.out, HK5.out⟩

set_option maxRecDepth 8000 in
theorem put_Locale (xs : List Locale) (v : Value) (g : Nat) (bs : List Int) (w0 w : World) (h : Wr w g bs) (hw0 : w0.heap.size ≤ g) (hbw : Below w0.heap.size w0 w) (hx : LocalesAt w0 v xs) (hl : bs.length + (encLocales xs).length ≤ 900000) :
    Calls Tryz.prog 33 #[.pointer (some ⟨g, 0, none⟩), v, .func (.func 34) #[.pointer (some ⟨g, 0, none⟩)] #[]] w (Wrote g w (bs ++ encLocales xs)) := by
  have hl' := hl
  unfold encLocales at hl'
  rw [List.length_append, numB_length] at hl'
  obtain ⟨ad, cap, rfl, hmx, _, hc⟩ := hx
  have HC := hid hc
  have HNB := hid (number_any (xs.length : Int) g bs w h (by omega))
  have HL := hid hl'
  have HBW := hid hbw
  have hsg := hw0
  clear hc h hl hl' hbw
  generalize hlen : xs.length = n at *
  have HN := hid hlen
  clear hlen
  go_enter Tryz.func33, Tryz.ntmps33
  go_wp2_with fail
  refine HNB.out.mono ?_
  rintro e w1 ⟨rfl, hW, hb, hK⟩
  have HW1 := hid hW
  have HB1 := hid hb
  have HK1 := hid hK
  clear hW hb hK
  go_wp2
  go_loopw [14] (fun v wr => ∃ j : Nat, j ≤ n ∧ v = .int .i64 j ∧ Wr wr g (bs ++ numB (n : Int) ++ (xs.take j).flatMap encLocale) ∧ Below g w wr ∧ Kept g w wr) (fun v _ => n - (intOf v).toNat)
  case atStart => exact ⟨0, by omega, rfl, by simpa using HW1.out, HB1.out, HK1.out⟩
  case round =>
    obtain ⟨j, hj, rfl, hW, hb, hK⟩ := hrel
    by_cases hlt : j < n
    · have hlt2 : (j : Int) < (n : Int) := by omega
      have HX : Hid (xs[j]? = some (xs.getD j nilLocale)) := hid (Locale_at (by rw [HN.out]; exact hlt))
      have HLJ : Hid (bs.length + 8 + ((xs.take j).flatMap encLocale).length + (encLocale (xs.getD j nilLocale)).length ≤ 900000) := hid (by
        have h1 := HL.out
        have h2 := flatMap_take encLocale xs (j + 1)
        rw [flatMap_snoc encLocale xs j _ HX.out, List.length_append] at h2
        omega)
      have HBR := hid (HBW.out.trans (hb.mono hsg))
      obtain ⟨gx, ox, eg, hcj⟩ := HC.out j hlt
      generalize xs.getD j nilLocale = y at *
      subst eg
      obtain ⟨v0, v1, v2, c0, c1, c2, c3, c4, c5, q0, q1, q2⟩ := hcj.on HBR.out
      obtain ⟨v0', v1', v2', d0, d1, d2, d3, d4, d5, qq0, qq1, qq2⟩ := hcj
      obtain rfl : v0' = v0 := Option.some.inj (((HBR.out.cell (lt_of_cell d3)).trans d3).symm.trans c3)
      obtain rfl : v1' = v1 := Option.some.inj (((HBR.out.cell (lt_of_cell d4)).trans d4).symm.trans c4)
      obtain rfl : v2' = v2 := Option.some.inj (((HBR.out.cell (lt_of_cell d5)).trans d5).symm.trans c5)
      have HQQ := hid (show LocaleAt w0 y v0' v1' v2' from ⟨qq0, qq1, qq2⟩)
      obtain ⟨ad0, cap0, eq0, _⟩ := qq0.shape
      obtain ⟨ad1, cap1, eq1, _⟩ := qq1.shape
      obtain ⟨ad2, cap2, eq2, _⟩ := qq2.shape
      subst eq0 eq1 eq2
      clear q0 q1 q2 d0 d1 d2 d3 d4 d5 qq0 qq1 qq2
      have HW := hid hW
      have HB := hid hb
      have HK := hid hK
      have hgl := hW.lt
      clear hW hb hK
      go_wp2_with fail
      refine (wlocale_any y _ _ _ g _ (wr.alloc (.cells #[.string y.id, .int .i64 y.parent, .int .i64 y.digits, .slice ad0 y.lex.length cap0, .slice ad1 y.rules.length cap1, .slice ad2 y.styles.length cap2] 44)) (HW.out.on (up_alloc _ _)) w0 hsg (HBR.out.trans ((up_alloc _ _).mono (Nat.le_trans hsg (Nat.le_of_lt hgl)))) HQQ.out (by have := HLJ.out; simp only [List.length_append, numB_length]; omega)).mono ?_
      rintro e w2 ⟨rfl, hW, hb, hK⟩
      have HW2 := hid hW
      have HB2 := hid (HB.out.trans (((up_alloc wr (.cells #[.string y.id, .int .i64 y.parent, .int .i64 y.digits, .slice ad0 y.lex.length cap0, .slice ad1 y.rules.length cap1, .slice ad2 y.styles.length cap2] 44)).mono (Nat.le_of_lt hgl)).trans hb))
      have HK2 := hid (HK.out.trans ((Kept.up (up_alloc wr (.cells #[.string y.id, .int .i64 y.parent, .int .i64 y.digits, .slice ad0 y.lex.length cap0, .slice ad1 y.rules.length cap1, .slice ad2 y.styles.length cap2] 44))).trans hK))
      clear hW hb hK
      go_wp2
      go_roundw
      case rel => exact ⟨j + 1, by omega, by simp, by rw [flatMap_snoc encLocale xs j y HX.out, ← List.append_assoc]; exact HW2.out, HB2.out, HK2.out⟩
      case measure => simp [intOf]; omega
    · have hW' := hW
      rw [List.take_of_length_le (by rw [HN.out]; omega), List.append_assoc] at hW'
      have HW : Hid (Wr wr g (bs ++ encLocales xs)) := hid (by unfold encLocales; rw [HN.out]; exact hW')
      have HB := hid hb
      have HK := hid hK
      clear hW hb hK hW'
      obtain rfl : j = n := by omega
      go_wp2
      go_end0
      exact ⟨rfl, HW.out, HB.out, HK.out⟩

end Go.Proofs.YtohgaknojkdohaaGreatDoor

/- Locales as bytes: what package blob's Encode answers; the reference's numbers, texts, rows of numbers. -/
namespace Go.Proofs.YtohgaknojkdohaaGreatDoor
open Go.RowKit Gr

/-- A row of bytes that the call made, from block B on. -/
def RB (w : World) (B : Nat) (v : Value) (bs : List Int) : Prop := w.ownsRow B 5 1 v bs.length (bs.map (Value.int .u8))
theorem RB.on {w w' : World} {B : Nat} {v : Value} {bs : List Int} (h : RB w B v bs) (hb : Below w.heap.size w w') : RB w' B v bs := owns_below h hb
theorem RB.nil (w : World) (B : Nat) : RB w B (.slice none 0 0) [] := World.ownsRow_nil _ _ _ _
theorem RB.base {w : World} {B B' : Nat} {v : Value} {bs : List Int} (h : RB w B v bs) (hb : B' ≤ B) : RB w B' v bs := by
  obtain ⟨h1, h2⟩ := h
  refine ⟨h1, ?_⟩
  rcases h2 with h2 | ⟨g, cap, cur, e, h3, h4⟩
  · exact .inl h2
  · exact .inr ⟨g, cap, cur, e, Nat.le_trans hb h3, h4⟩
theorem RB.shape {w : World} {B : Nat} {v : Value} {bs : List Int} (h : RB w B v bs) : ∃ ad cap, v = .slice ad bs.length cap := by
  obtain ⟨ad, cap, e, _⟩ := own_shape h
  exact ⟨ad, cap, e⟩

set_option maxRecDepth 8000 in
theorem encode_any (ls : List Locale) (v : Value) (w : World) (hl : LocalesAt w v ls) (hS : Small ls) (hT : Tabs w) (hr : rightL ls = true) (hlen : (encLocales ls).length ≤ 800000) :
    Calls Tryz.prog 14 #[v] w fun e w' => ∃ bv, e = .returned bv ∧ RB w' w.heap.size bv (encLocales ls) ∧ Below w.heap.size w w' := by
  have HR := hid (bright_any ls v w hl hS hT)
  rw [hr] at HR
  have HA := hid hl
  have HLEN := hid hlen
  obtain ⟨ad, cap, rfl, hm⟩ := hl.shape
  clear hl hS hT hr hlen
  generalize hn : ls.length = n at *
  have HN := hid hn
  clear hn
  go_enter Tryz.func14, Tryz.ntmps14
  go_wp2_with fail
  refine HR.out.mono ?_
  rintro e w1 ⟨rfl, bel⟩
  have HB1 := hid bel
  have hs1 := bel.size
  clear bel
  have HP := hid (put_Locale ls _ w1.heap.size [] w1 (w1.alloc (.cells #[.slice none 0 0] 76)) ⟨_, row_new w1 _, World.ownsRow_nil _ _ _ _⟩ (Nat.le_refl _) (up_alloc _ _) (HA.out.on HB1.out) (by have := HLEN.out; simp; omega))
  go_wp2_with fail
  refine HP.out.mono ?_
  rintro e w2 ⟨rfl, hW, hb, hK⟩
  obtain ⟨bv, h1, h2⟩ := hW
  rw [List.nil_append] at h2
  have c0 : w2.cell? ⟨w1.heap.size, 0, none⟩ = some bv := by rw [cell_of_row _ _ _ _ _ _ h1]; rfl
  obtain ⟨adb, capb, eb, _⟩ := own_shape h2
  have H2 := hid h2
  have HB2 := hid (HB1.out.trans (((up_alloc w1 _).trans hb).mono hs1))
  obtain ⟨nb, hnb⟩ : ∃ nb, nb = (encLocales ls).length := ⟨_, rfl⟩
  rw [← hnb] at eb
  subst eb
  clear h1 h2 hb hK hnb
  go_wp2
  go_ret
  exact ⟨_, rfl, RB.base H2.out (by omega), HB2.out⟩

/-- All blocks but rows of bytes are as they were. -/
def KeptA (w w' : World) : Prop := ∀ (k : Nat) (cs : Array Value) (t : TypeId) (fr : Nat × Nat), t ≠ 5 → w.heap[k]? = some (Obj.cells cs t fr) → w'.heap[k]? = some (Obj.cells cs t fr)
theorem KeptA.refl (w : World) : KeptA w w := fun _ _ _ _ _ h => h
theorem KeptA.trans {w w1 w2 : World} (h : KeptA w w1) (k : KeptA w1 w2) : KeptA w w2 := fun b cs t fr h1 h2 => k b cs t fr h1 (h b cs t fr h1 h2)
theorem KeptA.up {w w' : World} (hb : Below w.heap.size w w') : KeptA w w' := fun b _ _ _ _ h => (hb.block b (Array.getElem?_eq_some_iff.1 h).1).trans h
theorem KeptA.grown {B n : Nat} {w w' : World} {v : Value} {xs : List Value} (h : w.ownsRow B 5 1 v n xs) (hg : w.grownBy w' v.ownBlock) : KeptA w w' := fun b cs t fr h2 h3 => Kept.grown (g := b + 1) h hg b cs t fr (by omega) h2 h3
/-- What a call that appends to a row of bytes leaves. -/
def Added (B : Nat) (w : World) (bs : List Int) (e : Ending) (w' : World) : Prop := ∃ v', e = .returned v' ∧ RB w' B v' bs ∧ Below B w w' ∧ KeptA w w'

set_option maxRecDepth 8000 in
theorem rnum_any (n : Int) (v : Value) (bs : List Int) (B : Nat) (w : World) (h : RB w B v bs) (hB : B ≤ w.heap.size) (hl : bs.length ≤ 900000) :
    Calls Tryz.prog 37 #[v, .int .i64 n] w (Added B w (bs ++ numB n)) := by
  have H := hid h
  obtain ⟨ad, cap, rfl⟩ := h.shape
  clear h
  go_enter Tryz.func37, Tryz.ntmps37
  go_wp2
  go_loopw [0, 5] (fun v0 v5 wr => ∃ k : Nat, k ≤ 8 ∧ v5 = .int .i64 k ∧ RB wr B v0 (bs ++ (numB n).take k) ∧ Below B w wr ∧ KeptA w wr) (fun _ v5 _ => 8 - (intOf v5).toNat)
  case atStart => exact ⟨0, by omega, rfl, by simpa using H.out, Below.refl _ _, KeptA.refl _⟩
  case round =>
    obtain ⟨k, hk, rfl, hW, hb, hK⟩ := hrel
    by_cases hlt : k < 8
    · obtain ⟨ad0, cap0, ev⟩ := hW.shape
      have hlt2 : (k : Int) < 8 := by omega
      have hLB : (bs ++ (numB n).take k).length ≤ 900008 := by
        rw [List.length_append, List.length_take]
        omega
      have HT : Hid ((numB n).take (k + 1) = (numB n).take k ++ [byteAt n (56 - 8 * k)]) := hid (by
        unfold numB
        rw [List.take_add_one, List.getElem?_map, List.getElem?_range hlt]
        rfl)
      have hy : IntKind.u8.wrap (n / 2 ^ (56 - 8 * (k : Int)).toNat) = byteAt n (56 - 8 * k) := by
        unfold byteAt
        rw [IntKind.wrap_u8, show (56 - 8 * (k : Int)).toNat = 56 - 8 * k by omega]
      have hy2 : n / 2 ^ (56 - 8 * k) % 256 = byteAt n (56 - 8 * k) := rfl
      have hs0 : (0 : Int) ≤ 56 - 8 * (k : Int) := by omega
      have hs1 : (56 - 8 * (k : Int)) < 64 := by omega
      generalize byteAt n (56 - 8 * k) = y at *
      generalize hbk : bs ++ (numB n).take k = bk at *
      generalize hL : bk.length = L at *
      subst ev
      have HW := hid hW
      have HLL := hid hL
      have HB := hid hb
      have HK := hid hK
      have HBK := hid hbk
      have hsz := hb.size
      have HUP := hid (up_alloc wr (.cells #[.int .u8 y] 5))
      have HOA := hid (show (wr.alloc (.cells #[.int .u8 y] 5)).ownsRow B 5 1 (.slice ad0 L cap0) L (bk.map (Value.int .u8)) from by have := hW.on HUP.out; unfold RB at this; rwa [hL] at this)
      have HLIT := hid (cells_lit wr 5 [.int .u8 y] #[.int .u8 y] rfl _ 1 1 rfl rfl (by intro u hu; simp at hu; subst hu; rfl))
      clear hW hL hb hK hbk
      go_wp2_with (at_builtin; refine wpList_append_cells _ rfl (.tmp 10) (.tmp 18) 28 5 rfl (.int .u8 0) 1 1 Tryz.underlying28 info_byte rfl (by decide) (by decide) B _ L _ rfl HOA.out _ 1 [.int .u8 y] rfl HLIT.out (by omega) (by simp; omega) ?_; intro v' w' h1 h2 h3; have HR2 := hid (show RB w' B v' (bk ++ [y]) from by unfold RB; rw [List.length_append, List.map_append, HLL.out]; exact h1); have HB2 := hid ((HB.out.trans (HUP.out.mono (Nat.le_trans hB hsz))).grown h2 (by simp; omega) (fun q e => (World.ownsRow.lt HOA.out q e).1)); have HK2 := hid ((HK.out.trans (KeptA.up HUP.out)).trans (KeptA.grown HOA.out h2)); obtain ⟨adv, capv, ev', _⟩ := own_shape h1; subst ev'; clear h1 h2 h3)
      go_roundw
      case rel => exact ⟨k + 1, by omega, by simp, by rw [HT.out, ← List.append_assoc, HBK.out]; exact HR2.out, HB2.out, HK2.out⟩
      case measure => simp [intOf]; omega
    · obtain rfl : k = 8 := by omega
      have hW' := hW
      rw [List.take_of_length_le (by simp [numB])] at hW'
      have HW := hid hW'
      have HB := hid hb
      have HK := hid hK
      obtain ⟨ad0, cap0, ev⟩ := hW'.shape
      obtain ⟨nb, hnb⟩ : ∃ nb, nb = (bs ++ numB n).length := ⟨_, rfl⟩
      rw [← hnb] at ev
      subst ev
      clear hW hb hK hW' hnb
      go_wp2
      go_ret
      exact ⟨_, rfl, HW.out, HB.out, HK.out⟩

theorem bytes_cells {w : World} {v : Value} {ad : Option Addr} {n cap : Nat} {xs : List Int} (h : Bytes w v xs) (hv : v = .slice ad n cap := by rfl) (hn : ad ≠ none := by simp) : CellsAt w v n 1 (xs.map (Value.int .u8)) := by
  obtain ⟨ad', cap', e, _, hc⟩ := h
  rw [hv] at e
  injection e with e1 e2 e3
  subst e1 e3 hv
  refine ⟨ad, cap, rfl, by rw [List.length_map, e2, Nat.mul_one], fun h => absurd h hn, fun u hu => by obtain ⟨y, _, rfl⟩ := List.mem_map.1 hu; rfl, fun j u hj => ?_⟩
  rw [List.getElem?_map] at hj
  obtain ⟨y, hy, rfl⟩ := Option.map_eq_some_iff.1 hj
  have hlt := (List.getElem?_eq_some_iff.1 hy).1
  obtain ⟨a, e, h4⟩ := hc j hlt
  exact ⟨a, e, by rw [h4, List.getD_eq_getElem?_getD, hy]; rfl⟩

set_option maxRecDepth 8000 in
theorem rtext_any (s : ByteArray) (v : Value) (bs : List Int) (B : Nat) (w : World) (h : RB w B v bs) (hB : B ≤ w.heap.size) (hl : bs.length + (encText s).length ≤ 900000) :
    Calls Tryz.prog 75 #[v, .string s] w (Added B w (bs ++ encText s)) := by
  have hl' := hl
  unfold encText at hl'
  rw [List.length_append, numB_length, nums_length] at hl'
  have HC := hid (rnum_any (s.size : Int) v bs B w h hB (by omega))
  obtain ⟨ad, cap, rfl⟩ := h.shape
  clear h hl
  go_enter Tryz.func75, Tryz.ntmps75
  go_wp2_with fail
  refine HC.out.mono ?_
  rintro e w1 ⟨v1, rfl, hR, hb, hK⟩
  obtain ⟨cap2, w2, hcv, hby, hb2⟩ := conv_bytes s w1 (by omega)
  obtain ⟨ad1, cap1, ev1⟩ := hR.shape
  have hL : (bs ++ numB (s.size : Int)).length = bs.length + 8 := by rw [List.length_append, numB_length]
  have HR := hid (hR.on hb2)
  have HB := hid (hb.trans (hb2.mono (by have := hb.size; omega)))
  have HK := hid (hK.trans (KeptA.up hb2))
  have HCE := hid (bytes_cells hby)
  have hs2 : B ≤ w2.heap.size := by have := hb.size; have := hb2.size; omega
  have HOA := hid (show w2.ownsRow B 5 1 v1 (bs.length + 8) ((bs ++ numB (s.size : Int)).map (Value.int .u8)) from by have := HR.out; unfold RB at this; rwa [hL] at this)
  rw [hL] at ev1
  subst ev1
  have HLL := hid hL
  clear hR hb hK hby hb2 hL
  go_wp2_with (at_builtin; refine wpList_append_cells _ rfl (.tmp 8) (.tmp 10) 28 5 rfl (.int .u8 0) 1 1 Tryz.underlying28 info_byte rfl (by decide) (by decide) B _ (bs.length + 8) _ rfl HOA.out _ s.size _ rfl HCE.out (by omega) hs2 ?_; intro v' w' h1 h2 h3; have HR2 := hid (show RB w' B v' (bs ++ encText s) from by unfold RB encText; rw [← List.append_assoc, List.length_append, List.map_append, HLL.out, nums_length]; exact h1); have HB2 := hid (HB.out.grown h2 hs2 (fun q e => (World.ownsRow.lt HOA.out q e).1)); have HK2 := hid (HK.out.trans (KeptA.grown HOA.out h2)); obtain ⟨adv, capv, ev', _⟩ := own_shape h1; subst ev'; clear h1 h2 h3)
  go_ret
  exact ⟨_, rfl, HR2.out, HB2.out, HK2.out⟩

set_option maxRecDepth 8000 in
theorem rints_any (xs : List Int) (xv : Value) (v : Value) (bs : List Int) (B : Nat) (w0 w : World) (h : RB w B v bs) (hB : B ≤ w.heap.size) (hx : Row w0 xv xs) (hw0 : w0.heap.size ≤ B) (hbw : Below w0.heap.size w0 w) (hl : bs.length + (encInts xs).length ≤ 900000) :
    Calls Tryz.prog 76 #[v, xv] w (Added B w (bs ++ encInts xs)) := by
  have hl' := hl
  unfold encInts at hl'
  rw [List.length_append, numB_length] at hl'
  have HC := hid (rnum_any (xs.length : Int) v bs B w h hB (by omega))
  obtain ⟨ad, cap, rfl⟩ := h.shape
  obtain ⟨adx, capx, rfl, hmx, hc⟩ := hx
  unfold maxLen at hmx
  have HX := hid hc
  have HL := hid hl'
  have HBW := hid hbw
  clear h hl hl' hc hbw
  generalize hn : xs.length = n at *
  have HN := hid hn
  clear hn
  go_enter Tryz.func76, Tryz.ntmps76
  go_wp2_with fail
  refine HC.out.mono ?_
  rintro e w1 ⟨v1, rfl, hR, hb, hK⟩
  have HR1 := hid hR
  have HB1 := hid hb
  have HK1 := hid hK
  obtain ⟨ad1, cap1, ev1⟩ := hR.shape
  obtain ⟨n1, hn1⟩ : ∃ n1, n1 = (bs ++ numB (n : Int)).length := ⟨_, rfl⟩
  rw [← hn1] at ev1
  subst ev1
  clear hR hb hK hn1
  go_wp2
  go_loopw [0, 5] (fun v0 v5 wr => ∃ j : Nat, j ≤ n ∧ v5 = .int .i64 j ∧ RB wr B v0 (bs ++ numB (n : Int) ++ (xs.take j).flatMap numB) ∧ Below B w wr ∧ KeptA w wr) (fun _ v5 _ => n - (intOf v5).toNat)
  case atStart => exact ⟨0, by omega, rfl, by simpa using HR1.out, HB1.out, HK1.out⟩
  case round =>
    obtain ⟨j, hj, rfl, hR, hb, hK⟩ := hrel
    by_cases hlt : j < n
    · have hlt2 : (j : Int) < (n : Int) := by omega
      obtain ⟨a, eg, hcj⟩ := HX.out j hlt
      have HXJ : Hid (xs[j]? = some (xs.getD j 0)) := hid (getD_at (by rw [HN.out]; exact hlt))
      have HLJ : Hid (bs.length + 8 + ((xs.take j).flatMap numB).length + 8 ≤ 900000) := hid (by
        have h1 := HL.out
        have h2 := flatMap_take numB xs (j + 1)
        rw [flatMap_snoc numB xs j _ HXJ.out, List.length_append, numB_length] at h2
        omega)
      have c0 := ((HBW.out.trans (hb.mono hw0)).cell (lt_of_cell hcj)).trans hcj
      generalize xs.getD j 0 = y at *
      subst eg
      have HCN := hid (rnum_any y _ _ B wr hR (by have := hb.size; omega) (by have := HLJ.out; simp only [List.length_append, numB_length]; omega))
      obtain ⟨ad0, cap0, ev0⟩ := hR.shape
      obtain ⟨n0, hn0⟩ : ∃ n0, n0 = (bs ++ numB (n : Int) ++ (xs.take j).flatMap numB).length := ⟨_, rfl⟩
      rw [← hn0] at ev0
      subst ev0
      have HB := hid hb
      have HK := hid hK
      clear hR hb hK hn0 hcj
      go_wp2_with fail
      refine HCN.out.mono ?_
      rintro e w2 ⟨v2, rfl, hR, hb, hK⟩
      have HR2 := hid hR
      have HB2 := hid (HB.out.trans hb)
      have HK2 := hid (HK.out.trans hK)
      obtain ⟨ad2, cap2, ev2⟩ := hR.shape
      obtain ⟨n2, hn2⟩ : ∃ n2, n2 = (bs ++ numB (n : Int) ++ (xs.take j).flatMap numB ++ numB y).length := ⟨_, rfl⟩
      rw [← hn2] at ev2
      subst ev2
      clear hR hb hK hn2
      go_wp2
      go_roundw
      case rel => exact ⟨j + 1, by omega, by simp, by rw [flatMap_snoc numB xs j y HXJ.out, ← List.append_assoc]; exact HR2.out, HB2.out, HK2.out⟩
      case measure => simp [intOf]; omega
    · have hR' := hR
      rw [List.take_of_length_le (by rw [HN.out]; omega), List.append_assoc] at hR'
      have HR2 : Hid (RB wr B _ (bs ++ encInts xs)) := hid (by unfold encInts; rw [HN.out]; exact hR')
      have HB := hid hb
      have HK := hid hK
      obtain ⟨ad0, cap0, ev0⟩ := hR'.shape
      obtain ⟨n0, hn0⟩ : ∃ n0, n0 = (bs ++ (numB (n : Int) ++ xs.flatMap numB)).length := ⟨_, rfl⟩
      rw [← hn0] at ev0
      subst ev0
      clear hR hb hK hR' hn0
      obtain rfl : j = n := by omega
      go_wp2
      go_ret
      exact ⟨_, rfl, HR2.out, HB.out, HK.out⟩

end Go.Proofs.YtohgaknojkdohaaGreatDoor

/- Locales as bytes: what the reference's locale, Encode, Same answer. -/
namespace Go.Proofs.YtohgaknojkdohaaGreatDoor
open Go.RowKit Gr

/-- What stays while bytes are appended: the locale's own variable, all that lies ahead of B. -/
def Hold (B b3 : Nat) (A : Array Value) (W1 w : World) : Prop := w.heap[b3]? = some (.cells A 44 (0, 0)) ∧ KeptA W1 w ∧ Below B W1 w
theorem Hold.on {B b3 : Nat} {A : Array Value} {W1 w w' : World} (h : Hold B b3 A W1 w) (hb : Below B w w') (hk : KeptA w w') : Hold B b3 A W1 w' := ⟨hk b3 A _ _ (by decide) h.1, h.2.1.trans hk, h.2.2.trans hb⟩
theorem Hold.drew {B b3 : Nat} {A : Array Value} {W1 w : World} (h : Hold B b3 A W1 w) : Hold B b3 A W1 w.drew := h.on (Below.refl _ _).drew (KeptA.up (Below.refl _ _).drew)
theorem Hold.cell {B b3 : Nat} {A : Array Value} {W1 w : World} (h : Hold B b3 A W1 w) {j : Nat} {v : Value} (hv : A[j]? = some v) : w.cell? ⟨b3, j, none⟩ = some v := by rw [cell_of_row _ _ _ _ _ _ h.1]; exact hv

theorem s1_on {B b3 : Nat}  {x : Locale} {ad0 ad1 ad2 : Option Addr} {n0 n1 n2 cap0 cap1 cap2 : Nat} {W1 W W' : World}  (hb : Below B W W') (hk : KeptA W W') (h : (W.cell? ⟨b3, 0, none⟩ = some (.string x.id) ∧ W.cell? ⟨b3, 1, none⟩ = some (.int .i64 x.parent) ∧ W.cell? ⟨b3, 2, none⟩ = some (.int .i64 x.digits) ∧ W.cell? ⟨b3, 3, none⟩ = some (.slice ad0 n0 cap0)) ∧ Hid (Hold B b3 #[.string x.id, .int .i64 x.parent, .int .i64 x.digits, .slice ad0 n0 cap0, .slice ad1 n1 cap1, .slice ad2 n2 cap2] W1 W)) : (W'.cell? ⟨b3, 0, none⟩ = some (.string x.id) ∧ W'.cell? ⟨b3, 1, none⟩ = some (.int .i64 x.parent) ∧ W'.cell? ⟨b3, 2, none⟩ = some (.int .i64 x.digits) ∧ W'.cell? ⟨b3, 3, none⟩ = some (.slice ad0 n0 cap0)) ∧ Hid (Hold B b3 #[.string x.id, .int .i64 x.parent, .int .i64 x.digits, .slice ad0 n0 cap0, .slice ad1 n1 cap1, .slice ad2 n2 cap2] W1 W') := by
  have hh := h.2.out.on hb hk
  exact ⟨⟨hh.cell rfl, hh.cell rfl, hh.cell rfl, hh.cell rfl⟩, hid hh⟩
theorem s5_on {B b3 : Nat} {ge oe j : Nat} {y : Entry} {x : Locale} {ad0 ad1 ad2 : Option Addr} {n0 n1 n2 cap0 cap1 cap2 : Nat} {W1 W W' : World} (hge : ge < B) (hb : Below B W W') (hk : KeptA W W') (h : (W.cell? ⟨b3, 3, none⟩ = some (.slice ad0 n0 cap0) ∧ W.cell? ⟨ge, oe + j * 3, none⟩ = some (.string y.text) ∧ W.cell? ⟨ge, oe + j * 3 + 1, none⟩ = some (.int .i64 y.cls) ∧ W.cell? ⟨ge, oe + j * 3 + 2, none⟩ = some (.int .i64 y.val)) ∧ Hid (Hold B b3 #[.string x.id, .int .i64 x.parent, .int .i64 x.digits, .slice ad0 n0 cap0, .slice ad1 n1 cap1, .slice ad2 n2 cap2] W1 W)) : (W'.cell? ⟨b3, 3, none⟩ = some (.slice ad0 n0 cap0) ∧ W'.cell? ⟨ge, oe + j * 3, none⟩ = some (.string y.text) ∧ W'.cell? ⟨ge, oe + j * 3 + 1, none⟩ = some (.int .i64 y.cls) ∧ W'.cell? ⟨ge, oe + j * 3 + 2, none⟩ = some (.int .i64 y.val)) ∧ Hid (Hold B b3 #[.string x.id, .int .i64 x.parent, .int .i64 x.digits, .slice ad0 n0 cap0, .slice ad1 n1 cap1, .slice ad2 n2 cap2] W1 W') := by
  have hh := h.2.out.on hb hk
  obtain ⟨⟨_, h1, h2, h3⟩, _⟩ := h
  exact ⟨⟨hh.cell rfl, (hb.cell hge).trans h1, (hb.cell hge).trans h2, (hb.cell hge).trans h3⟩, hid hh⟩
theorem s11_on {B b3 : Nat} {A : Array Value} {b7 : Nat} {y : Rule} {sv pv : Value} {W1 W W' : World}  (hb : Below B W W') (hk : KeptA W W') (h : (W.cell? ⟨b7, 0, none⟩ = some (.int .i64 y.lhs) ∧ W.cell? ⟨b7, 1, none⟩ = some (sv) ∧ W.cell? ⟨b7, 2, none⟩ = some (.int .i64 y.op) ∧ W.cell? ⟨b7, 3, none⟩ = some (pv) ∧ W.cell? ⟨b7, 4, none⟩ = some (.int .i64 y.cost)) ∧ Hid (Hold B b3 A W1 W ∧ W.heap[b7]? = some (.cells #[.int .i64 y.lhs, sv, .int .i64 y.op, pv, .int .i64 y.cost] 56 (0, 0)))) : (W'.cell? ⟨b7, 0, none⟩ = some (.int .i64 y.lhs) ∧ W'.cell? ⟨b7, 1, none⟩ = some (sv) ∧ W'.cell? ⟨b7, 2, none⟩ = some (.int .i64 y.op) ∧ W'.cell? ⟨b7, 3, none⟩ = some (pv) ∧ W'.cell? ⟨b7, 4, none⟩ = some (.int .i64 y.cost)) ∧ Hid (Hold B b3 A W1 W' ∧ W'.heap[b7]? = some (.cells #[.int .i64 y.lhs, sv, .int .i64 y.op, pv, .int .i64 y.cost] 56 (0, 0))) := by
  have hh := h.2.out.1.on hb hk
  have h7 := hk b7 _ _ _ (by decide) h.2.out.2
  exact ⟨⟨by rw [cell_of_row _ _ _ _ _ _ h7]; rfl, by rw [cell_of_row _ _ _ _ _ _ h7]; rfl, by rw [cell_of_row _ _ _ _ _ _ h7]; rfl, by rw [cell_of_row _ _ _ _ _ _ h7]; rfl, by rw [cell_of_row _ _ _ _ _ _ h7]; rfl⟩, hid ⟨hh, h7⟩⟩
theorem s21_on {B b3 : Nat} {A : Array Value} {b7 : Nat} {y : Part} {W1 W W' : World}  (hb : Below B W W') (hk : KeptA W W') (h : (W.cell? ⟨b7, 0, none⟩ = some (.int .i64 y.kind) ∧ W.cell? ⟨b7, 1, none⟩ = some (.string y.text) ∧ W.cell? ⟨b7, 2, none⟩ = some (.int .i64 y.field) ∧ W.cell? ⟨b7, 3, none⟩ = some (.int .i64 y.width) ∧ W.cell? ⟨b7, 4, none⟩ = some (.int .i64 y.cls)) ∧ Hid (Hold B b3 A W1 W ∧ W.heap[b7]? = some (.cells #[.int .i64 y.kind, .string y.text, .int .i64 y.field, .int .i64 y.width, .int .i64 y.cls] 48 (0, 0)))) : (W'.cell? ⟨b7, 0, none⟩ = some (.int .i64 y.kind) ∧ W'.cell? ⟨b7, 1, none⟩ = some (.string y.text) ∧ W'.cell? ⟨b7, 2, none⟩ = some (.int .i64 y.field) ∧ W'.cell? ⟨b7, 3, none⟩ = some (.int .i64 y.width) ∧ W'.cell? ⟨b7, 4, none⟩ = some (.int .i64 y.cls)) ∧ Hid (Hold B b3 A W1 W' ∧ W'.heap[b7]? = some (.cells #[.int .i64 y.kind, .string y.text, .int .i64 y.field, .int .i64 y.width, .int .i64 y.cls] 48 (0, 0))) := by
  have hh := h.2.out.1.on hb hk
  have h7 := hk b7 _ _ _ (by decide) h.2.out.2
  exact ⟨⟨by rw [cell_of_row _ _ _ _ _ _ h7]; rfl, by rw [cell_of_row _ _ _ _ _ _ h7]; rfl, by rw [cell_of_row _ _ _ _ _ _ h7]; rfl, by rw [cell_of_row _ _ _ _ _ _ h7]; rfl, by rw [cell_of_row _ _ _ _ _ _ h7]; rfl⟩, hid ⟨hh, h7⟩⟩
theorem s16_on {B b3 : Nat} {ge oe j : Nat} {y : Style} {pv : Value} {x : Locale} {ad0 ad1 ad2 : Option Addr} {n0 n1 n2 cap0 cap1 cap2 : Nat} {W1 W W' : World} (hge : ge < B) (hb : Below B W W') (hk : KeptA W W') (h : (W.cell? ⟨b3, 5, none⟩ = some (.slice ad2 n2 cap2) ∧ W.cell? ⟨ge, oe + j * 2, none⟩ = some (.int .i64 y.kind) ∧ W.cell? ⟨ge, oe + j * 2 + 1, none⟩ = some (pv)) ∧ Hid (Hold B b3 #[.string x.id, .int .i64 x.parent, .int .i64 x.digits, .slice ad0 n0 cap0, .slice ad1 n1 cap1, .slice ad2 n2 cap2] W1 W)) : (W'.cell? ⟨b3, 5, none⟩ = some (.slice ad2 n2 cap2) ∧ W'.cell? ⟨ge, oe + j * 2, none⟩ = some (.int .i64 y.kind) ∧ W'.cell? ⟨ge, oe + j * 2 + 1, none⟩ = some (pv)) ∧ Hid (Hold B b3 #[.string x.id, .int .i64 x.parent, .int .i64 x.digits, .slice ad0 n0 cap0, .slice ad1 n1 cap1, .slice ad2 n2 cap2] W1 W') := by
  have hh := h.2.out.on hb hk
  obtain ⟨⟨_, h1, h2⟩, _⟩ := h
  exact ⟨⟨hh.cell rfl, (hb.cell hge).trans h1, (hb.cell hge).trans h2⟩, hid hh⟩
theorem h2_below {P X : Prop} {B b3 : Nat} {A : Array Value} {W1 W : World} (h : P ∧ Hid (Hold B b3 A W1 W ∧ X)) : Below B W1 W := h.2.out.1.2.2

theorem encEntry_eq (y : Entry) : encEntry y = encText y.text ++ numB y.cls ++ numB y.val := by simp [encEntry, encNums]
theorem encPart_eq (y : Part) : encPart y = numB y.kind ++ encText y.text ++ numB y.field ++ numB y.width ++ numB y.cls := by simp [encPart, encNums]
theorem Entries_get {w : World} {ad : Option Addr} {n cap : Nat} {xs : List Entry} (h : EntriesAt w (.slice ad n cap) xs) {j : Nat} (hj : j < xs.length) : ∃ g o, ad = some ⟨g, o, none⟩ ∧ g < w.heap.size ∧ EntryIn w g (o + j * 3) (xs.getD j nilEntry) := by
  obtain ⟨ad', cap', e, _, _, hc⟩ := h
  injection e with e1 e2 e3
  subst e1
  obtain ⟨g, o, e, hx⟩ := hc j hj
  refine ⟨g, o, e, ?_, hx⟩
  exact lt_of_cell hx.1
theorem Styles_get {w : World} {ad : Option Addr} {n cap : Nat} {xs : List Style} (h : StylesAt w (.slice ad n cap) xs) {j : Nat} (hj : j < xs.length) : ∃ g o, ad = some ⟨g, o, none⟩ ∧ g < w.heap.size ∧ StyleIn w g (o + j * 2) (xs.getD j nilStyle) := by
  obtain ⟨ad', cap', e, _, _, hc⟩ := h
  injection e with e1 e2 e3
  subst e1
  obtain ⟨g, o, e, hx⟩ := hc j hj
  refine ⟨g, o, e, ?_, hx⟩
  obtain ⟨_, c0, _⟩ := hx
  exact lt_of_cell c0
theorem Parts_get {w : World} {ad : Option Addr} {n cap : Nat} {xs : List Part} (h : PartsAt w (.slice ad n cap) xs) {j : Nat} (hj : j < xs.length) : ∃ g o, ad = some ⟨g, o, none⟩ ∧ g < w.heap.size ∧ PartIn w g (o + j * 5) (xs.getD j nilPart) := by
  obtain ⟨ad', cap', e, _, _, hc⟩ := h
  injection e with e1 e2 e3
  subst e1
  obtain ⟨g, o, e, hx⟩ := hc j hj
  refine ⟨g, o, e, ?_, hx⟩
  exact lt_of_cell hx.1
theorem Rules_get {w : World} {ad : Option Addr} {n cap : Nat} {xs : List Rule} (h : RulesOk w (.slice ad n cap) xs) {j : Nat} (hj : j < xs.length) : ∃ g o, ad = some ⟨g, o, none⟩ ∧ g < w.heap.size ∧ RuleIn w g (o + j * 5) (xs.getD j nilRule) := by
  obtain ⟨⟨ad', cap', e, _, hc⟩, _⟩ := h
  injection e with e1 e2 e3
  subst e1
  obtain ⟨g, o, e, hx⟩ := hc j hj
  refine ⟨g, o, e, ?_, hx⟩
  obtain ⟨_, _, c0, _⟩ := hx
  exact lt_of_cell c0
/-- A slice's value, whatever its length. -/
theorem rb_shape {w : World} {B : Nat} {v : Value} {bs : List Int} (h : RB w B v bs) : ∃ ad n cap, v = .slice ad n cap := by
  obtain ⟨ad, cap, e⟩ := h.shape
  exact ⟨ad, _, cap, e⟩

set_option maxRecDepth 8000 in
set_option maxHeartbeats 4000000 in
theorem rlocale_any (x : Locale) (v0 v1 v2 : Value) (v : Value) (bs : List Int) (B : Nat) (w0 w : World) (h : RB w B v bs) (hB : B ≤ w.heap.size) (hx : LocaleAt w0 x v0 v1 v2) (hw0 : w0.heap.size ≤ B) (hbw : Below w0.heap.size w0 w) (hl : bs.length + (encLocale x).length ≤ 900000) :
    Calls Tryz.prog 38 #[v, localeV x v0 v1 v2] w (Added B w (bs ++ encLocale x)) := by
  have HL := hid hl
  obtain ⟨q0, q1, q2⟩ := hx
  have HQ := hid (And.intro q0 (And.intro q1 q2))
  obtain ⟨ad0, cap0, e0, _⟩ := q0.shape
  obtain ⟨ad1, cap1, e1, _⟩ := q1.shape
  obtain ⟨ad2, cap2, e2, _⟩ := q2.shape
  obtain ⟨adv, nv, capv, ev⟩ := rb_shape h
  subst e0 e1 e2
  unfold localeV
  generalize hn0 : x.lex.length = n0 at *
  generalize hn1 : x.rules.length = n1 at *
  generalize hn2 : x.styles.length = n2 at *
  have HN := hid (And.intro hn0 (And.intro hn1 hn2))
  clear hl q0 q1 q2
  obtain ⟨b3, hb3⟩ : ∃ b3, b3 = w.heap.size := ⟨_, rfl⟩
  have HUP := hid (up_alloc w (.cells #[.string x.id, .int .i64 x.parent, .int .i64 x.digits, .slice ad0 n0 cap0, .slice ad1 n1 cap1, .slice ad2 n2 cap2] 44))
  have HBX := hid (row_new' w (.cells #[.string x.id, .int .i64 x.parent, .int .i64 x.digits, .slice ad0 n0 cap0, .slice ad1 n1 cap1, .slice ad2 n2 cap2] 44) b3 hb3)
  have HR0 := hid (h.on HUP.out)
  obtain ⟨W1, hW1⟩ : ∃ W1, W1 = w.alloc (.cells #[.string x.id, .int .i64 x.parent, .int .i64 x.digits, .slice ad0 n0 cap0, .slice ad1 n1 cap1, .slice ad2 n2 cap2] 44) := ⟨_, rfl⟩
  rw [← hW1] at HUP HBX HR0
  have HH0 := hid (show Hold B b3 #[.string x.id, .int .i64 x.parent, .int .i64 x.digits, .slice ad0 n0 cap0, .slice ad1 n1 cap1, .slice ad2 n2 cap2] W1 W1 from ⟨HBX.out, KeptA.refl _, Below.refl _ _⟩)
  have HBW := hid (hbw.trans (HUP.out.mono (Nat.le_trans hw0 hB)))
  have HB1 := hid (HUP.out.mono hB)
  have HK1 := hid (KeptA.up HUP.out)
  have hsW : B ≤ W1.heap.size := Nat.le_trans hB HUP.out.size
  subst ev
  clear h hbw hn0 hn1 hn2
  have LE : Hid ((encLocale x).length = (encText x.id).length + 16 + (8 + (x.lex.flatMap encEntry).length) + (8 + (x.rules.flatMap encRule).length) + (8 + (x.styles.flatMap encStyle).length)) := hid (by
    unfold encLocale encEntries encRules encStyles encNums
    simp only [List.length_append, numB_length, List.flatMap_cons, List.flatMap_nil, List.length_nil])
  go_enter Tryz.func38, Tryz.ntmps38
  go_wp2
  rw [← hb3, ← hW1]
  clear hb3 hW1
  have y0 : (fun w' : World => (w'.cell? ⟨b3, 0, none⟩ = some (.string x.id) ∧ w'.cell? ⟨b3, 1, none⟩ = some (.int .i64 x.parent) ∧ w'.cell? ⟨b3, 2, none⟩ = some (.int .i64 x.digits) ∧ w'.cell? ⟨b3, 3, none⟩ = some (.slice ad0 n0 cap0)) ∧ Hid (Hold B b3 #[.string x.id, .int .i64 x.parent, .int .i64 x.digits, .slice ad0 n0 cap0, .slice ad1 n1 cap1, .slice ad2 n2 cap2] W1 w')) W1.drew := ⟨⟨HH0.out.cell rfl, HH0.out.cell rfl, HH0.out.cell rfl, HH0.out.cell rfl⟩, hid HH0.out.drew⟩
  have r0 := HR0.out.on (Below.refl _ W1).drew
  go_region_held (fun w' => (w'.cell? ⟨b3, 0, none⟩ = some (.string x.id) ∧ w'.cell? ⟨b3, 1, none⟩ = some (.int .i64 x.parent) ∧ w'.cell? ⟨b3, 2, none⟩ = some (.int .i64 x.digits) ∧ w'.cell? ⟨b3, 3, none⟩ = some (.slice ad0 n0 cap0)) ∧ Hid (Hold B b3 #[.string x.id, .int .i64 x.parent, .int .i64 x.digits, .slice ad0 n0 cap0, .slice ad1 n1 cap1, .slice ad2 n2 cap2] W1 w')) (first | assumption | exact s1_on (by assumption) (by assumption) (by assumption)) (first
    | (go_at_call 75; refine (rtext_any x.id _ bs B _ r0 (by simpa using hsW) (by have := HL.out; have := LE.out; omega)).mono ?_; rintro e w2 ⟨u1, rfl, r1, bb1, kk1⟩; obtain ⟨a1, m1, k1, e1⟩ := rb_shape r1; subst e1; have hs1 : B ≤ w2.heap.size := Nat.le_trans hsW bb1.size)
    | (go_at_call 37; refine (rnum_any x.parent _ (bs ++ encText x.id) B _ r1 hs1 (by have := HL.out; have := LE.out; rw [List.length_append]; omega)).mono ?_; rintro e w3 ⟨u2, rfl, r2, bb2, kk2⟩; obtain ⟨a2, m2, k2, e2⟩ := rb_shape r2; subst e2; have hs2 : B ≤ w3.heap.size := Nat.le_trans hs1 bb2.size; clear r1)
    | (go_at_call 37; refine (rnum_any x.digits _ (bs ++ encText x.id ++ numB x.parent) B _ r2 hs2 (by have := HL.out; have := LE.out; simp only [List.length_append, numB_length]; omega)).mono ?_; rintro e w4 ⟨u3, rfl, r3, bb3, kk3⟩; obtain ⟨a3, m3, k3, e3⟩ := rb_shape r3; subst e3; have hs3 : B ≤ w4.heap.size := Nat.le_trans hs2 bb3.size; clear r2)
    | (go_at_call 37; refine (rnum_any (n0 : Int) _ (bs ++ encText x.id ++ numB x.parent ++ numB x.digits) B _ r3 hs3 (by have := HL.out; have := LE.out; simp only [List.length_append, numB_length]; omega)).mono ?_; rintro e w5 ⟨u4, rfl, r4, bb4, kk4⟩; obtain ⟨a4, m4, k4, e4⟩ := rb_shape r4; subst e4; have hs4 : B ≤ w5.heap.size := Nat.le_trans hs3 bb4.size; clear r3))
  have HH1 := hid (Hid.out (show _ ∧ Hid (Hold B b3 #[.string x.id, .int .i64 x.parent, .int .i64 x.digits, .slice ad0 n0 cap0, .slice ad1 n1 cap1, .slice ad2 n2 cap2] W1 w5) from by assumption).2)
  have HR1 := hid r4
  have HP1 : Hid ((bs ++ encText x.id ++ numB x.parent ++ numB x.digits ++ numB (n0 : Int)).length = bs.length + (encText x.id).length + 24) := hid (by simp only [List.length_append, numB_length])
  have HE1 : Hid (bs ++ encText x.id ++ numB x.parent ++ numB x.digits ++ numB (n0 : Int) ++ x.lex.flatMap encEntry = bs ++ encText x.id ++ encNums [x.parent, x.digits] ++ encEntries x.lex) := hid (by unfold encNums encEntries; rw [HN.out.1]; simp)
  generalize bs ++ encText x.id ++ numB x.parent ++ numB x.digits ++ numB (n0 : Int) = p1 at *
  clear r0 y0 r4 bb1 bb2 bb3 bb4 kk1 kk2 kk3 kk4 hs1 hs2 hs3 hs4
  go_wp2
  go_loopw [0, 5] (fun v0 v5 wr => ∃ j : Nat, j ≤ n0 ∧ v5 = .int .i64 j ∧ RB wr B v0 (p1 ++ (x.lex.take j).flatMap encEntry) ∧ Hold B b3 #[.string x.id, .int .i64 x.parent, .int .i64 x.digits, .slice ad0 n0 cap0, .slice ad1 n1 cap1, .slice ad2 n2 cap2] W1 wr) (fun _ v5 _ => n0 - (intOf v5).toNat)
  case atStart => exact ⟨0, by omega, rfl, by simpa using HR1.out, HH1.out⟩
  case round =>
    obtain ⟨j, hj, rfl, hR, hH⟩ := hrel
    obtain ⟨av, nv', cv, ev⟩ := rb_shape hR
    subst ev
    have c3 : wr.cell? ⟨b3, 3, none⟩ = some (.slice ad0 n0 cap0) := hH.cell rfl
    by_cases hlt : j < n0
    · have hlt2 : (j : Int) < (n0 : Int) := by omega
      obtain ⟨ge, oe, eg, hge, hin⟩ := Entries_get HQ.out.1 (j := j) (by rw [HN.out.1]; exact hlt)
      have HX : Hid (x.lex[j]? = some (x.lex.getD j nilEntry)) := hid (Entry_at (by rw [HN.out.1]; exact hlt))
      have HLJ : Hid (p1.length + ((x.lex.take j).flatMap encEntry).length + (encEntry (x.lex.getD j nilEntry)).length ≤ 900000) := hid (by
        have h2 := flatMap_take encEntry x.lex (j + 1)
        rw [flatMap_snoc encEntry x.lex j _ HX.out, List.length_append] at h2
        have h3 := HP1.out
        have h4 := HL.out
        have h5 := LE.out
        omega)
      generalize x.lex.getD j nilEntry = y at *
      subst eg
      have hgB : ge < B := Nat.lt_of_lt_of_le hge hw0
      obtain ⟨d0, d1, d2⟩ := hin.on (HBW.out.trans (hH.2.2.mono hw0))
      have hsr : B ≤ wr.heap.size := Nat.le_trans hsW hH.2.2.size
      have y0 : (fun w' : World => (w'.cell? ⟨b3, 3, none⟩ = some (.slice (some ⟨ge, oe, none⟩) n0 cap0) ∧ w'.cell? ⟨ge, oe + j * 3, none⟩ = some (.string y.text) ∧ w'.cell? ⟨ge, oe + j * 3 + 1, none⟩ = some (.int .i64 y.cls) ∧ w'.cell? ⟨ge, oe + j * 3 + 2, none⟩ = some (.int .i64 y.val)) ∧ Hid (Hold B b3 #[.string x.id, .int .i64 x.parent, .int .i64 x.digits, .slice (some ⟨ge, oe, none⟩) n0 cap0, .slice ad1 n1 cap1, .slice ad2 n2 cap2] W1 w')) wr.drew := ⟨⟨hH.drew.cell rfl, d0, d1, d2⟩, hid hH.drew⟩
      have r0 := hR.on (Below.refl _ wr).drew
      have HSN : Hid (p1 ++ (x.lex.take (j + 1)).flatMap encEntry = p1 ++ (x.lex.take j).flatMap encEntry ++ encText y.text ++ numB y.cls ++ numB y.val) := hid (by rw [flatMap_snoc encEntry x.lex j y HX.out, encEntry_eq]; simp only [List.append_assoc])
      have HLY : Hid ((encEntry y).length = (encText y.text).length + 16) := hid (by rw [encEntry_eq]; simp only [List.length_append, numB_length])
      generalize hq : p1 ++ (x.lex.take j).flatMap encEntry = q at *
      have HQL : Hid (q.length = p1.length + ((x.lex.take j).flatMap encEntry).length) := hid (by rw [← hq, List.length_append])
      clear hR hH hin hq
      go_wp2_with fail
      go_region_held (fun w' => (w'.cell? ⟨b3, 3, none⟩ = some (.slice (some ⟨ge, oe, none⟩) n0 cap0) ∧ w'.cell? ⟨ge, oe + j * 3, none⟩ = some (.string y.text) ∧ w'.cell? ⟨ge, oe + j * 3 + 1, none⟩ = some (.int .i64 y.cls) ∧ w'.cell? ⟨ge, oe + j * 3 + 2, none⟩ = some (.int .i64 y.val)) ∧ Hid (Hold B b3 #[.string x.id, .int .i64 x.parent, .int .i64 x.digits, .slice (some ⟨ge, oe, none⟩) n0 cap0, .slice ad1 n1 cap1, .slice ad2 n2 cap2] W1 w')) (first | assumption | exact s5_on hgB (by assumption) (by assumption) (by assumption)) (first
        | (go_at_call 75; refine (rtext_any y.text _ q B _ r0 (by simpa using hsr) (by have := HLJ.out; have := HLY.out; have := HQL.out; omega)).mono ?_; rintro e w2 ⟨u1, rfl, r1, bb1, kk1⟩; obtain ⟨a1, m1, k1, e1⟩ := rb_shape r1; subst e1; have hs1 : B ≤ w2.heap.size := Nat.le_trans hsr bb1.size)
        | (go_at_call 37; refine (rnum_any y.cls _ (q ++ encText y.text) B _ r1 hs1 (by have := HLJ.out; have := HLY.out; have := HQL.out; simp only [List.length_append]; omega)).mono ?_; rintro e w3 ⟨u2, rfl, r2, bb2, kk2⟩; obtain ⟨a2, m2, k2, e2⟩ := rb_shape r2; subst e2; have hs2 : B ≤ w3.heap.size := Nat.le_trans hs1 bb2.size; clear r1)
        | (go_at_call 37; refine (rnum_any y.val _ (q ++ encText y.text ++ numB y.cls) B _ r2 hs2 (by have := HLJ.out; have := HLY.out; have := HQL.out; simp only [List.length_append, numB_length]; omega)).mono ?_; rintro e w4 ⟨u3, rfl, r3, bb3, kk3⟩; obtain ⟨a3, m3, k3, e3⟩ := rb_shape r3; subst e3; have hs3 : B ≤ w4.heap.size := Nat.le_trans hs2 bb3.size; clear r2))
      have HH2 := hid (Hid.out (show _ ∧ Hid (Hold B b3 #[.string x.id, .int .i64 x.parent, .int .i64 x.digits, .slice (some ⟨ge, oe, none⟩) n0 cap0, .slice ad1 n1 cap1, .slice ad2 n2 cap2] W1 w4) from by assumption).2)
      go_wp2
      go_roundw
      case rel => exact ⟨j + 1, by omega, by simp, by rw [HSN.out]; exact r3, HH2.out⟩
      case measure => simp [intOf]; omega
    · have HR2 : Hid (RB wr B (.slice av nv' cv) (p1 ++ x.lex.flatMap encEntry)) := hid (by have := hR; rwa [List.take_of_length_le (by rw [HN.out.1]; omega)] at this)
      have HH2 := hid hH
      have c4 : wr.cell? ⟨b3, 4, none⟩ = some (.slice ad1 n1 cap1) := hH.cell rfl
      have hsr : B ≤ wr.heap.size := Nat.le_trans hsW hH.2.2.size
      have HQ1 : Hid ((p1 ++ x.lex.flatMap encEntry).length = bs.length + (encText x.id).length + 24 + (x.lex.flatMap encEntry).length) := hid (by rw [List.length_append, HP1.out])
      generalize p1 ++ x.lex.flatMap encEntry = q1 at *
      obtain rfl : n0 = j := by omega
      clear hR hH
      go_wp2_with fail
      refine (rnum_any (n1 : Int) _ q1 B wr HR2.out hsr (by have := HQ1.out; have := HL.out; have := LE.out; omega)).mono ?_
      rintro e w6 ⟨v6, rfl, r6, bb6, kk6⟩
      obtain ⟨a6, m6, k6, e6⟩ := rb_shape r6
      subst e6
      have HR3 := hid r6
      have HH3 := hid (HH2.out.on bb6 kk6)
      have HP2 : Hid ((q1 ++ numB (n1 : Int)).length = bs.length + (encText x.id).length + 32 + (x.lex.flatMap encEntry).length) := hid (by rw [List.length_append, numB_length, HQ1.out]; omega)
      have HE2 : Hid (q1 ++ numB (n1 : Int) ++ x.rules.flatMap encRule = bs ++ encText x.id ++ encNums [x.parent, x.digits] ++ encEntries x.lex ++ encRules x.rules) := hid (by rw [HE1.out]; unfold encRules; rw [HN.out.2.1]; simp only [List.append_assoc])
      generalize q1 ++ numB (n1 : Int) = p2 at *
      clear r6 bb6 kk6 c3 c4
      go_wp2
      go_loopw [0, 6] (fun v0 v6 wr => ∃ j : Nat, j ≤ n1 ∧ v6 = .int .i64 j ∧ RB wr B v0 (p2 ++ (x.rules.take j).flatMap encRule) ∧ Hold B b3 #[.string x.id, .int .i64 x.parent, .int .i64 x.digits, .slice ad0 n0 cap0, .slice ad1 n1 cap1, .slice ad2 n2 cap2] W1 wr) (fun _ v6 _ => n1 - (intOf v6).toNat)
      case atStart => exact ⟨0, by omega, rfl, by simpa using HR3.out, HH3.out⟩
      case round =>
      obtain ⟨j', hj', rfl, hR, hH⟩ := hrel
      obtain ⟨av', nv'', cv', ev'⟩ := rb_shape hR
      subst ev'
      have c4 : wr.cell? ⟨b3, 4, none⟩ = some (.slice ad1 n1 cap1) := hH.cell rfl
      by_cases hlt' : j' < n1
      · have hlt2' : (j' : Int) < (n1 : Int) := by omega
        obtain ⟨gr, orr, eg, hgr, hin⟩ := Rules_get HQ.out.2.1 (j := j') (by rw [HN.out.2.1]; exact hlt')
        have HX : Hid (x.rules[j']? = some (x.rules.getD j' nilRule)) := hid (rule_at (by rw [HN.out.2.1]; exact hlt'))
        have HLJ : Hid (p2.length + ((x.rules.take j').flatMap encRule).length + (encRule (x.rules.getD j' nilRule)).length ≤ 900000) := hid (by
          have h2 := flatMap_take encRule x.rules (j' + 1)
          rw [flatMap_snoc encRule x.rules j' _ HX.out, List.length_append] at h2
          have h3 := HP2.out
          have h4 := HL.out
          have h5 := LE.out
          omega)
        generalize x.rules.getD j' nilRule = y at *
        subst eg
        obtain ⟨sv, pv, d0, d1, d2, d3, d4, rr1, rr2⟩ := hin
        have HRW := hid (And.intro rr1 rr2)
        have hbB := HBW.out.trans (hH.2.2.mono hw0)
        replace d0 := (hbB.cell (lt_of_cell d0)).trans d0
        replace d1 := (hbB.cell (lt_of_cell d1)).trans d1
        replace d2 := (hbB.cell (lt_of_cell d2)).trans d2
        replace d3 := (hbB.cell (lt_of_cell d3)).trans d3
        replace d4 := (hbB.cell (lt_of_cell d4)).trans d4
        obtain ⟨as1, cs1, es1, _⟩ := rr1
        obtain ⟨as2, cs2, es2, _⟩ := rr2
        obtain ⟨ns1, hns1⟩ : ∃ ns1, ns1 = y.rhs.length := ⟨_, rfl⟩
        obtain ⟨ns2, hns2⟩ : ∃ ns2, ns2 = y.p.length := ⟨_, rfl⟩
        rw [← hns1] at es1
        rw [← hns2] at es2
        subst es1 es2
        clear hns1 hns2
        have hgl : gr < wr.heap.size := lt_of_cell d0
        obtain ⟨b7, hb7⟩ : ∃ b7, b7 = wr.heap.size := ⟨_, rfl⟩
        have HU7 := hid (up_alloc wr (.cells #[.int .i64 y.lhs, .slice as1 ns1 cs1, .int .i64 y.op, .slice as2 ns2 cs2, .int .i64 y.cost] 56))
        have H7 := hid (row_new' wr (.cells #[.int .i64 y.lhs, .slice as1 ns1 cs1, .int .i64 y.op, .slice as2 ns2 cs2, .int .i64 y.cost] 56) b7 hb7)
        obtain ⟨wq, hwq⟩ : ∃ wq, wq = wr.alloc (.cells #[.int .i64 y.lhs, .slice as1 ns1 cs1, .int .i64 y.op, .slice as2 ns2 cs2, .int .i64 y.cost] 56) := ⟨_, rfl⟩
        have hsr0 : B ≤ wr.heap.size := Nat.le_trans hsW hH.2.2.size
        rw [← hwq] at HU7 H7
        have hsr : B ≤ wq.heap.size := Nat.le_trans hsr0 HU7.out.size
        have hHq := hH.on (HU7.out.mono hsr0) (KeptA.up HU7.out)
        have y0 : (fun w' : World => (w'.cell? ⟨b7, 0, none⟩ = some (.int .i64 y.lhs) ∧ w'.cell? ⟨b7, 1, none⟩ = some (.slice as1 ns1 cs1) ∧ w'.cell? ⟨b7, 2, none⟩ = some (.int .i64 y.op) ∧ w'.cell? ⟨b7, 3, none⟩ = some (.slice as2 ns2 cs2) ∧ w'.cell? ⟨b7, 4, none⟩ = some (.int .i64 y.cost)) ∧ Hid (Hold B b3 #[.string x.id, .int .i64 x.parent, .int .i64 x.digits, .slice ad0 n0 cap0, .slice (some ⟨gr, orr, none⟩) n1 cap1, .slice ad2 n2 cap2] W1 w' ∧ w'.heap[b7]? = some (.cells #[.int .i64 y.lhs, .slice as1 ns1 cs1, .int .i64 y.op, .slice as2 ns2 cs2, .int .i64 y.cost] 56 (0, 0)))) wq.drew := s11_on (Below.refl _ _).drew (KeptA.up (Below.refl _ _).drew) ⟨⟨by rw [cell_of_row _ _ _ _ _ _ H7.out]; rfl, by rw [cell_of_row _ _ _ _ _ _ H7.out]; rfl, by rw [cell_of_row _ _ _ _ _ _ H7.out]; rfl, by rw [cell_of_row _ _ _ _ _ _ H7.out]; rfl, by rw [cell_of_row _ _ _ _ _ _ H7.out]; rfl⟩, hid ⟨hHq, H7.out⟩⟩
        have r0 := (hR.on HU7.out).on (Below.refl _ wq).drew
        have HSN : Hid (p2 ++ (x.rules.take (j' + 1)).flatMap encRule = p2 ++ (x.rules.take j').flatMap encRule ++ numB y.lhs ++ encInts y.rhs ++ numB y.op ++ encInts y.p ++ numB y.cost) := hid (by rw [flatMap_snoc encRule x.rules j' y HX.out]; unfold encRule; simp only [List.append_assoc])
        have HLY : Hid ((encRule y).length = (encInts y.rhs).length + (encInts y.p).length + 24) := hid (by unfold encRule; simp only [List.length_append, numB_length]; omega)
        generalize hq : p2 ++ (x.rules.take j').flatMap encRule = q at *
        have HQL : Hid (q.length = p2.length + ((x.rules.take j').flatMap encRule).length) := hid (by rw [← hq, List.length_append])
        clear hR hH hHq hq hbB hsr0
        go_wp2_with fail
        rw [← hb7, ← hwq]
        clear hb7 hwq d0 d1 d2 d3 d4 c4
        go_region_held (fun w' => (w'.cell? ⟨b7, 0, none⟩ = some (.int .i64 y.lhs) ∧ w'.cell? ⟨b7, 1, none⟩ = some (.slice as1 ns1 cs1) ∧ w'.cell? ⟨b7, 2, none⟩ = some (.int .i64 y.op) ∧ w'.cell? ⟨b7, 3, none⟩ = some (.slice as2 ns2 cs2) ∧ w'.cell? ⟨b7, 4, none⟩ = some (.int .i64 y.cost)) ∧ Hid (Hold B b3 #[.string x.id, .int .i64 x.parent, .int .i64 x.digits, .slice ad0 n0 cap0, .slice (some ⟨gr, orr, none⟩) n1 cap1, .slice ad2 n2 cap2] W1 w' ∧ w'.heap[b7]? = some (.cells #[.int .i64 y.lhs, .slice as1 ns1 cs1, .int .i64 y.op, .slice as2 ns2 cs2, .int .i64 y.cost] 56 (0, 0)))) (first | assumption | exact s11_on (by assumption) (by assumption) (by assumption)) (first
          | (go_at_call 37; refine (rnum_any y.lhs _ (q) B _ r0 (by simpa using hsr) (by have := HLJ.out; have := HLY.out; have := HQL.out; (try simp only [List.length_append, numB_length]); omega)).mono ?_; rintro e wz1 ⟨u1, rfl, r1, bb1, kk1⟩; obtain ⟨a1, m1, k1, e1⟩ := rb_shape r1; subst e1; have hs1 : B ≤ wz1.heap.size := Nat.le_trans hsr bb1.size; clear r0)
          | (go_at_call 76; refine (rints_any y.rhs _ _ (q ++ numB y.lhs) B w0 _ r1 hs1 HRW.out.1 hw0 (HBW.out.trans ((h2_below (by assumption)).mono hw0)) (by have := HLJ.out; have := HLY.out; have := HQL.out; (try simp only [List.length_append, numB_length]); omega)).mono ?_; rintro e wz2 ⟨u2, rfl, r2, bb2, kk2⟩; obtain ⟨a2, m2, k2, e2⟩ := rb_shape r2; subst e2; have hs2 : B ≤ wz2.heap.size := Nat.le_trans hs1 bb2.size; clear r1)
          | (go_at_call 37; refine (rnum_any y.op _ (q ++ numB y.lhs ++ encInts y.rhs) B _ r2 hs2 (by have := HLJ.out; have := HLY.out; have := HQL.out; (try simp only [List.length_append, numB_length]); omega)).mono ?_; rintro e wz3 ⟨u3, rfl, r3, bb3, kk3⟩; obtain ⟨a3, m3, k3, e3⟩ := rb_shape r3; subst e3; have hs3 : B ≤ wz3.heap.size := Nat.le_trans hs2 bb3.size; clear r2)
          | (go_at_call 76; refine (rints_any y.p _ _ (q ++ numB y.lhs ++ encInts y.rhs ++ numB y.op) B w0 _ r3 hs3 HRW.out.2 hw0 (HBW.out.trans ((h2_below (by assumption)).mono hw0)) (by have := HLJ.out; have := HLY.out; have := HQL.out; (try simp only [List.length_append, numB_length]); omega)).mono ?_; rintro e wz4 ⟨u4, rfl, r4, bb4, kk4⟩; obtain ⟨a4, m4, k4, e4⟩ := rb_shape r4; subst e4; have hs4 : B ≤ wz4.heap.size := Nat.le_trans hs3 bb4.size; clear r3)
          | (go_at_call 37; refine (rnum_any y.cost _ (q ++ numB y.lhs ++ encInts y.rhs ++ numB y.op ++ encInts y.p) B _ r4 hs4 (by have := HLJ.out; have := HLY.out; have := HQL.out; (try simp only [List.length_append, numB_length]); omega)).mono ?_; rintro e wz5 ⟨u5, rfl, r5, bb5, kk5⟩; obtain ⟨a5, m5, k5, e5⟩ := rb_shape r5; subst e5; have hs5 : B ≤ wz5.heap.size := Nat.le_trans hs4 bb5.size; clear r4))
        have HH4 := hid (Hid.out (show _ ∧ Hid (Hold B b3 #[.string x.id, .int .i64 x.parent, .int .i64 x.digits, .slice ad0 n0 cap0, .slice (some ⟨gr, orr, none⟩) n1 cap1, .slice ad2 n2 cap2] W1 wz5 ∧ _) from by assumption).2).1
        go_wp2
        go_roundw
        case rel => exact ⟨j' + 1, by omega, by simp, by rw [HSN.out]; exact r5, HH4.out⟩
        case measure => simp [intOf]; omega
      · have HR4 : Hid (RB wr B (.slice av' nv'' cv') (p2 ++ x.rules.flatMap encRule)) := hid (by have := hR; rwa [List.take_of_length_le (by rw [HN.out.2.1]; omega)] at this)
        have HH4 := hid hH
        have c5 : wr.cell? ⟨b3, 5, none⟩ = some (.slice ad2 n2 cap2) := hH.cell rfl
        have hsr : B ≤ wr.heap.size := Nat.le_trans hsW hH.2.2.size
        have HQ2 : Hid ((p2 ++ x.rules.flatMap encRule).length = bs.length + (encText x.id).length + 32 + (x.lex.flatMap encEntry).length + (x.rules.flatMap encRule).length) := hid (by rw [List.length_append, HP2.out])
        generalize p2 ++ x.rules.flatMap encRule = q2 at *
        obtain rfl : n1 = j' := by omega
        clear hR hH
        go_wp2_with fail
        refine (rnum_any (n2 : Int) _ q2 B wr HR4.out hsr (by have := HQ2.out; have := HL.out; have := LE.out; omega)).mono ?_
        rintro e w7 ⟨v7, rfl, r7, bb7, kk7⟩
        obtain ⟨a7, m7, k7, e7⟩ := rb_shape r7
        subst e7
        have HR5 := hid r7
        have HH5 := hid (HH4.out.on bb7 kk7)
        have HP3 : Hid ((q2 ++ numB (n2 : Int)).length = bs.length + (encText x.id).length + 40 + (x.lex.flatMap encEntry).length + (x.rules.flatMap encRule).length) := hid (by rw [List.length_append, numB_length, HQ2.out]; omega)
        have HE3 : Hid (q2 ++ numB (n2 : Int) ++ x.styles.flatMap encStyle = bs ++ encLocale x) := hid (by rw [HE2.out]; unfold encLocale encStyles; rw [HN.out.2.2]; simp only [List.append_assoc])
        generalize q2 ++ numB (n2 : Int) = p3 at *
        clear r7 bb7 kk7 c4 c5
        go_wp2
        go_loopw [0, 8] (fun v0 v8 wr => ∃ i : Nat, i ≤ n2 ∧ v8 = .int .i64 i ∧ RB wr B v0 (p3 ++ (x.styles.take i).flatMap encStyle) ∧ Hold B b3 #[.string x.id, .int .i64 x.parent, .int .i64 x.digits, .slice ad0 n0 cap0, .slice ad1 n1 cap1, .slice ad2 n2 cap2] W1 wr) (fun _ v8 _ => n2 - (intOf v8).toNat)
        case atStart => exact ⟨0, by omega, rfl, by simpa using HR5.out, HH5.out⟩
        case round =>
        obtain ⟨i, hi, rfl, hR, hH⟩ := hrel
        obtain ⟨av3, nv3, cv3, ev3⟩ := rb_shape hR
        subst ev3
        have c5 : wr.cell? ⟨b3, 5, none⟩ = some (.slice ad2 n2 cap2) := hH.cell rfl
        by_cases hlt3 : i < n2
        · have hlt3' : (i : Int) < (n2 : Int) := by omega
          obtain ⟨gs, os, eg, hgs, hin⟩ := Styles_get HQ.out.2.2 (j := i) (by rw [HN.out.2.2]; exact hlt3)
          have HX : Hid (x.styles[i]? = some (x.styles.getD i nilStyle)) := hid (Style_at (by rw [HN.out.2.2]; exact hlt3))
          have HLJ : Hid (p3.length + ((x.styles.take i).flatMap encStyle).length + (encStyle (x.styles.getD i nilStyle)).length ≤ 900000) := hid (by
            have h2 := flatMap_take encStyle x.styles (i + 1)
            rw [flatMap_snoc encStyle x.styles i _ HX.out, List.length_append] at h2
            have h3 := HP3.out
            have h4 := HL.out
            have h5 := LE.out
            omega)
          generalize x.styles.getD i nilStyle = y at *
          subst eg
          obtain ⟨pv, d0, d1, hpp⟩ := hin
          have HPP := hid hpp
          have D0 := hid d0
          have D1 := hid d1
          obtain ⟨adp, capp, ep, hpb⟩ := hpp.shape
          obtain ⟨np, hnp⟩ : ∃ np, np = y.parts.length := ⟨_, rfl⟩
          rw [← hnp] at ep hpb
          have HNP := hid hnp.symm
          subst ep
          have hgB : gs < B := Nat.lt_of_lt_of_le hgs hw0
          have hbB := HBW.out.trans (hH.2.2.mono hw0)
          replace d0 := (hbB.cell (lt_of_cell d0)).trans d0
          replace d1 := (hbB.cell (lt_of_cell d1)).trans d1
          have hsr : B ≤ wr.heap.size := Nat.le_trans hsW hH.2.2.size
          have y0 : (fun w' : World => (w'.cell? ⟨b3, 5, none⟩ = some (.slice (some ⟨gs, os, none⟩) n2 cap2) ∧ w'.cell? ⟨gs, os + i * 2, none⟩ = some (.int .i64 y.kind) ∧ w'.cell? ⟨gs, os + i * 2 + 1, none⟩ = some (.slice adp np capp)) ∧ Hid (Hold B b3 #[.string x.id, .int .i64 x.parent, .int .i64 x.digits, .slice ad0 n0 cap0, .slice ad1 n1 cap1, .slice (some ⟨gs, os, none⟩) n2 cap2] W1 w')) wr.drew := ⟨⟨hH.drew.cell rfl, d0, d1⟩, hid hH.drew⟩
          have r0 := hR.on (Below.refl _ wr).drew
          have HSN : Hid (p3 ++ (x.styles.take (i + 1)).flatMap encStyle = p3 ++ (x.styles.take i).flatMap encStyle ++ numB y.kind ++ numB (np : Int) ++ y.parts.flatMap encPart) := hid (by rw [flatMap_snoc encStyle x.styles i y HX.out]; unfold encStyle encParts; rw [HNP.out]; simp only [List.append_assoc])
          have HLY : Hid ((encStyle y).length = 16 + (y.parts.flatMap encPart).length) := hid (by unfold encStyle encParts; simp only [List.length_append, numB_length]; omega)
          generalize hq : p3 ++ (x.styles.take i).flatMap encStyle = q at *
          have HQL : Hid (q.length = p3.length + ((x.styles.take i).flatMap encStyle).length) := hid (by rw [← hq, List.length_append])
          clear hR hH hq hbB hpp hnp
          go_wp2_with fail
          go_region_held (fun w' => (w'.cell? ⟨b3, 5, none⟩ = some (.slice (some ⟨gs, os, none⟩) n2 cap2) ∧ w'.cell? ⟨gs, os + i * 2, none⟩ = some (.int .i64 y.kind) ∧ w'.cell? ⟨gs, os + i * 2 + 1, none⟩ = some (.slice adp np capp)) ∧ Hid (Hold B b3 #[.string x.id, .int .i64 x.parent, .int .i64 x.digits, .slice ad0 n0 cap0, .slice ad1 n1 cap1, .slice (some ⟨gs, os, none⟩) n2 cap2] W1 w')) (first | assumption | exact s16_on hgB (by assumption) (by assumption) (by assumption)) (first
            | (go_at_call 37; refine (rnum_any y.kind _ (q) B _ r0 (by simpa using hsr) (by have := HLJ.out; have := HLY.out; have := HQL.out; (try simp only [List.length_append, numB_length]); omega)).mono ?_; rintro e wz1 ⟨u1, rfl, r1, bb1, kk1⟩; obtain ⟨a1, m1, k1, e1⟩ := rb_shape r1; subst e1; have hs1 : B ≤ wz1.heap.size := Nat.le_trans hsr bb1.size; clear r0)
            | (go_at_call 37; refine (rnum_any (np : Int) _ (q ++ numB y.kind) B _ r1 hs1 (by have := HLJ.out; have := HLY.out; have := HQL.out; (try simp only [List.length_append, numB_length]); omega)).mono ?_; rintro e wz2 ⟨u2, rfl, r2, bb2, kk2⟩; obtain ⟨a2, m2, k2, e2⟩ := rb_shape r2; subst e2; have hs2 : B ≤ wz2.heap.size := Nat.le_trans hs1 bb2.size; clear r1))
          have HH6 := hid (Hid.out (show _ ∧ Hid (Hold B b3 #[.string x.id, .int .i64 x.parent, .int .i64 x.digits, .slice ad0 n0 cap0, .slice ad1 n1 cap1, .slice (some ⟨gs, os, none⟩) n2 cap2] W1 wz2) from by assumption).2)
          have HR6 := hid r2
          have HP4 : Hid ((q ++ numB y.kind ++ numB (np : Int)).length = q.length + 16) := hid (by simp only [List.length_append, numB_length])
          generalize q ++ numB y.kind ++ numB (np : Int) = p4 at *
          clear r2 bb1 bb2 kk1 kk2 hs1 hs2 d0 d1 c5 y0 hsr
          go_wp2
          go_loopw [0, 9] (fun v0 v9 wr => ∃ k : Nat, k ≤ np ∧ v9 = .int .i64 k ∧ RB wr B v0 (p4 ++ (y.parts.take k).flatMap encPart) ∧ Hold B b3 #[.string x.id, .int .i64 x.parent, .int .i64 x.digits, .slice ad0 n0 cap0, .slice ad1 n1 cap1, .slice (some ⟨gs, os, none⟩) n2 cap2] W1 wr) (fun _ v9 _ => np - (intOf v9).toNat)
          case atStart => exact ⟨0, by omega, rfl, by simpa using HR6.out, HH6.out⟩
          case round =>
          obtain ⟨k, hk, rfl, hR, hH⟩ := hrel
          obtain ⟨av4, nv4, cv4, ev4⟩ := rb_shape hR
          subst ev4
          have c5 : wr.cell? ⟨b3, 5, none⟩ = some (.slice (some ⟨gs, os, none⟩) n2 cap2) := hH.cell rfl
          have hbB := HBW.out.trans (hH.2.2.mono hw0)
          have d1 := (hbB.cell (lt_of_cell D1.out)).trans D1.out
          by_cases hlt4 : k < np
          · have hlt4' : (k : Int) < (np : Int) := by omega
            obtain ⟨gp, op, eg, hgp, hin⟩ := Parts_get HPP.out (j := k) (by rw [HNP.out]; exact hlt4)
            have HXP : Hid (y.parts[k]? = some (y.parts.getD k nilPart)) := hid (Part_at (by rw [HNP.out]; exact hlt4))
            have HLJ2 : Hid (p4.length + ((y.parts.take k).flatMap encPart).length + (encPart (y.parts.getD k nilPart)).length ≤ 900000) := hid (by
              have h2 := flatMap_take encPart y.parts (k + 1)
              rw [flatMap_snoc encPart y.parts k _ HXP.out, List.length_append] at h2
              have h3 := HP4.out
              have h4 := HLJ.out
              have h5 := HLY.out
              have h6 := HQL.out
              omega)
            generalize y.parts.getD k nilPart = z at *
            subst eg
            obtain ⟨f0, f1, f2, f3, f4⟩ := hin.on hbB
            have hgl : gp < wr.heap.size := lt_of_cell f0
            obtain ⟨b7, hb7⟩ : ∃ b7, b7 = wr.heap.size := ⟨_, rfl⟩
            have HU7 := hid (up_alloc wr (.cells #[.int .i64 z.kind, .string z.text, .int .i64 z.field, .int .i64 z.width, .int .i64 z.cls] 48))
            have H7 := hid (row_new' wr (.cells #[.int .i64 z.kind, .string z.text, .int .i64 z.field, .int .i64 z.width, .int .i64 z.cls] 48) b7 hb7)
            obtain ⟨wq, hwq⟩ : ∃ wq, wq = wr.alloc (.cells #[.int .i64 z.kind, .string z.text, .int .i64 z.field, .int .i64 z.width, .int .i64 z.cls] 48) := ⟨_, rfl⟩
            have hsr0 : B ≤ wr.heap.size := Nat.le_trans hsW hH.2.2.size
            rw [← hwq] at HU7 H7
            have hsr : B ≤ wq.heap.size := Nat.le_trans hsr0 HU7.out.size
            have hHq := hH.on (HU7.out.mono hsr0) (KeptA.up HU7.out)
            have y0 : (fun w' : World => (w'.cell? ⟨b7, 0, none⟩ = some (.int .i64 z.kind) ∧ w'.cell? ⟨b7, 1, none⟩ = some (.string z.text) ∧ w'.cell? ⟨b7, 2, none⟩ = some (.int .i64 z.field) ∧ w'.cell? ⟨b7, 3, none⟩ = some (.int .i64 z.width) ∧ w'.cell? ⟨b7, 4, none⟩ = some (.int .i64 z.cls)) ∧ Hid (Hold B b3 #[.string x.id, .int .i64 x.parent, .int .i64 x.digits, .slice ad0 n0 cap0, .slice ad1 n1 cap1, .slice (some ⟨gs, os, none⟩) n2 cap2] W1 w' ∧ w'.heap[b7]? = some (.cells #[.int .i64 z.kind, .string z.text, .int .i64 z.field, .int .i64 z.width, .int .i64 z.cls] 48 (0, 0)))) wq.drew := s21_on (Below.refl _ _).drew (KeptA.up (Below.refl _ _).drew) ⟨⟨by rw [cell_of_row _ _ _ _ _ _ H7.out]; rfl, by rw [cell_of_row _ _ _ _ _ _ H7.out]; rfl, by rw [cell_of_row _ _ _ _ _ _ H7.out]; rfl, by rw [cell_of_row _ _ _ _ _ _ H7.out]; rfl, by rw [cell_of_row _ _ _ _ _ _ H7.out]; rfl⟩, hid ⟨hHq, H7.out⟩⟩
            have r0 := (hR.on HU7.out).on (Below.refl _ wq).drew
            have HSN2 : Hid (p4 ++ (y.parts.take (k + 1)).flatMap encPart = p4 ++ (y.parts.take k).flatMap encPart ++ numB z.kind ++ encText z.text ++ numB z.field ++ numB z.width ++ numB z.cls) := hid (by rw [flatMap_snoc encPart y.parts k z HXP.out, encPart_eq]; simp only [List.append_assoc])
            have HLZ : Hid ((encPart z).length = (encText z.text).length + 32) := hid (by rw [encPart_eq]; simp only [List.length_append, numB_length]; omega)
            generalize hq : p4 ++ (y.parts.take k).flatMap encPart = q at *
            have HQL2 : Hid (q.length = p4.length + ((y.parts.take k).flatMap encPart).length) := hid (by rw [← hq, List.length_append])
            clear hR hH hHq hq hbB hsr0
            go_wp2_with fail
            rw [← hb7, ← hwq]
            clear hb7 hwq f0 f1 f2 f3 f4 c5 d1
            go_region_held (fun w' => (w'.cell? ⟨b7, 0, none⟩ = some (.int .i64 z.kind) ∧ w'.cell? ⟨b7, 1, none⟩ = some (.string z.text) ∧ w'.cell? ⟨b7, 2, none⟩ = some (.int .i64 z.field) ∧ w'.cell? ⟨b7, 3, none⟩ = some (.int .i64 z.width) ∧ w'.cell? ⟨b7, 4, none⟩ = some (.int .i64 z.cls)) ∧ Hid (Hold B b3 #[.string x.id, .int .i64 x.parent, .int .i64 x.digits, .slice ad0 n0 cap0, .slice ad1 n1 cap1, .slice (some ⟨gs, os, none⟩) n2 cap2] W1 w' ∧ w'.heap[b7]? = some (.cells #[.int .i64 z.kind, .string z.text, .int .i64 z.field, .int .i64 z.width, .int .i64 z.cls] 48 (0, 0)))) (first | assumption | exact s21_on (by assumption) (by assumption) (by assumption)) (first
              | (go_at_call 37; refine (rnum_any z.kind _ (q) B _ r0 (by simpa using hsr) (by have := HLJ2.out; have := HLZ.out; have := HQL2.out; (try simp only [List.length_append, numB_length]); omega)).mono ?_; rintro e wz1 ⟨u1, rfl, r1, bb1, kk1⟩; obtain ⟨a1, m1, k1, e1⟩ := rb_shape r1; subst e1; have hs1 : B ≤ wz1.heap.size := Nat.le_trans hsr bb1.size; clear r0)
              | (go_at_call 75; refine (rtext_any z.text _ (q ++ numB z.kind) B _ r1 hs1 (by have := HLJ2.out; have := HLZ.out; have := HQL2.out; (try simp only [List.length_append, numB_length]); omega)).mono ?_; rintro e wz2 ⟨u2, rfl, r2, bb2, kk2⟩; obtain ⟨a2, m2, k2, e2⟩ := rb_shape r2; subst e2; have hs2 : B ≤ wz2.heap.size := Nat.le_trans hs1 bb2.size; clear r1)
              | (go_at_call 37; refine (rnum_any z.field _ (q ++ numB z.kind ++ encText z.text) B _ r2 hs2 (by have := HLJ2.out; have := HLZ.out; have := HQL2.out; (try simp only [List.length_append, numB_length]); omega)).mono ?_; rintro e wz3 ⟨u3, rfl, r3, bb3, kk3⟩; obtain ⟨a3, m3, k3, e3⟩ := rb_shape r3; subst e3; have hs3 : B ≤ wz3.heap.size := Nat.le_trans hs2 bb3.size; clear r2)
              | (go_at_call 37; refine (rnum_any z.width _ (q ++ numB z.kind ++ encText z.text ++ numB z.field) B _ r3 hs3 (by have := HLJ2.out; have := HLZ.out; have := HQL2.out; (try simp only [List.length_append, numB_length]); omega)).mono ?_; rintro e wz4 ⟨u4, rfl, r4, bb4, kk4⟩; obtain ⟨a4, m4, k4, e4⟩ := rb_shape r4; subst e4; have hs4 : B ≤ wz4.heap.size := Nat.le_trans hs3 bb4.size; clear r3)
              | (go_at_call 37; refine (rnum_any z.cls _ (q ++ numB z.kind ++ encText z.text ++ numB z.field ++ numB z.width) B _ r4 hs4 (by have := HLJ2.out; have := HLZ.out; have := HQL2.out; (try simp only [List.length_append, numB_length]); omega)).mono ?_; rintro e wz5 ⟨u5, rfl, r5, bb5, kk5⟩; obtain ⟨a5, m5, k5, e5⟩ := rb_shape r5; subst e5; have hs5 : B ≤ wz5.heap.size := Nat.le_trans hs4 bb5.size; clear r4))
            have HH8 := hid (Hid.out (show _ ∧ Hid (Hold B b3 #[.string x.id, .int .i64 x.parent, .int .i64 x.digits, .slice ad0 n0 cap0, .slice ad1 n1 cap1, .slice (some ⟨gs, os, none⟩) n2 cap2] W1 wz5 ∧ _) from by assumption).2).1
            go_wp2
            go_roundw
            case rel => exact ⟨k + 1, by omega, by simp, by rw [HSN2.out]; exact r5, HH8.out⟩
            case measure => simp [intOf]; omega
          · have HR7 : Hid (RB wr B (.slice av4 nv4 cv4) (p4 ++ y.parts.flatMap encPart)) := hid (by have := hR; rwa [List.take_of_length_le (by rw [HNP.out]; omega)] at this)
            have HH7 := hid hH
            have hkn : ¬ (k : Int) < (np : Int) := by omega
            obtain rfl : np = k := by omega
            clear hR hH hbB
            go_wp2
            go_roundw
            case rel => exact ⟨i + 1, by omega, by simp, by rw [HSN.out]; exact HR7.out, HH7.out⟩
            case measure => simp [intOf]; omega
        · have HR8 : Hid (RB wr B (.slice av3 nv3 cv3) (bs ++ encLocale x)) := hid (by have := hR; rw [List.take_of_length_le (by rw [HN.out.2.2]; omega), HE3.out] at this; exact this)
          have HH8 := hid hH
          obtain rfl : n2 = i := by omega
          clear hR hH
          go_wp2
          go_ret
          exact ⟨_, rfl, HR8.out, HB1.out.trans HH8.out.2.2, HK1.out.trans HH8.out.2.1⟩
end Go.Proofs.YtohgaknojkdohaaGreatDoor

/- Locales as bytes: what the reference's Encode answers. -/
namespace Go.Proofs.YtohgaknojkdohaaGreatDoor
open Go.RowKit Gr

set_option maxRecDepth 8000 in
theorem rencode_any (ls : List Locale) (v : Value) (w : World) (hl : LocalesAt w v ls) (hlen : (encLocales ls).length ≤ 800000) :
    Calls Tryz.prog 17 #[v] w (Added w.heap.size w (encLocales ls)) := by
  have HA := hid hl
  have hl' := hlen
  unfold encLocales at hl'
  rw [List.length_append, numB_length] at hl'
  have HL := hid hl'
  obtain ⟨ad, cap, rfl, hm, _, hc⟩ := hl
  have HC := hid hc
  have HN0 := hid (rnum_any (ls.length : Int) _ [] w.heap.size w (RB.nil _ _) (Nat.le_refl _) (by simp))
  rw [List.nil_append] at HN0
  clear hc hlen hl'
  generalize hn : ls.length = n at *
  have HN := hid hn
  clear hn
  go_enter Tryz.func17, Tryz.ntmps17
  go_wp2_with fail
  refine HN0.out.mono ?_
  rintro e w1 ⟨v1, rfl, r1, bb1, kk1⟩
  obtain ⟨a1, m1, k1, e1⟩ := rb_shape r1
  subst e1
  have HR1 := hid r1
  have HB1 := hid bb1
  have HK1 := hid kk1
  clear r1 bb1 kk1
  go_wp2
  go_loopw [3, 4] (fun v3 v4 wr => ∃ j : Nat, j ≤ n ∧ v4 = .int .i64 j ∧ RB wr w.heap.size v3 (numB (n : Int) ++ (ls.take j).flatMap encLocale) ∧ Below w.heap.size w wr ∧ KeptA w wr) (fun _ v4 _ => n - (intOf v4).toNat)
  case atStart => exact ⟨0, by omega, rfl, by simpa using HR1.out, HB1.out, HK1.out⟩
  case round =>
    obtain ⟨j, hj, rfl, hR, hb, hK⟩ := hrel
    obtain ⟨a0, m0, k0, e0⟩ := rb_shape hR
    subst e0
    by_cases hlt : j < n
    · have hlt2 : (j : Int) < (n : Int) := by omega
      obtain ⟨g, o, eg, hx⟩ := HC.out j hlt
      have HX : Hid (ls[j]? = some (ls.getD j nilLocale)) := hid (Locale_at (by rw [HN.out]; exact hlt))
      have HLJ : Hid (8 + ((ls.take j).flatMap encLocale).length + (encLocale (ls.getD j nilLocale)).length ≤ 800000) := hid (by
        have h2 := flatMap_take encLocale ls (j + 1)
        rw [flatMap_snoc encLocale ls j _ HX.out, List.length_append] at h2
        have h3 := HL.out
        omega)
      generalize ls.getD j nilLocale = y at *
      subst eg
      obtain ⟨v0, v1', v2, c0, c1, c2, c3, c4, c5, q0, q1, q2⟩ := hx
      replace c0 := (hb.cell (lt_of_cell c0)).trans c0
      replace c1 := (hb.cell (lt_of_cell c1)).trans c1
      replace c2 := (hb.cell (lt_of_cell c2)).trans c2
      replace c3 := (hb.cell (lt_of_cell c3)).trans c3
      replace c4 := (hb.cell (lt_of_cell c4)).trans c4
      replace c5 := (hb.cell (lt_of_cell c5)).trans c5
      have HCL := hid (rlocale_any y v0 v1' v2 _ _ w.heap.size w wr hR hb.size ⟨q0, q1, q2⟩ (Nat.le_refl _) hb (by have := HLJ.out; rw [List.length_append, numB_length]; omega))
      unfold localeV at HCL
      obtain ⟨ad0, cap0, f0, _⟩ := q0.shape
      obtain ⟨ad1, cap1, f1, _⟩ := q1.shape
      obtain ⟨ad2, cap2, f2, _⟩ := q2.shape
      subst f0 f1 f2
      have HB := hid hb
      have HK := hid hK
      clear hR hb hK q0 q1 q2
      go_wp2_with fail
      refine HCL.out.mono ?_
      rintro e w2 ⟨v2', rfl, r2, bb2, kk2⟩
      obtain ⟨a2, m2, k2, e2⟩ := rb_shape r2
      subst e2
      have HR2 := hid r2
      have HB2 := hid (HB.out.trans bb2)
      have HK2 := hid (HK.out.trans kk2)
      clear r2 bb2 kk2
      go_wp2
      go_roundw
      case rel => exact ⟨j + 1, by omega, by simp, by rw [flatMap_snoc encLocale ls j y HX.out, ← List.append_assoc]; exact HR2.out, HB2.out, HK2.out⟩
      case measure => simp [intOf]; omega
    · have HR2 : Hid (RB wr w.heap.size (.slice a0 m0 k0) (encLocales ls)) := hid (by have := hR; rw [List.take_of_length_le (by rw [HN.out]; omega)] at this; unfold encLocales; rw [HN.out]; exact this)
      have HB := hid hb
      have HK := hid hK
      obtain rfl : n = j := by omega
      clear hR hb hK
      go_wp2
      go_ret
      exact ⟨_, rfl, HR2.out, HB.out, HK.out⟩

end Go.Proofs.YtohgaknojkdohaaGreatDoor

/- Bytes as numbers from 0 to 255, and back: for the reference's Same. -/
namespace Go.Proofs.YtohgaknojkdohaaGreatDoor
open Go.RowKit Gr

theorem Byt.nil : Byt [] := fun z h => by simp at h
theorem Byt.app {a b : List Int} (h : Byt a) (k : Byt b) : Byt (a ++ b) := fun z hz => by
  rcases List.mem_append.1 hz with hz | hz
  · exact h z hz
  · exact k z hz
theorem Byt.flat {α : Type} {f : α → List Int} (l : List α) (h : ∀ x, Byt (f x)) : Byt (l.flatMap f) := fun z hz => by
  obtain ⟨x, _, hx⟩ := List.mem_flatMap.1 hz
  exact h x z hx
theorem byt_num (n : Int) : Byt (numB n) := fun z hz => by
  obtain ⟨k, _, rfl⟩ := List.mem_map.1 hz
  unfold byteAt
  omega
theorem byt_nums (s : ByteArray) : Byt (nums s) := fun z hz => by
  obtain ⟨b, _, rfl⟩ := List.mem_map.1 hz
  have := b.toNat_lt
  omega
theorem byt_text (s : ByteArray) : Byt (encText s) := (byt_num _).app (byt_nums _)
theorem byt_encNums (l : List Int) : Byt (encNums l) := Byt.flat l byt_num
theorem byt_ints (l : List Int) : Byt (encInts l) := (byt_num _).app (Byt.flat l byt_num)
theorem byt_entry (x : Entry) : Byt (encEntry x) := (byt_text _).app (byt_encNums _)
theorem byt_part (x : Part) : Byt (encPart x) := ((byt_num _).app (byt_text _)).app (byt_encNums _)
theorem byt_style (x : Style) : Byt (encStyle x) := (byt_num _).app ((byt_num _).app (Byt.flat _ byt_part))
theorem byt_rule (x : Rule) : Byt (encRule x) := ((((byt_num _).app (byt_ints _)).app (byt_num _)).app (byt_ints _)).app (byt_num _)
theorem byt_locale (x : Locale) : Byt (encLocale x) := ((((byt_text _).app (byt_encNums _)).app ((byt_num _).app (Byt.flat _ byt_entry))).app ((byt_num _).app (Byt.flat _ byt_rule))).app ((byt_num _).app (Byt.flat _ byt_style))
theorem byt_locales (l : List Locale) : Byt (encLocales l) := (byt_num _).app (Byt.flat _ byt_locale)
theorem bytesL_inj {a b : List Int} (ha : Byt a) (hb : Byt b) (h : bytesL a = bytesL b) : a = b := by
  have key : ∀ l, Byt l → (bytesL l).map (fun u => (u.toNat : Int)) = l := fun l hl => by
    unfold bytesL
    rw [List.map_map]
    conv => rhs; rw [← List.map_id l]
    refine List.map_congr_left fun z hz => ?_
    have := hl z hz
    simp only [Function.comp_apply, id_eq]
    have h2 : z.toNat.toUInt8.toNat = z.toNat % 2 ^ 8 := UInt8.toNat_ofNat
    rw [h2]
    omega
  rw [← key a ha, ← key b hb, h]

theorem conv_back {w : World} {B : Nat} {v : Value} {l : List Int} (h : RB w B v l) (hb : Byt l) (hl : 0 < l.length) : (convert 28 9 v).run Tryz.prog w = .ok (.string ⟨(bytesL l).toArray⟩) w := by
  obtain ⟨g, cap, rfl, _, _, hc⟩ := own_at h hl
  have hlen : (bytesL l).length = l.length := by simp [bytesL]
  have := run_convert_bytes_back (P := Tryz.prog) w 28 9 5 ⟨g, 0, none⟩ cap (bytesL l) Tryz.underlying28 Tryz.underlying5 Tryz.underlying9 (fun j hj => by
    have hj' : j < l.length := by omega
    rw [Addr.add_lit, Nat.zero_add, hc j _ (by rw [List.getElem?_map, List.getElem?_eq_getElem hj']; rfl)]
    have hz := hb l[j] (List.getElem_mem hj')
    have h2 : l[j].toNat.toUInt8.toNat = l[j].toNat % 2 ^ 8 := UInt8.toNat_ofNat
    simp only [bytesL, List.getElem_map]
    rw [h2]
    congr 2
    omega)
  rwa [hlen] at this

set_option maxRecDepth 8000 in
theorem same_any (la lb : List Locale) (va vb : Value) (w : World) (ha : LocalesAt w va la) (hb : LocalesAt w vb lb) (hla : (encLocales la).length ≤ 800000) (hlb : (encLocales lb).length ≤ 800000) :
    Calls Tryz.prog 18 #[va, vb] w fun e w' => e = .returned (.bool (decide (encLocales la = encLocales lb))) ∧ Below w.heap.size w w' := by
  have HA := hid ha
  have HB := hid hb
  have HE := hid (fun w' (b : Below w.heap.size w w') => rencode_any la va w' (ha.on b) hla)
  have HF := hid (fun w' (b : Below w.heap.size w w') => rencode_any lb vb w' (hb.on b) hlb)
  obtain ⟨ad0, cap0, e0, _⟩ := ha.shape
  obtain ⟨ad1, cap1, e1, _⟩ := hb.shape
  subst e0 e1
  have HBA := hid (byt_locales la)
  have HBB := hid (byt_locales lb)
  have HPA : Hid (0 < (encLocales la).length) := hid (by unfold encLocales; rw [List.length_append, numB_length]; omega)
  have HPB : Hid (0 < (encLocales lb).length) := hid (by unfold encLocales; rw [List.length_append, numB_length]; omega)
  have HD : Hid (decide (encLocales la = encLocales lb) = ((⟨(bytesL (encLocales la)).toArray⟩ : ByteArray).toList == (⟨(bytesL (encLocales lb)).toArray⟩ : ByteArray).toList)) := hid (by
    rw [toList_data, toList_data]
    by_cases e : encLocales la = encLocales lb
    · rw [e]; simp
    · have : ¬ bytesL (encLocales la) = bytesL (encLocales lb) := fun h => e (bytesL_inj HBA.out HBB.out h)
      simp [e, this])
  rw [HD.out]
  clear ha hb hla hlb HA HB
  have HCA := hid (fun (W : World) (B : Nat) (v : Value) (r : RB W B v (encLocales la)) => conv_back r HBA.out HPA.out)
  have HCB := hid (fun (W : World) (B : Nat) (v : Value) (r : RB W B v (encLocales lb)) => conv_back r HBB.out HPB.out)
  generalize (⟨(bytesL (encLocales la)).toArray⟩ : ByteArray) = sa at *
  generalize (⟨(bytesL (encLocales lb)).toArray⟩ : ByteArray) = sb at *
  generalize la.length = na at *
  generalize lb.length = nb at *
  have y0 : Hid (Below w.heap.size w w.drew) := hid (Below.refl _ _).drew
  go_enter Tryz.func18, Tryz.ntmps18
  go_wp2_with fail
  go_region_held (fun w' => Hid (Below w.heap.size w w')) (first | assumption | exact hid (up_trans (Hid.out (by assumption)) (by assumption))) (first
    | (go_at_call 17; refine (HE.out _ (Hid.out (by assumption))).mono ?_; rintro e w2 ⟨u1, rfl, r1, bb1, _⟩; have hcv1 := HCA.out _ _ _ r1; obtain ⟨a1, m1, k1, e1⟩ := rb_shape r1; subst e1; clear HE)
    | (go_at_call 17; refine (HF.out _ (Hid.out (by assumption))).mono ?_; rintro e w3 ⟨u2, rfl, r2, bb2, _⟩; have hcv2 := HCB.out _ _ _ r2; have hcv3 := HCA.out _ _ _ (r1.on bb2); obtain ⟨a2, m2, k2, e2⟩ := rb_shape r2; subst e2; clear HF))
  all_goals
    go_wp2
    go_ret
    exact ⟨rfl, Hid.out (by assumption)⟩

end Go.Proofs.YtohgaknojkdohaaGreatDoor
