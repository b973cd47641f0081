/- Back, Smp, Smp2, Smp3, MkM, ShA, MkA, Mk: these texts, one behind the other. -/
import Derived.Test.YtohgaknojkdohaaGreatDoorTd
import Derived.Test.YtohgaknojkdohaaGreatDoorTc
import Derived.Test.YtohgaknojkdohaaGreatDoorTe
import Derived.Test.YtohgaknojkdohaaGreatDoorGrLRules
import Derived.Test.YtohgaknojkdohaaGreatDoorGrRuleArg
import Derived.ChangeArms
import Derived.Deep.RegionHeld
/- What was written is read as it was: plain mathematics of encLocales and decL. -/
namespace Go.Proofs.YtohgaknojkdohaaGreatDoor
open Go.RowKit Gr

def I64 (n : Int) : Prop := -9223372036854775808 ≤ n ∧ n ≤ 9223372036854775807
theorem acc8 (a b c d e f g h : Int) : accB [a, b, c, d, e, f, g, h] = ((((((a * 256 + b) * 256 + c) * 256 + d) * 256 + e) * 256 + f) * 256 + g) * 256 + h := by simp [accB]
theorem div_step (n : Int) (s : Nat) : n / (2 : Int) ^ (s + 8) = (n / (2 : Int) ^ s) / 256 := by
  rw [Int.pow_add, ← Int.ediv_ediv_of_nonneg (Int.le_of_lt (Int.pow_pos (by decide)))]
  rfl
theorem accB_num (n : Int) : accB (numB n) = n % 18446744073709551616 := by
  have e : numB n = [byteAt n 56, byteAt n 48, byteAt n 40, byteAt n 32, byteAt n 24, byteAt n 16, byteAt n 8, byteAt n 0] := rfl
  rw [e, acc8]
  unfold byteAt
  have h0 : n / (2 : Int) ^ 0 = n := by simp
  have h1 : n / (2 : Int) ^ 8 = n / 256 := by have := div_step n 0; rw [h0] at this; exact this
  have h2 : n / (2 : Int) ^ 16 = n / 256 / 256 := by rw [show 16 = 8 + 8 from rfl, div_step, h1]
  have h3 : n / (2 : Int) ^ 24 = n / 256 / 256 / 256 := by rw [show 24 = 16 + 8 from rfl, div_step, h2]
  have h4 : n / (2 : Int) ^ 32 = n / 256 / 256 / 256 / 256 := by rw [show 32 = 24 + 8 from rfl, div_step, h3]
  have h5 : n / (2 : Int) ^ 40 = n / 256 / 256 / 256 / 256 / 256 := by rw [show 40 = 32 + 8 from rfl, div_step, h4]
  have h6 : n / (2 : Int) ^ 48 = n / 256 / 256 / 256 / 256 / 256 / 256 := by rw [show 48 = 40 + 8 from rfl, div_step, h5]
  have h7 : n / (2 : Int) ^ 56 = n / 256 / 256 / 256 / 256 / 256 / 256 / 256 := by rw [show 56 = 48 + 8 from rfl, div_step, h6]
  rw [h0, h1, h2, h3, h4, h5, h6, h7]
  omega
theorem pNum_back (n : Int) (r : List Int) (h : I64 n) : pNum (numB n ++ r) = some (n, r) := by
  unfold pNum
  rw [if_pos (by rw [List.length_append, numB_length]; omega), List.take_left' (numB_length n), List.drop_left' (numB_length n), accB_num]
  have : wrap64 (n % 18446744073709551616) = n := by
    unfold I64 at h
    simp only [wrap64]
    omega
  rw [this]
theorem pCount_back (most : Int) (n : Nat) (r : List Int) (h : (n : Int) ≤ most) (hn : n ≤ 1000000) : pCount most (numB (n : Int) ++ r) = some (n, r) := by
  unfold pCount
  rw [pNum_back _ _ ⟨by omega, by omega⟩, Option.bind_some, if_pos (inB_true ⟨by omega, h⟩), Int.toNat_natCast]
theorem textB_nums (s : ByteArray) : textB (nums s) = s := by
  unfold textB bytesL nums
  rw [List.map_map]
  have : (s.data.toList.map ((fun z : Int => z.toNat.toUInt8) ∘ fun b : UInt8 => (b.toNat : Int))) = s.data.toList := by
    conv => rhs; rw [← List.map_id s.data.toList]
    refine List.map_congr_left fun b _ => ?_
    simp only [Function.comp_apply, Int.toNat_natCast, id_eq]
    exact UInt8.ofNat_toNat
  rw [this]
theorem pText_back (most : Int) (s : ByteArray) (r : List Int) (h : (s.size : Int) ≤ most) (hs : s.size ≤ 1000000) : pText most (encText s ++ r) = some (s, r) := by
  unfold pText encText
  rw [List.append_assoc, pCount_back most s.size _ h hs, Option.bind_some]
  simp only
  rw [if_pos (by rw [List.length_append, nums_length]; omega), List.take_left' (nums_length s), List.drop_left' (nums_length s), textB_nums]
theorem pMany_back {α : Type} {p : Rdr α} {f : α → List Int} {Q : α → Prop} (hp : ∀ x r, Q x → p (f x ++ r) = some (x, r)) : ∀ (xs : List α) (r : List Int), (∀ x ∈ xs, Q x) → pMany p xs.length (xs.flatMap f ++ r) = some (xs, r)
  | [], r, _ => rfl
  | x :: xs, r, h => by
    rw [List.flatMap_cons, List.append_assoc]
    simp only [List.length_cons, pMany]
    rw [hp x _ (h x (by simp)), Option.bind_some]
    simp only
    rw [pMany_back hp xs r (fun y hy => h y (List.mem_cons_of_mem _ hy)), Option.bind_some]
theorem pList_back {α : Type} {p : Rdr α} {f : α → List Int} {Q : α → Prop} (hp : ∀ x r, Q x → p (f x ++ r) = some (x, r)) (most : Int) (xs : List α) (r : List Int) (h : ∀ x ∈ xs, Q x) (hl : (xs.length : Int) ≤ most) (hm : most ≤ 1000000) : pList most p (numB (xs.length : Int) ++ xs.flatMap f ++ r) = some (xs, r) := by
  unfold pList
  rw [List.append_assoc, pCount_back most _ _ hl (by omega), Option.bind_some]
  exact pMany_back hp xs r h
def OkEntry (x : Entry) : Prop := x.text.size ≤ 20 ∧ I64 x.cls ∧ I64 x.val
def OkPart (x : Part) : Prop := I64 x.kind ∧ x.text.size ≤ 20 ∧ I64 x.field ∧ I64 x.width ∧ I64 x.cls
def OkStyle (x : Style) : Prop := I64 x.kind ∧ x.parts.length ≤ 12 ∧ ∀ y ∈ x.parts, OkPart y
def OkRule (x : Rule) : Prop := I64 x.lhs ∧ (x.rhs.length ≤ 6 ∧ ∀ n ∈ x.rhs, I64 n) ∧ I64 x.op ∧ (x.p.length ≤ 6 ∧ ∀ n ∈ x.p, I64 n) ∧ I64 x.cost
def OkLocale (x : Locale) : Prop := x.id.size ≤ 12 ∧ I64 x.parent ∧ I64 x.digits ∧ (x.lex.length ≤ 30 ∧ ∀ y ∈ x.lex, OkEntry y) ∧ (x.rules.length ≤ 60 ∧ ∀ y ∈ x.rules, OkRule y) ∧ (x.styles.length ≤ 20 ∧ ∀ y ∈ x.styles, OkStyle y)
theorem encNums_cons (n : Int) (l : List Int) : encNums (n :: l) = numB n ++ encNums l := by simp [encNums]
theorem encNums_nil : encNums [] = [] := rfl
theorem pEntry_back (x : Entry) (r : List Int) (h : OkEntry x) : pEntry (encEntry x ++ r) = some (x, r) := by
  obtain ⟨h1, h2, h3⟩ := h
  unfold pEntry encEntry
  simp only [encNums_cons, encNums_nil, List.append_nil, List.append_assoc]
  rw [pText_back _ _ _ (by omega) (by omega), Option.bind_some]
  simp only
  rw [pNum_back _ _ h2, Option.bind_some]
  simp only
  rw [pNum_back _ _ h3, Option.bind_some]
theorem pPart_back (x : Part) (r : List Int) (h : OkPart x) : pPart (encPart x ++ r) = some (x, r) := by
  obtain ⟨h1, h2, h3, h4, h5⟩ := h
  unfold pPart encPart
  simp only [encNums_cons, encNums_nil, List.append_nil, List.append_assoc]
  rw [pNum_back _ _ h1, Option.bind_some]
  simp only
  rw [pText_back _ _ _ (by omega) (by omega), Option.bind_some]
  simp only
  rw [pNum_back _ _ h3, Option.bind_some]
  simp only
  rw [pNum_back _ _ h4, Option.bind_some]
  simp only
  rw [pNum_back _ _ h5, Option.bind_some]
theorem pStyle_back (x : Style) (r : List Int) (h : OkStyle x) : pStyle (encStyle x ++ r) = some (x, r) := by
  obtain ⟨h1, h2, h3⟩ := h
  unfold pStyle encStyle encParts
  rw [List.append_assoc, pNum_back _ _ h1, Option.bind_some]
  simp only
  rw [pList_back pPart_back 12 _ _ h3 (by omega) (by decide), Option.bind_some]
theorem pInts_back (l : List Int) (r : List Int) (h : l.length ≤ 6 ∧ ∀ n ∈ l, I64 n) : pList 6 pNum (encInts l ++ r) = some (l, r) := by
  unfold encInts
  exact pList_back pNum_back 6 _ _ h.2 (by omega) (by decide)
theorem pRule_back (x : Rule) (r : List Int) (h : OkRule x) : pRule (encRule x ++ r) = some (x, r) := by
  obtain ⟨h1, h2, h3, h4, h5⟩ := h
  unfold pRule encRule
  simp only [List.append_assoc]
  rw [pNum_back _ _ h1, Option.bind_some]
  simp only
  rw [pInts_back _ _ h2, Option.bind_some]
  simp only
  rw [pNum_back _ _ h3, Option.bind_some]
  simp only
  rw [pInts_back _ _ h4, Option.bind_some]
  simp only
  rw [pNum_back _ _ h5, Option.bind_some]
theorem pLocale_back (x : Locale) (r : List Int) (h : OkLocale x) : pLocale (encLocale x ++ r) = some (x, r) := by
  obtain ⟨h1, h2, h3, h4, h5, h6⟩ := h
  unfold pLocale encLocale encEntries encRules encStyles
  simp only [encNums_cons, encNums_nil, List.append_nil, List.append_assoc]
  rw [pText_back _ _ _ (by omega) (by omega), Option.bind_some]
  simp only
  rw [pNum_back _ _ h2, Option.bind_some]
  simp only
  rw [pNum_back _ _ h3, Option.bind_some]
  simp only
  rw [← List.append_assoc (numB _) (x.lex.flatMap encEntry), pList_back pEntry_back 30 _ _ h4.2 (by omega) (by decide), Option.bind_some]
  simp only
  rw [← List.append_assoc (numB _) (x.rules.flatMap encRule), pList_back pRule_back 60 _ _ h5.2 (by omega) (by decide), Option.bind_some]
  simp only
  rw [← List.append_assoc (numB _) (x.styles.flatMap encStyle), pList_back pStyle_back 20 _ _ h6.2 (by omega) (by decide), Option.bind_some]
theorem pLocales_back (ls : List Locale) (r : List Int) (h : ∀ x ∈ ls, OkLocale x) (hl : ls.length ≤ 10) : pLocales (encLocales ls ++ r) = some (ls, r) := by
  unfold pLocales encLocales
  exact pList_back pLocale_back 10 _ _ h (by omega) (by decide)
theorem decL_back (ls : List Locale) (h : ∀ x ∈ ls, OkLocale x) (hr : rightL ls = true) : decL (encLocales ls) = some ls := by
  have := pLocales_back ls [] h (rightL_length hr)
  rw [List.append_nil] at this
  unfold decL parsed
  rw [this, Option.bind_some, if_pos rfl, Option.bind_some, if_pos hr]

/-- With more behind, the same is read, and more is left. -/
def Grows {α : Type} (p : Rdr α) : Prop := ∀ bs x r e, p bs = some (x, r) → p (bs ++ e) = some (x, r ++ e)
theorem Grows.bind {α β : Type} {p : Rdr α} {q : α → Rdr β} (hp : Grows p) (hq : ∀ a, Grows (q a)) : Grows (fun bs => (p bs).bind fun x => q x.1 x.2) := by
  intro bs x r e h
  obtain ⟨y, h1, h2⟩ := Option.bind_eq_some_iff.1 h
  obtain ⟨a, r1⟩ := y
  show (p (bs ++ e)).bind _ = _
  rw [hp bs a r1 e h1, Option.bind_some]
  exact hq a r1 x r e h2
theorem Grows.ret {α : Type} (x : α) : Grows (fun bs => some (x, bs)) := fun bs y r e h => by
  simp only [Option.some.injEq, Prod.mk.injEq] at h ⊢
  exact ⟨h.1, by rw [h.2]⟩
theorem pNum_grows : Grows pNum := fun bs x r e h => by
  unfold pNum at h ⊢
  split at h
  · rename_i h8
    simp only [Option.some.injEq, Prod.mk.injEq] at h
    rw [if_pos (by rw [List.length_append]; omega), List.take_append_of_le_length h8, List.drop_append_of_le_length h8, h.1, h.2]
  · cases h
theorem pCount_grows (most : Int) : Grows (pCount most) := Grows.bind (q := fun n r => if inB n 0 most = true then some (n.toNat, r) else none) pNum_grows (fun n bs x r e h => by
  simp only at h ⊢
  split at h
  · rename_i hi
    rw [if_pos hi]
    simp only [Option.some.injEq, Prod.mk.injEq] at h ⊢
    exact ⟨h.1, by rw [h.2]⟩
  · cases h)
theorem pText_grows (most : Int) : Grows (pText most) := Grows.bind (q := fun n r => if n ≤ r.length then some (textB (r.take n), r.drop n) else none) (pCount_grows most) (fun n bs x r e h => by
  simp only at h ⊢
  split at h
  · rename_i hi
    simp only [Option.some.injEq, Prod.mk.injEq] at h
    rw [if_pos (by rw [List.length_append]; omega), List.take_append_of_le_length hi, List.drop_append_of_le_length hi, h.1, h.2]
  · cases h)
theorem pMany_grows {α : Type} {p : Rdr α} (hp : Grows p) : ∀ n, Grows (pMany p n)
  | 0 => Grows.ret []
  | n + 1 => Grows.bind (q := fun x r => (pMany p n r).bind fun y => some (x :: y.1, y.2)) hp (fun x => Grows.bind (q := fun ys r => some (x :: ys, r)) (pMany_grows hp n) (fun ys => Grows.ret (x :: ys)))
theorem pList_grows {α : Type} {p : Rdr α} (hp : Grows p) (most : Int) : Grows (pList most p) := Grows.bind (q := fun n r => pMany p n r) (pCount_grows most) (fun n => pMany_grows hp n)
theorem pEntry_grows : Grows pEntry := fun bs x r e0 h => by
  simp only [pEntry, Option.bind_eq_some_iff, Prod.exists] at h
  obtain ⟨a, r0, h0, b, r1, h1, c, r2, h2, h9⟩ := h
  simp only [Option.some.injEq, Prod.mk.injEq] at h9
  simp only [pEntry, pText_grows 20 _ _ _ e0 h0, pNum_grows _ _ _ e0 h1, pNum_grows _ _ _ e0 h2, Option.bind_some, Option.some.injEq, Prod.mk.injEq]
  exact ⟨h9.1, by rw [h9.2]⟩
theorem pPart_grows : Grows pPart := fun bs x r e0 h => by
  simp only [pPart, Option.bind_eq_some_iff, Prod.exists] at h
  obtain ⟨a, r0, h0, b, r1, h1, c, r2, h2, d, r3, h3, e, r4, h4, h9⟩ := h
  simp only [Option.some.injEq, Prod.mk.injEq] at h9
  simp only [pPart, pNum_grows _ _ _ e0 h0, pText_grows 20 _ _ _ e0 h1, pNum_grows _ _ _ e0 h2, pNum_grows _ _ _ e0 h3, pNum_grows _ _ _ e0 h4, Option.bind_some, Option.some.injEq, Prod.mk.injEq]
  exact ⟨h9.1, by rw [h9.2]⟩
theorem pStyle_grows : Grows pStyle := fun bs x r e0 h => by
  simp only [pStyle, Option.bind_eq_some_iff, Prod.exists] at h
  obtain ⟨a, r0, h0, b, r1, h1, h9⟩ := h
  simp only [Option.some.injEq, Prod.mk.injEq] at h9
  simp only [pStyle, pNum_grows _ _ _ e0 h0, pList_grows pPart_grows 12 _ _ _ e0 h1, Option.bind_some, Option.some.injEq, Prod.mk.injEq]
  exact ⟨h9.1, by rw [h9.2]⟩
theorem pRule_grows : Grows pRule := fun bs x r e0 h => by
  simp only [pRule, Option.bind_eq_some_iff, Prod.exists] at h
  obtain ⟨a, r0, h0, b, r1, h1, c, r2, h2, d, r3, h3, e, r4, h4, h9⟩ := h
  simp only [Option.some.injEq, Prod.mk.injEq] at h9
  simp only [pRule, pNum_grows _ _ _ e0 h0, pList_grows pNum_grows 6 _ _ _ e0 h1, pNum_grows _ _ _ e0 h2, pList_grows pNum_grows 6 _ _ _ e0 h3, pNum_grows _ _ _ e0 h4, Option.bind_some, Option.some.injEq, Prod.mk.injEq]
  exact ⟨h9.1, by rw [h9.2]⟩
theorem pLocale_grows : Grows pLocale := fun bs x r e0 h => by
  simp only [pLocale, Option.bind_eq_some_iff, Prod.exists] at h
  obtain ⟨a, r0, h0, b, r1, h1, c, r2, h2, d, r3, h3, e, r4, h4, f, r5, h5, h9⟩ := h
  simp only [Option.some.injEq, Prod.mk.injEq] at h9
  simp only [pLocale, pText_grows 12 _ _ _ e0 h0, pNum_grows _ _ _ e0 h1, pNum_grows _ _ _ e0 h2, pList_grows pEntry_grows 30 _ _ _ e0 h3, pList_grows pRule_grows 60 _ _ _ e0 h4, pList_grows pStyle_grows 20 _ _ _ e0 h5, Option.bind_some, Option.some.injEq, Prod.mk.injEq]
  exact ⟨h9.1, by rw [h9.2]⟩
theorem pLocales_grows : Grows pLocales := pList_grows pLocale_grows 10
/-- Cut off anywhere, they are no locales. -/
theorem decL_cut (ls : List Locale) (h : ∀ x ∈ ls, OkLocale x) (hl : ls.length ≤ 10) (c : Nat) (hc : c < (encLocales ls).length) : decL ((encLocales ls).take c) = none := by
  have h0 := pLocales_back ls [] h hl
  rw [List.append_nil] at h0
  unfold decL parsed
  cases e : pLocales ((encLocales ls).take c) with
  | none => rfl
  | some y =>
    obtain ⟨xs, r⟩ := y
    have := pLocales_grows _ _ _ ((encLocales ls).drop c) e
    rw [List.take_append_drop, h0] at this
    simp only [Option.some.injEq, Prod.mk.injEq] at this
    have h2 : r ++ (encLocales ls).drop c = [] := this.2.symm
    have h3 : (encLocales ls).drop c = [] := (List.append_eq_nil_iff.1 h2).2
    have h4 := congrArg List.length h3
    rw [List.length_drop] at h4
    simp at h4
    omega
/-- With more behind, they are none. -/
theorem decL_more (ls : List Locale) (h : ∀ x ∈ ls, OkLocale x) (hr : rightL ls = true) (e : List Int) : decL (encLocales ls ++ e) = if e = [] then some ls else none := by
  have h0 := pLocales_back ls e h (rightL_length hr)
  unfold decL parsed
  rw [h0, Option.bind_some]
  by_cases he : e = []
  · rw [if_pos he, Option.bind_some, if_pos hr]
  · rw [if_neg he]
    rfl

end Go.Proofs.YtohgaknojkdohaaGreatDoor

/- What the sample is made of: a rule, a part, its words, its rules of days. -/
namespace Go.Proofs.YtohgaknojkdohaaGreatDoor
open Go.RowKit Gr

theorem tmod_neg (n d : Int) (hd : 0 < d) (h : n.tmod d < 0) : n.tmod d + d = n % d := by
  rw [Int.tmod_eq_emod] at *
  have h4 := Int.emod_nonneg n (show d ≠ 0 by omega)
  split at h
  · omega
  · rename_i hc; rw [if_neg hc]; omega
theorem tmod_pos (n d : Int) (hd : 0 < d) (h : 0 ≤ n.tmod d) : n.tmod d = n % d := by
  rw [Int.tmod_eq_emod] at *
  have h5 := Int.emod_lt_of_pos n hd
  split at h
  · rename_i hc; rw [if_pos hc]; omega
  · omega
theorem swithin_any (a n : Int) (w : World) (hn : 0 < n) (hn1 : n ≤ 100000000) : Calls Tryz.prog 19 #[.int .i64 a, .int .i64 n] w fun e w' => e = .returned (.int .i64 (a % n)) ∧ w' = w := by
  have hz : (n == 0) = false := by simp; omega
  have hm1 : n ≠ -1 := by omega
  have hz' : n ≠ 0 := by omega
  have t1 : -n < a.tmod n ∧ a.tmod n < n := by
    rw [Int.tmod_eq_emod]
    have h4 := Int.emod_nonneg a (show n ≠ 0 by omega)
    have h5 := Int.emod_lt_of_pos a hn
    have h6 : ((n.natAbs : Nat) : Int) = n := by omega
    split
    · omega
    · rename_i hc
      have : a % n ≠ 0 := fun h => hc (Or.inr (Int.dvd_of_emod_eq_zero h))
      omega
  by_cases h : a.tmod n < 0
  · have E := hid (tmod_neg a n hn h)
    generalize a % n = q at *
    go_enter Tryz.func19, Tryz.ntmps19
    go_wp2
    go_ret
    exact ⟨ret_int E.out, rfl⟩
  · have E := hid (tmod_pos a n hn (by omega))
    generalize a % n = q at *
    go_enter Tryz.func19, Tryz.ntmps19
    go_wp2
    go_ret
    exact ⟨ret_int E.out, rfl⟩
set_option maxRecDepth 8000 in
theorem lrule_any (lhs op cost : Int) (ad0 ad1 : Option Addr) (n0 c0 n1 c1 : Nat) (w : World) : Calls Tryz.prog 21 #[.int .i64 lhs, .slice ad0 n0 c0, .int .i64 op, .slice ad1 n1 c1, .int .i64 cost] w fun e w' => e = .returned (.agg #[.int .i64 lhs, .slice ad0 n0 c0, .int .i64 op, .slice ad1 n1 c1, .int .i64 cost]) ∧ Below w.heap.size w w' := by
  have HX := hid (row_new w (.cells #[.int .i64 lhs, .slice ad0 n0 c0, .int .i64 op, .slice ad1 n1 c1, .int .i64 cost] 56))
  have HU := hid (up_alloc w (.cells #[.int .i64 lhs, .slice ad0 n0 c0, .int .i64 op, .slice ad1 n1 c1, .int .i64 cost] 56))
  go_enter Tryz.func21, Tryz.ntmps21
  go_wp2
  exact bodyPost_ret (v := .agg #[.int .i64 lhs, .slice ad0 n0 c0, .int .i64 op, .slice ad1 n1 c1, .int .i64 cost]) (results_cell_row rfl _ _ w.heap.size 56 _ (0, 0) _ rfl HX.out Tryz.underlying56 rfl (by kernel_rfl)) rfl ⟨rfl, HU.out⟩
set_option maxRecDepth 8000 in
theorem lnumber_any (f wd : Int) (w : World) : Calls Tryz.prog 91 #[.int .i64 f, .int .i64 wd] w fun e w' => e = .returned (.agg #[.int .i64 1, .string ⟨#[]⟩, .int .i64 f, .int .i64 wd, .int .i64 0]) ∧ Below w.heap.size w w' := by
  have HX := hid (row_new w (.cells #[.int .i64 1, .string ⟨#[]⟩, .int .i64 f, .int .i64 wd, .int .i64 0] 48))
  have HU := hid (up_alloc w (.cells #[.int .i64 1, .string ⟨#[]⟩, .int .i64 f, .int .i64 wd, .int .i64 0] 48))
  go_enter Tryz.func91, Tryz.ntmps91
  go_wp2
  exact bodyPost_ret (v := .agg #[.int .i64 1, .string ⟨#[]⟩, .int .i64 f, .int .i64 wd, .int .i64 0]) (results_cell_row rfl _ _ w.heap.size 48 _ (0, 0) _ rfl HX.out Tryz.underlying48 rfl (by kernel_rfl)) rfl ⟨rfl, HU.out⟩
set_option maxRecDepth 8000 in
theorem ltext_any (s : ByteArray) (w : World) : Calls Tryz.prog 92 #[.string s] w fun e w' => e = .returned (.agg #[.int .i64 0, .string s, .int .i64 0, .int .i64 0, .int .i64 0]) ∧ Below w.heap.size w w' := by
  have HX := hid (row_new w (.cells #[.int .i64 0, .string s, .int .i64 0, .int .i64 0, .int .i64 0] 48))
  have HU := hid (up_alloc w (.cells #[.int .i64 0, .string s, .int .i64 0, .int .i64 0, .int .i64 0] 48))
  go_enter Tryz.func92, Tryz.ntmps92
  go_wp2
  exact bodyPost_ret (v := .agg #[.int .i64 0, .string s, .int .i64 0, .int .i64 0, .int .i64 0]) (results_cell_row rfl _ _ w.heap.size 48 _ (0, 0) _ rfl HX.out Tryz.underlying48 rfl (by kernel_rfl)) rfl ⟨rfl, HU.out⟩
theorem row_lit (w : World) (l : List Int) (a : Array Value) (ha : a = (l.map (Value.int .i64)).toArray) (n g : Nat) (hn : l.length = n) (hg : g = w.heap.size) (hl : n ≤ 100) : Row (w.alloc (.cells a 3)) (.slice (some ⟨g, 0, none⟩) n n) l := by
  subst hn
  exact own_int_row (own_lit w 3 1 l.length g a (l.map (Value.int .i64)) ha hg (by simp) (by omega)) (by omega)
theorem row_stay (w : World) (l : List Int) (a : Array Value) (ha : a = (l.map (Value.int .i64)).toArray) (n g : Nat) (hn : l.length = n) (hg : g = w.heap.size) (hl : n ≤ 100) : Stay (w.alloc (.cells a 3)) (fun W => Row W (.slice (some ⟨g, 0, none⟩) n n) l) := by
  subst hn
  exact fun W k => own_int_row (own_keep (own_lit w 3 1 l.length g a (l.map (Value.int .i64)) ha hg (by simp) (by omega)) (.inr rfl) k) (by omega)
/-- A rule of two rows that the text itself wrote down. -/
theorem lrule_lit (lhs op cost : Int) (rhs p : List Int) (a1 a2 : Array Value) (h1 : a1 = (rhs.map (Value.int .i64)).toArray) (h2 : a2 = (p.map (Value.int .i64)).toArray) (n1 n2 : Nat) (hn1 : rhs.length = n1) (hn2 : p.length = n2) (hl : n1 ≤ 100 ∧ n2 ≤ 100) (w : World) (g0 g1 : Nat) (hg0 : g0 = w.heap.size) (hg1 : g1 = w.heap.size + 1) :
    Calls Tryz.prog 21 #[.int .i64 lhs, .slice (some ⟨g0, 0, none⟩) n1 n1, .int .i64 op, .slice (some ⟨g1, 0, none⟩) n2 n2, .int .i64 cost] ((w.alloc (.cells a1 3)).alloc (.cells a2 3)) fun e w' => e = .returned (.agg #[.int .i64 lhs, .slice (some ⟨g0, 0, none⟩) n1 n1, .int .i64 op, .slice (some ⟨g1, 0, none⟩) n2 n2, .int .i64 cost]) ∧ (Stay w' (fun W => Row W (.slice (some ⟨g0, 0, none⟩) n1 n1) rhs) ∧ Stay w' (fun W => Row W (.slice (some ⟨g1, 0, none⟩) n2 n2) p)) ∧ Below w.heap.size w w' := by
  refine (lrule_any lhs op cost _ _ n1 n1 n2 n2 _).mono ?_
  rintro e w' ⟨rfl, hb⟩
  exact ⟨rfl, ⟨((row_stay w rhs a1 h1 n1 g0 hn1 hg0 hl.1).step (Keep.up (up_alloc _ _))).step (Keep.up hb), (row_stay (w.alloc (.cells a1 3)) p a2 h2 n2 g1 hn2 (by rw [hg1]; simp) hl.2).step (Keep.up hb)⟩, (((Below.refl w.heap.size w).alloc (Nat.le_refl _) (.cells a1 3)).alloc (by simp) (.cells a2 3)).trans (hb.mono (by simp; omega))⟩
def wordsL : List Entry := [⟨⟨#[106, 97, 110]⟩, 1, 1⟩, ⟨⟨#[102, 101, 98, 114, 117, 97, 114, 121]⟩, 1, 2⟩, ⟨⟨#[109, 97, 121]⟩, 1, 5⟩, ⟨⟨#[100, 101, 99]⟩, 1, 12⟩, ⟨⟨#[109, 111, 110, 100, 97, 121]⟩, 2, 0⟩, ⟨⟨#[102, 114, 105, 100, 97, 121]⟩, 2, 4⟩, ⟨⟨#[100, 97, 121]⟩, 3, 1⟩, ⟨⟨#[100, 97, 121, 115]⟩, 3, 1⟩, ⟨⟨#[119, 101, 101, 107]⟩, 3, 2⟩, ⟨⟨#[109, 111, 110, 116, 104, 115]⟩, 3, 3⟩, ⟨⟨#[97, 103, 111]⟩, 4, (-1)⟩, ⟨⟨#[104, 101, 110, 99, 101]⟩, 4, 1⟩, ⟨⟨#[97, 109]⟩, 5, 0⟩, ⟨⟨#[112, 109]⟩, 5, 1⟩, ⟨⟨#[101, 117, 114]⟩, 6, 9782⟩, ⟨⟨#[226, 130, 172]⟩, 6, 9782⟩, ⟨⟨#[121, 101, 110]⟩, 6, 3920⟩, ⟨⟨#[115]⟩, 7, 1⟩, ⟨⟨#[109, 105, 110]⟩, 7, 60⟩, ⟨⟨#[104]⟩, 7, 3600⟩, ⟨⟨#[116, 111]⟩, 8, 0⟩, ⟨⟨#[97]⟩, 9, 1⟩]
def entryCells (x : Entry) : List Value := [.string x.text, .int .i64 x.cls, .int .i64 x.val]
theorem EntryC.flat (W : World) : ∀ xs : List Entry, EntryC W (xs.flatMap entryCells) xs
  | [] => EntryC.nil W
  | x :: xs => by
    rw [List.flatMap_cons]
    exact (EntryC.one W x).append (EntryC.flat W xs)
theorem words_cells : #[.string ⟨#[106, 97, 110]⟩, .int .i64 1, .int .i64 1, .string ⟨#[102, 101, 98, 114, 117, 97, 114, 121]⟩, .int .i64 1, .int .i64 2, .string ⟨#[109, 97, 121]⟩, .int .i64 1, .int .i64 5, .string ⟨#[100, 101, 99]⟩, .int .i64 1, .int .i64 12, .string ⟨#[109, 111, 110, 100, 97, 121]⟩, .int .i64 2, .int .i64 0, .string ⟨#[102, 114, 105, 100, 97, 121]⟩, .int .i64 2, .int .i64 4, .string ⟨#[100, 97, 121]⟩, .int .i64 3, .int .i64 1, .string ⟨#[100, 97, 121, 115]⟩, .int .i64 3, .int .i64 1, .string ⟨#[119, 101, 101, 107]⟩, .int .i64 3, .int .i64 2, .string ⟨#[109, 111, 110, 116, 104, 115]⟩, .int .i64 3, .int .i64 3, .string ⟨#[97, 103, 111]⟩, .int .i64 4, .int .i64 (-1), .string ⟨#[104, 101, 110, 99, 101]⟩, .int .i64 4, .int .i64 1, .string ⟨#[97, 109]⟩, .int .i64 5, .int .i64 0, .string ⟨#[112, 109]⟩, .int .i64 5, .int .i64 1, .string ⟨#[101, 117, 114]⟩, .int .i64 6, .int .i64 9782, .string ⟨#[226, 130, 172]⟩, .int .i64 6, .int .i64 9782, .string ⟨#[121, 101, 110]⟩, .int .i64 6, .int .i64 3920, .string ⟨#[115]⟩, .int .i64 7, .int .i64 1, .string ⟨#[109, 105, 110]⟩, .int .i64 7, .int .i64 60, .string ⟨#[104]⟩, .int .i64 7, .int .i64 3600, .string ⟨#[116, 111]⟩, .int .i64 8, .int .i64 0, .string ⟨#[97]⟩, .int .i64 9, .int .i64 1] = (wordsL.flatMap entryCells).toArray := by kernel_rfl
set_option maxRecDepth 8000 in
set_option maxHeartbeats 8000000 in
theorem words_any (w : World) : Calls Tryz.prog 51 #[] w fun e w' => ∃ v, e = .returned v ∧ Stl w' (fun W => EntriesAt W v wordsL) ∧ Below w.heap.size w w' := by
  have HO := hid (own_lit w 46 3 22 w.heap.size #[.string ⟨#[106, 97, 110]⟩, .int .i64 1, .int .i64 1, .string ⟨#[102, 101, 98, 114, 117, 97, 114, 121]⟩, .int .i64 1, .int .i64 2, .string ⟨#[109, 97, 121]⟩, .int .i64 1, .int .i64 5, .string ⟨#[100, 101, 99]⟩, .int .i64 1, .int .i64 12, .string ⟨#[109, 111, 110, 100, 97, 121]⟩, .int .i64 2, .int .i64 0, .string ⟨#[102, 114, 105, 100, 97, 121]⟩, .int .i64 2, .int .i64 4, .string ⟨#[100, 97, 121]⟩, .int .i64 3, .int .i64 1, .string ⟨#[100, 97, 121, 115]⟩, .int .i64 3, .int .i64 1, .string ⟨#[119, 101, 101, 107]⟩, .int .i64 3, .int .i64 2, .string ⟨#[109, 111, 110, 116, 104, 115]⟩, .int .i64 3, .int .i64 3, .string ⟨#[97, 103, 111]⟩, .int .i64 4, .int .i64 (-1), .string ⟨#[104, 101, 110, 99, 101]⟩, .int .i64 4, .int .i64 1, .string ⟨#[97, 109]⟩, .int .i64 5, .int .i64 0, .string ⟨#[112, 109]⟩, .int .i64 5, .int .i64 1, .string ⟨#[101, 117, 114]⟩, .int .i64 6, .int .i64 9782, .string ⟨#[226, 130, 172]⟩, .int .i64 6, .int .i64 9782, .string ⟨#[121, 101, 110]⟩, .int .i64 6, .int .i64 3920, .string ⟨#[115]⟩, .int .i64 7, .int .i64 1, .string ⟨#[109, 105, 110]⟩, .int .i64 7, .int .i64 60, .string ⟨#[104]⟩, .int .i64 7, .int .i64 3600, .string ⟨#[116, 111]⟩, .int .i64 8, .int .i64 0, .string ⟨#[97]⟩, .int .i64 9, .int .i64 1] (wordsL.flatMap entryCells) words_cells rfl (by kernel_rfl) (by decide))
  have HU := hid (up_alloc w (.cells #[.string ⟨#[106, 97, 110]⟩, .int .i64 1, .int .i64 1, .string ⟨#[102, 101, 98, 114, 117, 97, 114, 121]⟩, .int .i64 1, .int .i64 2, .string ⟨#[109, 97, 121]⟩, .int .i64 1, .int .i64 5, .string ⟨#[100, 101, 99]⟩, .int .i64 1, .int .i64 12, .string ⟨#[109, 111, 110, 100, 97, 121]⟩, .int .i64 2, .int .i64 0, .string ⟨#[102, 114, 105, 100, 97, 121]⟩, .int .i64 2, .int .i64 4, .string ⟨#[100, 97, 121]⟩, .int .i64 3, .int .i64 1, .string ⟨#[100, 97, 121, 115]⟩, .int .i64 3, .int .i64 1, .string ⟨#[119, 101, 101, 107]⟩, .int .i64 3, .int .i64 2, .string ⟨#[109, 111, 110, 116, 104, 115]⟩, .int .i64 3, .int .i64 3, .string ⟨#[97, 103, 111]⟩, .int .i64 4, .int .i64 (-1), .string ⟨#[104, 101, 110, 99, 101]⟩, .int .i64 4, .int .i64 1, .string ⟨#[97, 109]⟩, .int .i64 5, .int .i64 0, .string ⟨#[112, 109]⟩, .int .i64 5, .int .i64 1, .string ⟨#[101, 117, 114]⟩, .int .i64 6, .int .i64 9782, .string ⟨#[226, 130, 172]⟩, .int .i64 6, .int .i64 9782, .string ⟨#[121, 101, 110]⟩, .int .i64 6, .int .i64 3920, .string ⟨#[115]⟩, .int .i64 7, .int .i64 1, .string ⟨#[109, 105, 110]⟩, .int .i64 7, .int .i64 60, .string ⟨#[104]⟩, .int .i64 7, .int .i64 3600, .string ⟨#[116, 111]⟩, .int .i64 8, .int .i64 0, .string ⟨#[97]⟩, .int .i64 9, .int .i64 1] 46))
  go_enter Tryz.func51, Tryz.ntmps51
  go_wp2
  go_ret
  exact ⟨_, rfl, fun W k => Entries_own (xs := wordsL) (own_keepL HO.out (by decide) k) (EntryC.flat _ _) (by decide), HU.out⟩
def datesP (k : Int) : List Int := if k = 0 then [4, 2, 0] else if k = 1 then [4, 0, 2] else [0, 2, 4]
def datesL (k : Int) : List Rule := [⟨1, [-1, -51, -1, -51, -1], 1, datesP k, 1⟩, ⟨1, [(-1), (-52), (-1), (-52), (-1)], 1, [0, 2, 4], 0⟩, ⟨1, [(-1), (-2), (-1)], 1, [2, 1, 0], 0⟩, ⟨1, [(-2), (-1)], 2, [0, 1], 2⟩, ⟨1, [8, (-4), (-5)], 6, [0, 1, 2], 1⟩, ⟨1, [(-3)], 7, [0], 1⟩, ⟨8, [(-1)], 0, [0], 0⟩, ⟨8, [(-10)], 0, [0], 0⟩]
set_option maxRecDepth 8000 in
set_option maxHeartbeats 4000000 in
theorem dates_any (order : Int) (w : World) : Calls Tryz.prog 27 #[.int .i64 order] w fun e w' => ∃ v, e = .returned v ∧ Stl w' (fun W => RulesOk W v (datesL (order % 3))) ∧ Below w.heap.size w w' := by
  have HW := hid (fun w => swithin_any order 3 w (by decide) (by decide))
  have hk : order % 3 = 0 ∨ order % 3 = 1 ∨ order % 3 = 2 := by omega
  generalize order % 3 = k at *
  have HR0 := hid ((((row_stay w [4, 2, 0] #[.int .i64 4, .int .i64 2, .int .i64 0] rfl 3 _ rfl rfl (by decide)).step (Keep.up (up_alloc _ (.cells #[.int .i64 4, .int .i64 0, .int .i64 2] 3)))).step (Keep.up (up_alloc _ (.cells #[.int .i64 0, .int .i64 2, .int .i64 4] 3)))).step (Keep.up (up_alloc _ (.cells #[.slice (some ⟨w.heap.size, 0, none⟩) 3 3, .slice (some ⟨w.heap.size + 1, 0, none⟩) 3 3, .slice (some ⟨w.heap.size + 1 + 1, 0, none⟩) 3 3] 35))))
  have HR1 := hid (((row_stay (w.alloc (.cells #[.int .i64 4, .int .i64 2, .int .i64 0] 3)) [4, 0, 2] #[.int .i64 4, .int .i64 0, .int .i64 2] rfl 3 (w.heap.size + 1) rfl (by simp) (by decide)).step (Keep.up (up_alloc _ (.cells #[.int .i64 0, .int .i64 2, .int .i64 4] 3)))).step (Keep.up (up_alloc _ (.cells #[.slice (some ⟨w.heap.size, 0, none⟩) 3 3, .slice (some ⟨w.heap.size + 1, 0, none⟩) 3 3, .slice (some ⟨w.heap.size + 1 + 1, 0, none⟩) 3 3] 35))))
  have HR2 := hid ((row_stay ((w.alloc (.cells #[.int .i64 4, .int .i64 2, .int .i64 0] 3)).alloc (.cells #[.int .i64 4, .int .i64 0, .int .i64 2] 3)) [0, 2, 4] #[.int .i64 0, .int .i64 2, .int .i64 4] rfl 3 (w.heap.size + 1 + 1) rfl (by simp) (by decide)).step (Keep.up (up_alloc _ (.cells #[.slice (some ⟨w.heap.size, 0, none⟩) 3 3, .slice (some ⟨w.heap.size + 1, 0, none⟩) 3 3, .slice (some ⟨w.heap.size + 1 + 1, 0, none⟩) 3 3] 35))))
  have HU : Hid (Below w.heap.size w ((((w.alloc (.cells #[.int .i64 4, .int .i64 2, .int .i64 0] 3)).alloc (.cells #[.int .i64 4, .int .i64 0, .int .i64 2] 3)).alloc (.cells #[.int .i64 0, .int .i64 2, .int .i64 4] 3)).alloc (.cells #[.slice (some ⟨w.heap.size, 0, none⟩) 3 3, .slice (some ⟨w.heap.size + 1, 0, none⟩) 3 3, .slice (some ⟨w.heap.size + 1 + 1, 0, none⟩) 3 3] 35))) := hid (((((Below.refl _ _).alloc (Nat.le_refl _) _).alloc (by simp) _).alloc (by simp; omega) _).alloc (by simp; omega) _)
  have c0 : ((((w.alloc (.cells #[.int .i64 4, .int .i64 2, .int .i64 0] 3)).alloc (.cells #[.int .i64 4, .int .i64 0, .int .i64 2] 3)).alloc (.cells #[.int .i64 0, .int .i64 2, .int .i64 4] 3)).alloc (.cells #[.slice (some ⟨w.heap.size, 0, none⟩) 3 3, .slice (some ⟨w.heap.size + 1, 0, none⟩) 3 3, .slice (some ⟨w.heap.size + 1 + 1, 0, none⟩) 3 3] 35)).cell? ⟨w.heap.size + 1 + 1 + 1, 0, none⟩ = some (.slice (some ⟨w.heap.size, 0, none⟩) 3 3) := by rw [cell_of_row _ _ _ _ _ _ (row_new' _ _ _ (by simp))]; rfl
  have c1 : ((((w.alloc (.cells #[.int .i64 4, .int .i64 2, .int .i64 0] 3)).alloc (.cells #[.int .i64 4, .int .i64 0, .int .i64 2] 3)).alloc (.cells #[.int .i64 0, .int .i64 2, .int .i64 4] 3)).alloc (.cells #[.slice (some ⟨w.heap.size, 0, none⟩) 3 3, .slice (some ⟨w.heap.size + 1, 0, none⟩) 3 3, .slice (some ⟨w.heap.size + 1 + 1, 0, none⟩) 3 3] 35)).cell? ⟨w.heap.size + 1 + 1 + 1, 1, none⟩ = some (.slice (some ⟨w.heap.size + 1, 0, none⟩) 3 3) := by rw [cell_of_row _ _ _ _ _ _ (row_new' _ _ _ (by simp))]; rfl
  have c2 : ((((w.alloc (.cells #[.int .i64 4, .int .i64 2, .int .i64 0] 3)).alloc (.cells #[.int .i64 4, .int .i64 0, .int .i64 2] 3)).alloc (.cells #[.int .i64 0, .int .i64 2, .int .i64 4] 3)).alloc (.cells #[.slice (some ⟨w.heap.size, 0, none⟩) 3 3, .slice (some ⟨w.heap.size + 1, 0, none⟩) 3 3, .slice (some ⟨w.heap.size + 1 + 1, 0, none⟩) 3 3] 35)).cell? ⟨w.heap.size + 1 + 1 + 1, 2, none⟩ = some (.slice (some ⟨w.heap.size + 1 + 1, 0, none⟩) 3 3) := by rw [cell_of_row _ _ _ _ _ _ (row_new' _ _ _ (by simp))]; rfl
  go_enter Tryz.func27, Tryz.ntmps27
  go_wp2_with fail
  obtain ⟨w0, hw0⟩ : ∃ w0, w0 = (((w.alloc (.cells #[.int .i64 4, .int .i64 2, .int .i64 0] 3)).alloc (.cells #[.int .i64 4, .int .i64 0, .int .i64 2] 3)).alloc (.cells #[.int .i64 0, .int .i64 2, .int .i64 4] 3)).alloc (.cells #[.slice (some ⟨w.heap.size, 0, none⟩) 3 3, .slice (some ⟨w.heap.size + 1, 0, none⟩) 3 3, .slice (some ⟨w.heap.size + 1 + 1, 0, none⟩) 3 3] 35) := ⟨_, rfl⟩
  rw [← hw0] at HR0 HR1 HR2 HU c0 c1 c2 ⊢
  clear hw0
  refine (HW.out _).mono ?_
  rintro e wx ⟨rfl, rfl⟩
  have HP : Hid (∃ g, (k = 0 ∧ g = w.heap.size ∨ k = 1 ∧ g = w.heap.size + 1 ∨ k = 2 ∧ g = w.heap.size + 1 + 1) ∧ Stay wx (fun W => Row W (.slice (some ⟨g, 0, none⟩) 3 3) (datesP k))) := hid (by
    rcases hk with rfl | rfl | rfl
    · exact ⟨_, .inl ⟨rfl, rfl⟩, HR0.out⟩
    · exact ⟨_, .inr (.inl ⟨rfl, rfl⟩), HR1.out⟩
    · exact ⟨_, .inr (.inr ⟨rfl, rfl⟩), HR2.out⟩)
  obtain ⟨gp, hgp, hrp⟩ := HP.out
  have HRP := hid hrp
  have hk0 : 0 ≤ k ∧ k < 3 := by omega
  have cp : wx.cell? ⟨w.heap.size + 1 + 1 + 1, k.toNat, none⟩ = some (.slice (some ⟨gp, 0, none⟩) 3 3) := by
    rcases hgp with ⟨rfl, rfl⟩ | ⟨rfl, rfl⟩ | ⟨rfl, rfl⟩
    · exact c0
    · exact c1
    · exact c2
  obtain ⟨kn, rfl⟩ : ∃ kn : Nat, k = (kn : Int) := ⟨k.toNat, by omega⟩
  rw [Int.toNat_natCast] at cp
  have hk3 : (kn : Int) < 3 := hk0.2
  have HU0 := hid HU.out
  clear hgp hrp HP c0 c1 c2 HR0 HR1 HR2 HU hk hk0
  obtain ⟨w0, hw0⟩ : ∃ w0, w0 = wx := ⟨_, rfl⟩
  subst hw0
  go_wp2_with fail
  refine (lrule_any 1 1 1 _ _ _ _ _ _ _).mono ?_
  rintro e w1 ⟨rfl, b0⟩
  have HQ0 := hid (And.intro ((row_stay w0 [(-1), (-51), (-1), (-51), (-1)] #[.int .i64 (-1), .int .i64 (-51), .int .i64 (-1), .int .i64 (-51), .int .i64 (-1)] rfl 5 _ rfl rfl (by decide)).step (Keep.up b0)) ((HRP.out.step (Keep.up (up_alloc _ _))).step (Keep.up b0)))
  have HD0 := hid (((up_alloc w0 (.cells #[.int .i64 (-1), .int .i64 (-51), .int .i64 (-1), .int .i64 (-51), .int .i64 (-1)] 3)).trans (b0.mono (by simp))))
  clear b0
  go_wp2_with fail
  refine (lrule_lit 1 1 0 [(-1), (-52), (-1), (-52), (-1)] [0, 2, 4] #[.int .i64 (-1), .int .i64 (-52), .int .i64 (-1), .int .i64 (-52), .int .i64 (-1)] #[.int .i64 0, .int .i64 2, .int .i64 4] rfl rfl 5 3 rfl rfl (by decide) w1 _ _ rfl rfl).mono ?_
  rintro e w2 ⟨rfl, q1, b1⟩
  have HQ1 := hid q1
  have HD1 := hid b1
  clear q1
  clear b1
  go_wp2_with fail
  refine (lrule_lit 1 1 0 [(-1), (-2), (-1)] [2, 1, 0] #[.int .i64 (-1), .int .i64 (-2), .int .i64 (-1)] #[.int .i64 2, .int .i64 1, .int .i64 0] rfl rfl 3 3 rfl rfl (by decide) w2 _ _ rfl rfl).mono ?_
  rintro e w3 ⟨rfl, q2, b2⟩
  have HQ2 := hid q2
  have HD2 := hid b2
  clear q2
  clear b2
  go_wp2_with fail
  refine (lrule_lit 1 2 2 [(-2), (-1)] [0, 1] #[.int .i64 (-2), .int .i64 (-1)] #[.int .i64 0, .int .i64 1] rfl rfl 2 2 rfl rfl (by decide) w3 _ _ rfl rfl).mono ?_
  rintro e w4 ⟨rfl, q3, b3⟩
  have HQ3 := hid q3
  have HD3 := hid b3
  clear q3
  clear b3
  go_wp2_with fail
  refine (lrule_lit 1 6 1 [8, (-4), (-5)] [0, 1, 2] #[.int .i64 8, .int .i64 (-4), .int .i64 (-5)] #[.int .i64 0, .int .i64 1, .int .i64 2] rfl rfl 3 3 rfl rfl (by decide) w4 _ _ rfl rfl).mono ?_
  rintro e w5 ⟨rfl, q4, b4⟩
  have HQ4 := hid q4
  have HD4 := hid b4
  clear q4
  clear b4
  go_wp2_with fail
  refine (lrule_lit 1 7 1 [(-3)] [0] #[.int .i64 (-3)] #[.int .i64 0] rfl rfl 1 1 rfl rfl (by decide) w5 _ _ rfl rfl).mono ?_
  rintro e w6 ⟨rfl, q5, b5⟩
  have HQ5 := hid q5
  have HD5 := hid b5
  clear q5
  clear b5
  go_wp2_with fail
  refine (lrule_lit 8 0 0 [(-1)] [0] #[.int .i64 (-1)] #[.int .i64 0] rfl rfl 1 1 rfl rfl (by decide) w6 _ _ rfl rfl).mono ?_
  rintro e w7 ⟨rfl, q6, b6⟩
  have HQ6 := hid q6
  have HD6 := hid b6
  clear q6
  clear b6
  go_wp2_with fail
  refine (lrule_lit 8 0 0 [(-10)] [0] #[.int .i64 (-10)] #[.int .i64 0] rfl rfl 1 1 rfl rfl (by decide) w7 _ _ rfl rfl).mono ?_
  rintro e w8 ⟨rfl, q7, b7⟩
  have HQ7 := hid q7
  have HD7 := hid b7
  clear q7
  clear b7
  have HE8 := hid (Below.refl w8.heap.size w8)
  have HE7 := hid (up_trans HD7.out HE8.out)
  have HE6 := hid (up_trans HD6.out HE7.out)
  have HE5 := hid (up_trans HD5.out HE6.out)
  have HE4 := hid (up_trans HD4.out HE5.out)
  have HE3 := hid (up_trans HD3.out HE4.out)
  have HE2 := hid (up_trans HD2.out HE3.out)
  have HE1 := hid (up_trans HD1.out HE2.out)
  have HE0 := hid (up_trans HD0.out HE1.out)
  have HO := hid (own_lit w8 56 5 8 w8.heap.size #[.int .i64 1, .slice (some ⟨w0.heap.size, 0, none⟩) 5 5, .int .i64 1, .slice (some ⟨gp, 0, none⟩) 3 3, .int .i64 1, .int .i64 1, .slice (some ⟨w1.heap.size, 0, none⟩) 5 5, .int .i64 1, .slice (some ⟨w1.heap.size + 1, 0, none⟩) 3 3, .int .i64 0, .int .i64 1, .slice (some ⟨w2.heap.size, 0, none⟩) 3 3, .int .i64 1, .slice (some ⟨w2.heap.size + 1, 0, none⟩) 3 3, .int .i64 0, .int .i64 1, .slice (some ⟨w3.heap.size, 0, none⟩) 2 2, .int .i64 2, .slice (some ⟨w3.heap.size + 1, 0, none⟩) 2 2, .int .i64 2, .int .i64 1, .slice (some ⟨w4.heap.size, 0, none⟩) 3 3, .int .i64 6, .slice (some ⟨w4.heap.size + 1, 0, none⟩) 3 3, .int .i64 1, .int .i64 1, .slice (some ⟨w5.heap.size, 0, none⟩) 1 1, .int .i64 7, .slice (some ⟨w5.heap.size + 1, 0, none⟩) 1 1, .int .i64 1, .int .i64 8, .slice (some ⟨w6.heap.size, 0, none⟩) 1 1, .int .i64 0, .slice (some ⟨w6.heap.size + 1, 0, none⟩) 1 1, .int .i64 0, .int .i64 8, .slice (some ⟨w7.heap.size, 0, none⟩) 1 1, .int .i64 0, .slice (some ⟨w7.heap.size + 1, 0, none⟩) 1 1, .int .i64 0] [.int .i64 1, .slice (some ⟨w0.heap.size, 0, none⟩) 5 5, .int .i64 1, .slice (some ⟨gp, 0, none⟩) 3 3, .int .i64 1, .int .i64 1, .slice (some ⟨w1.heap.size, 0, none⟩) 5 5, .int .i64 1, .slice (some ⟨w1.heap.size + 1, 0, none⟩) 3 3, .int .i64 0, .int .i64 1, .slice (some ⟨w2.heap.size, 0, none⟩) 3 3, .int .i64 1, .slice (some ⟨w2.heap.size + 1, 0, none⟩) 3 3, .int .i64 0, .int .i64 1, .slice (some ⟨w3.heap.size, 0, none⟩) 2 2, .int .i64 2, .slice (some ⟨w3.heap.size + 1, 0, none⟩) 2 2, .int .i64 2, .int .i64 1, .slice (some ⟨w4.heap.size, 0, none⟩) 3 3, .int .i64 6, .slice (some ⟨w4.heap.size + 1, 0, none⟩) 3 3, .int .i64 1, .int .i64 1, .slice (some ⟨w5.heap.size, 0, none⟩) 1 1, .int .i64 7, .slice (some ⟨w5.heap.size + 1, 0, none⟩) 1 1, .int .i64 1, .int .i64 8, .slice (some ⟨w6.heap.size, 0, none⟩) 1 1, .int .i64 0, .slice (some ⟨w6.heap.size + 1, 0, none⟩) 1 1, .int .i64 0, .int .i64 8, .slice (some ⟨w7.heap.size, 0, none⟩) 1 1, .int .i64 0, .slice (some ⟨w7.heap.size + 1, 0, none⟩) 1 1, .int .i64 0] rfl rfl rfl (by decide))
  have HL := hid (up_alloc w8 (.cells #[.int .i64 1, .slice (some ⟨w0.heap.size, 0, none⟩) 5 5, .int .i64 1, .slice (some ⟨gp, 0, none⟩) 3 3, .int .i64 1, .int .i64 1, .slice (some ⟨w1.heap.size, 0, none⟩) 5 5, .int .i64 1, .slice (some ⟨w1.heap.size + 1, 0, none⟩) 3 3, .int .i64 0, .int .i64 1, .slice (some ⟨w2.heap.size, 0, none⟩) 3 3, .int .i64 1, .slice (some ⟨w2.heap.size + 1, 0, none⟩) 3 3, .int .i64 0, .int .i64 1, .slice (some ⟨w3.heap.size, 0, none⟩) 2 2, .int .i64 2, .slice (some ⟨w3.heap.size + 1, 0, none⟩) 2 2, .int .i64 2, .int .i64 1, .slice (some ⟨w4.heap.size, 0, none⟩) 3 3, .int .i64 6, .slice (some ⟨w4.heap.size + 1, 0, none⟩) 3 3, .int .i64 1, .int .i64 1, .slice (some ⟨w5.heap.size, 0, none⟩) 1 1, .int .i64 7, .slice (some ⟨w5.heap.size + 1, 0, none⟩) 1 1, .int .i64 1, .int .i64 8, .slice (some ⟨w6.heap.size, 0, none⟩) 1 1, .int .i64 0, .slice (some ⟨w6.heap.size + 1, 0, none⟩) 1 1, .int .i64 0, .int .i64 8, .slice (some ⟨w7.heap.size, 0, none⟩) 1 1, .int .i64 0, .slice (some ⟨w7.heap.size + 1, 0, none⟩) 1 1, .int .i64 0] 56))
  go_wp2
  go_ret
  exact ⟨_, rfl, fun W kk => rules_own (xs := datesL kn) (own_keepL HO.out (by decide) kk) ((RuleC.one W ⟨1, [-1, -51, -1, -51, -1], 1, datesP kn, 1⟩ (.slice (some ⟨w0.heap.size, 0, none⟩) 5 5) (.slice (some ⟨gp, 0, none⟩) 3 3) (HQ0.out.1 W ((Keep.up HE1.out).trans ((Keep.up HL.out).trans kk.keep))) (HQ0.out.2 W ((Keep.up HE1.out).trans ((Keep.up HL.out).trans kk.keep))) rfl rfl).append ((RuleC.one W ⟨1, [(-1), (-52), (-1), (-52), (-1)], 1, [0, 2, 4], 0⟩ (.slice (some ⟨w1.heap.size, 0, none⟩) 5 5) (.slice (some ⟨w1.heap.size + 1, 0, none⟩) 3 3) (HQ1.out.1 W ((Keep.up HE2.out).trans ((Keep.up HL.out).trans kk.keep))) (HQ1.out.2 W ((Keep.up HE2.out).trans ((Keep.up HL.out).trans kk.keep))) rfl rfl).append ((RuleC.one W ⟨1, [(-1), (-2), (-1)], 1, [2, 1, 0], 0⟩ (.slice (some ⟨w2.heap.size, 0, none⟩) 3 3) (.slice (some ⟨w2.heap.size + 1, 0, none⟩) 3 3) (HQ2.out.1 W ((Keep.up HE3.out).trans ((Keep.up HL.out).trans kk.keep))) (HQ2.out.2 W ((Keep.up HE3.out).trans ((Keep.up HL.out).trans kk.keep))) rfl rfl).append ((RuleC.one W ⟨1, [(-2), (-1)], 2, [0, 1], 2⟩ (.slice (some ⟨w3.heap.size, 0, none⟩) 2 2) (.slice (some ⟨w3.heap.size + 1, 0, none⟩) 2 2) (HQ3.out.1 W ((Keep.up HE4.out).trans ((Keep.up HL.out).trans kk.keep))) (HQ3.out.2 W ((Keep.up HE4.out).trans ((Keep.up HL.out).trans kk.keep))) rfl rfl).append ((RuleC.one W ⟨1, [8, (-4), (-5)], 6, [0, 1, 2], 1⟩ (.slice (some ⟨w4.heap.size, 0, none⟩) 3 3) (.slice (some ⟨w4.heap.size + 1, 0, none⟩) 3 3) (HQ4.out.1 W ((Keep.up HE5.out).trans ((Keep.up HL.out).trans kk.keep))) (HQ4.out.2 W ((Keep.up HE5.out).trans ((Keep.up HL.out).trans kk.keep))) rfl rfl).append ((RuleC.one W ⟨1, [(-3)], 7, [0], 1⟩ (.slice (some ⟨w5.heap.size, 0, none⟩) 1 1) (.slice (some ⟨w5.heap.size + 1, 0, none⟩) 1 1) (HQ5.out.1 W ((Keep.up HE6.out).trans ((Keep.up HL.out).trans kk.keep))) (HQ5.out.2 W ((Keep.up HE6.out).trans ((Keep.up HL.out).trans kk.keep))) rfl rfl).append ((RuleC.one W ⟨8, [(-1)], 0, [0], 0⟩ (.slice (some ⟨w6.heap.size, 0, none⟩) 1 1) (.slice (some ⟨w6.heap.size + 1, 0, none⟩) 1 1) (HQ6.out.1 W ((Keep.up HE7.out).trans ((Keep.up HL.out).trans kk.keep))) (HQ6.out.2 W ((Keep.up HE7.out).trans ((Keep.up HL.out).trans kk.keep))) rfl rfl).append ((RuleC.one W ⟨8, [(-10)], 0, [0], 0⟩ (.slice (some ⟨w7.heap.size, 0, none⟩) 1 1) (.slice (some ⟨w7.heap.size + 1, 0, none⟩) 1 1) (HQ7.out.1 W ((Keep.up HE8.out).trans ((Keep.up HL.out).trans kk.keep))) (HQ7.out.2 W ((Keep.up HE8.out).trans ((Keep.up HL.out).trans kk.keep))) rfl rfl).append (RuleC.nil _))))))))) (by simp [datesL]), up_trans (up_trans HU0.out HE0.out) HL.out⟩

end Go.Proofs.YtohgaknojkdohaaGreatDoor

/- The sample's other rules. -/
namespace Go.Proofs.YtohgaknojkdohaaGreatDoor
open Go.RowKit Gr

def othersA : List Rule := [⟨2, [(-1), (-55), (-1)], 3, [0, 2], 0⟩, ⟨2, [(-1), (-55), (-1), (-55), (-1)], 3, [0, 2, 4], 0⟩, ⟨2, [(-1), (-6)], 4, [0, 1], 1⟩, ⟨2, [(-1), (-55), (-1), (-6)], 4, [0, 2, 3], 0⟩, ⟨3, [1, 2], 5, [0, 1], 0⟩, ⟨4, [(-1)], 8, [0], 0⟩, ⟨4, [(-1), (-53), (-1)], 9, [0, 2], 0⟩, ⟨4, [(-1), (-54), (-1)], 10, [0, 2], 1⟩, ⟨4, [(-52), 4], 11, [1], 1⟩, ⟨5, [(-7), 4], 12, [0, 1], 0⟩, ⟨5, [4, (-7)], 12, [1, 0], 0⟩, ⟨9, [(-1), (-8)], 13, [0, 1], 0⟩, ⟨6, [9], 0, [0], 0⟩, ⟨6, [6, 9], 14, [0, 1], 1⟩, ⟨7, [1, (-9), 1], 15, [0, 2], 0⟩]
def pickR (i : Nat) : Rule := ⟨0, [(i : Int)], 0, [0], (i : Int).tmod 3⟩
/-- With the picks of the symbols 1 .. m. -/
def othersM (m : Nat) : List Rule := othersA ++ (List.range m).map fun i => pickR (i + 1)
theorem othersM_succ (m : Nat) : othersM (m + 1) = othersM m ++ [pickR (m + 1)] := by simp [othersM, List.range_succ]
theorem othersM_length (m : Nat) : (othersM m).length = 15 + m := by simp [othersM, othersA]; omega
set_option maxRecDepth 8000 in
set_option maxHeartbeats 8000000 in
theorem others_any (w0 : World) : Calls Tryz.prog 26 #[] w0 fun e w' => ∃ v, e = .returned v ∧ Stl w' (fun W => RulesOk W v (othersM 7)) ∧ Below w0.heap.size w0 w' := by
  go_enter Tryz.func26, Tryz.ntmps26
  go_wp2_with fail
  refine (lrule_lit 2 3 0 [(-1), (-55), (-1)] [0, 2] #[.int .i64 (-1), .int .i64 (-55), .int .i64 (-1)] #[.int .i64 0, .int .i64 2] rfl rfl 3 2 rfl rfl (by decide) w0 _ _ rfl rfl).mono ?_
  rintro e w1 ⟨rfl, q0, b0⟩
  have HQ0 := hid q0
  have HD0 := hid b0
  clear q0
  clear b0
  go_wp2_with fail
  refine (lrule_lit 2 3 0 [(-1), (-55), (-1), (-55), (-1)] [0, 2, 4] #[.int .i64 (-1), .int .i64 (-55), .int .i64 (-1), .int .i64 (-55), .int .i64 (-1)] #[.int .i64 0, .int .i64 2, .int .i64 4] rfl rfl 5 3 rfl rfl (by decide) w1 _ _ rfl rfl).mono ?_
  rintro e w2 ⟨rfl, q1, b1⟩
  have HQ1 := hid q1
  have HD1 := hid b1
  clear q1
  clear b1
  go_wp2_with fail
  refine (lrule_lit 2 4 1 [(-1), (-6)] [0, 1] #[.int .i64 (-1), .int .i64 (-6)] #[.int .i64 0, .int .i64 1] rfl rfl 2 2 rfl rfl (by decide) w2 _ _ rfl rfl).mono ?_
  rintro e w3 ⟨rfl, q2, b2⟩
  have HQ2 := hid q2
  have HD2 := hid b2
  clear q2
  clear b2
  go_wp2_with fail
  refine (lrule_lit 2 4 0 [(-1), (-55), (-1), (-6)] [0, 2, 3] #[.int .i64 (-1), .int .i64 (-55), .int .i64 (-1), .int .i64 (-6)] #[.int .i64 0, .int .i64 2, .int .i64 3] rfl rfl 4 3 rfl rfl (by decide) w3 _ _ rfl rfl).mono ?_
  rintro e w4 ⟨rfl, q3, b3⟩
  have HQ3 := hid q3
  have HD3 := hid b3
  clear q3
  clear b3
  go_wp2_with fail
  refine (lrule_lit 3 5 0 [1, 2] [0, 1] #[.int .i64 1, .int .i64 2] #[.int .i64 0, .int .i64 1] rfl rfl 2 2 rfl rfl (by decide) w4 _ _ rfl rfl).mono ?_
  rintro e w5 ⟨rfl, q4, b4⟩
  have HQ4 := hid q4
  have HD4 := hid b4
  clear q4
  clear b4
  go_wp2_with fail
  refine (lrule_lit 4 8 0 [(-1)] [0] #[.int .i64 (-1)] #[.int .i64 0] rfl rfl 1 1 rfl rfl (by decide) w5 _ _ rfl rfl).mono ?_
  rintro e w6 ⟨rfl, q5, b5⟩
  have HQ5 := hid q5
  have HD5 := hid b5
  clear q5
  clear b5
  go_wp2_with fail
  refine (lrule_lit 4 9 0 [(-1), (-53), (-1)] [0, 2] #[.int .i64 (-1), .int .i64 (-53), .int .i64 (-1)] #[.int .i64 0, .int .i64 2] rfl rfl 3 2 rfl rfl (by decide) w6 _ _ rfl rfl).mono ?_
  rintro e w7 ⟨rfl, q6, b6⟩
  have HQ6 := hid q6
  have HD6 := hid b6
  clear q6
  clear b6
  go_wp2_with fail
  refine (lrule_lit 4 10 1 [(-1), (-54), (-1)] [0, 2] #[.int .i64 (-1), .int .i64 (-54), .int .i64 (-1)] #[.int .i64 0, .int .i64 2] rfl rfl 3 2 rfl rfl (by decide) w7 _ _ rfl rfl).mono ?_
  rintro e w8 ⟨rfl, q7, b7⟩
  have HQ7 := hid q7
  have HD7 := hid b7
  clear q7
  clear b7
  go_wp2_with fail
  refine (lrule_lit 4 11 1 [(-52), 4] [1] #[.int .i64 (-52), .int .i64 4] #[.int .i64 1] rfl rfl 2 1 rfl rfl (by decide) w8 _ _ rfl rfl).mono ?_
  rintro e w9 ⟨rfl, q8, b8⟩
  have HQ8 := hid q8
  have HD8 := hid b8
  clear q8
  clear b8
  go_wp2_with fail
  refine (lrule_lit 5 12 0 [(-7), 4] [0, 1] #[.int .i64 (-7), .int .i64 4] #[.int .i64 0, .int .i64 1] rfl rfl 2 2 rfl rfl (by decide) w9 _ _ rfl rfl).mono ?_
  rintro e w10 ⟨rfl, q9, b9⟩
  have HQ9 := hid q9
  have HD9 := hid b9
  clear q9
  clear b9
  go_wp2_with fail
  refine (lrule_lit 5 12 0 [4, (-7)] [1, 0] #[.int .i64 4, .int .i64 (-7)] #[.int .i64 1, .int .i64 0] rfl rfl 2 2 rfl rfl (by decide) w10 _ _ rfl rfl).mono ?_
  rintro e w11 ⟨rfl, q10, b10⟩
  have HQ10 := hid q10
  have HD10 := hid b10
  clear q10
  clear b10
  go_wp2_with fail
  refine (lrule_lit 9 13 0 [(-1), (-8)] [0, 1] #[.int .i64 (-1), .int .i64 (-8)] #[.int .i64 0, .int .i64 1] rfl rfl 2 2 rfl rfl (by decide) w11 _ _ rfl rfl).mono ?_
  rintro e w12 ⟨rfl, q11, b11⟩
  have HQ11 := hid q11
  have HD11 := hid b11
  clear q11
  clear b11
  go_wp2_with fail
  refine (lrule_lit 6 0 0 [9] [0] #[.int .i64 9] #[.int .i64 0] rfl rfl 1 1 rfl rfl (by decide) w12 _ _ rfl rfl).mono ?_
  rintro e w13 ⟨rfl, q12, b12⟩
  have HQ12 := hid q12
  have HD12 := hid b12
  clear q12
  clear b12
  go_wp2_with fail
  refine (lrule_lit 6 14 1 [6, 9] [0, 1] #[.int .i64 6, .int .i64 9] #[.int .i64 0, .int .i64 1] rfl rfl 2 2 rfl rfl (by decide) w13 _ _ rfl rfl).mono ?_
  rintro e w14 ⟨rfl, q13, b13⟩
  have HQ13 := hid q13
  have HD13 := hid b13
  clear q13
  clear b13
  go_wp2_with fail
  refine (lrule_lit 7 15 0 [1, (-9), 1] [0, 2] #[.int .i64 1, .int .i64 (-9), .int .i64 1] #[.int .i64 0, .int .i64 2] rfl rfl 3 2 rfl rfl (by decide) w14 _ _ rfl rfl).mono ?_
  rintro e w15 ⟨rfl, q14, b14⟩
  have HQ14 := hid q14
  have HD14 := hid b14
  clear q14
  clear b14
  have HE15 := hid (Below.refl w15.heap.size w15)
  have HE14 := hid (up_trans HD14.out HE15.out)
  have HE13 := hid (up_trans HD13.out HE14.out)
  have HE12 := hid (up_trans HD12.out HE13.out)
  have HE11 := hid (up_trans HD11.out HE12.out)
  have HE10 := hid (up_trans HD10.out HE11.out)
  have HE9 := hid (up_trans HD9.out HE10.out)
  have HE8 := hid (up_trans HD8.out HE9.out)
  have HE7 := hid (up_trans HD7.out HE8.out)
  have HE6 := hid (up_trans HD6.out HE7.out)
  have HE5 := hid (up_trans HD5.out HE6.out)
  have HE4 := hid (up_trans HD4.out HE5.out)
  have HE3 := hid (up_trans HD3.out HE4.out)
  have HE2 := hid (up_trans HD2.out HE3.out)
  have HE1 := hid (up_trans HD1.out HE2.out)
  have HE0 := hid (up_trans HD0.out HE1.out)
  have HO := hid (own_lit w15 56 5 15 w15.heap.size #[.int .i64 2, .slice (some ⟨w0.heap.size, 0, none⟩) 3 3, .int .i64 3, .slice (some ⟨w0.heap.size + 1, 0, none⟩) 2 2, .int .i64 0, .int .i64 2, .slice (some ⟨w1.heap.size, 0, none⟩) 5 5, .int .i64 3, .slice (some ⟨w1.heap.size + 1, 0, none⟩) 3 3, .int .i64 0, .int .i64 2, .slice (some ⟨w2.heap.size, 0, none⟩) 2 2, .int .i64 4, .slice (some ⟨w2.heap.size + 1, 0, none⟩) 2 2, .int .i64 1, .int .i64 2, .slice (some ⟨w3.heap.size, 0, none⟩) 4 4, .int .i64 4, .slice (some ⟨w3.heap.size + 1, 0, none⟩) 3 3, .int .i64 0, .int .i64 3, .slice (some ⟨w4.heap.size, 0, none⟩) 2 2, .int .i64 5, .slice (some ⟨w4.heap.size + 1, 0, none⟩) 2 2, .int .i64 0, .int .i64 4, .slice (some ⟨w5.heap.size, 0, none⟩) 1 1, .int .i64 8, .slice (some ⟨w5.heap.size + 1, 0, none⟩) 1 1, .int .i64 0, .int .i64 4, .slice (some ⟨w6.heap.size, 0, none⟩) 3 3, .int .i64 9, .slice (some ⟨w6.heap.size + 1, 0, none⟩) 2 2, .int .i64 0, .int .i64 4, .slice (some ⟨w7.heap.size, 0, none⟩) 3 3, .int .i64 10, .slice (some ⟨w7.heap.size + 1, 0, none⟩) 2 2, .int .i64 1, .int .i64 4, .slice (some ⟨w8.heap.size, 0, none⟩) 2 2, .int .i64 11, .slice (some ⟨w8.heap.size + 1, 0, none⟩) 1 1, .int .i64 1, .int .i64 5, .slice (some ⟨w9.heap.size, 0, none⟩) 2 2, .int .i64 12, .slice (some ⟨w9.heap.size + 1, 0, none⟩) 2 2, .int .i64 0, .int .i64 5, .slice (some ⟨w10.heap.size, 0, none⟩) 2 2, .int .i64 12, .slice (some ⟨w10.heap.size + 1, 0, none⟩) 2 2, .int .i64 0, .int .i64 9, .slice (some ⟨w11.heap.size, 0, none⟩) 2 2, .int .i64 13, .slice (some ⟨w11.heap.size + 1, 0, none⟩) 2 2, .int .i64 0, .int .i64 6, .slice (some ⟨w12.heap.size, 0, none⟩) 1 1, .int .i64 0, .slice (some ⟨w12.heap.size + 1, 0, none⟩) 1 1, .int .i64 0, .int .i64 6, .slice (some ⟨w13.heap.size, 0, none⟩) 2 2, .int .i64 14, .slice (some ⟨w13.heap.size + 1, 0, none⟩) 2 2, .int .i64 1, .int .i64 7, .slice (some ⟨w14.heap.size, 0, none⟩) 3 3, .int .i64 15, .slice (some ⟨w14.heap.size + 1, 0, none⟩) 2 2, .int .i64 0] [.int .i64 2, .slice (some ⟨w0.heap.size, 0, none⟩) 3 3, .int .i64 3, .slice (some ⟨w0.heap.size + 1, 0, none⟩) 2 2, .int .i64 0, .int .i64 2, .slice (some ⟨w1.heap.size, 0, none⟩) 5 5, .int .i64 3, .slice (some ⟨w1.heap.size + 1, 0, none⟩) 3 3, .int .i64 0, .int .i64 2, .slice (some ⟨w2.heap.size, 0, none⟩) 2 2, .int .i64 4, .slice (some ⟨w2.heap.size + 1, 0, none⟩) 2 2, .int .i64 1, .int .i64 2, .slice (some ⟨w3.heap.size, 0, none⟩) 4 4, .int .i64 4, .slice (some ⟨w3.heap.size + 1, 0, none⟩) 3 3, .int .i64 0, .int .i64 3, .slice (some ⟨w4.heap.size, 0, none⟩) 2 2, .int .i64 5, .slice (some ⟨w4.heap.size + 1, 0, none⟩) 2 2, .int .i64 0, .int .i64 4, .slice (some ⟨w5.heap.size, 0, none⟩) 1 1, .int .i64 8, .slice (some ⟨w5.heap.size + 1, 0, none⟩) 1 1, .int .i64 0, .int .i64 4, .slice (some ⟨w6.heap.size, 0, none⟩) 3 3, .int .i64 9, .slice (some ⟨w6.heap.size + 1, 0, none⟩) 2 2, .int .i64 0, .int .i64 4, .slice (some ⟨w7.heap.size, 0, none⟩) 3 3, .int .i64 10, .slice (some ⟨w7.heap.size + 1, 0, none⟩) 2 2, .int .i64 1, .int .i64 4, .slice (some ⟨w8.heap.size, 0, none⟩) 2 2, .int .i64 11, .slice (some ⟨w8.heap.size + 1, 0, none⟩) 1 1, .int .i64 1, .int .i64 5, .slice (some ⟨w9.heap.size, 0, none⟩) 2 2, .int .i64 12, .slice (some ⟨w9.heap.size + 1, 0, none⟩) 2 2, .int .i64 0, .int .i64 5, .slice (some ⟨w10.heap.size, 0, none⟩) 2 2, .int .i64 12, .slice (some ⟨w10.heap.size + 1, 0, none⟩) 2 2, .int .i64 0, .int .i64 9, .slice (some ⟨w11.heap.size, 0, none⟩) 2 2, .int .i64 13, .slice (some ⟨w11.heap.size + 1, 0, none⟩) 2 2, .int .i64 0, .int .i64 6, .slice (some ⟨w12.heap.size, 0, none⟩) 1 1, .int .i64 0, .slice (some ⟨w12.heap.size + 1, 0, none⟩) 1 1, .int .i64 0, .int .i64 6, .slice (some ⟨w13.heap.size, 0, none⟩) 2 2, .int .i64 14, .slice (some ⟨w13.heap.size + 1, 0, none⟩) 2 2, .int .i64 1, .int .i64 7, .slice (some ⟨w14.heap.size, 0, none⟩) 3 3, .int .i64 15, .slice (some ⟨w14.heap.size + 1, 0, none⟩) 2 2, .int .i64 0] rfl rfl rfl (by decide))
  have HL := hid (up_alloc w15 (.cells #[.int .i64 2, .slice (some ⟨w0.heap.size, 0, none⟩) 3 3, .int .i64 3, .slice (some ⟨w0.heap.size + 1, 0, none⟩) 2 2, .int .i64 0, .int .i64 2, .slice (some ⟨w1.heap.size, 0, none⟩) 5 5, .int .i64 3, .slice (some ⟨w1.heap.size + 1, 0, none⟩) 3 3, .int .i64 0, .int .i64 2, .slice (some ⟨w2.heap.size, 0, none⟩) 2 2, .int .i64 4, .slice (some ⟨w2.heap.size + 1, 0, none⟩) 2 2, .int .i64 1, .int .i64 2, .slice (some ⟨w3.heap.size, 0, none⟩) 4 4, .int .i64 4, .slice (some ⟨w3.heap.size + 1, 0, none⟩) 3 3, .int .i64 0, .int .i64 3, .slice (some ⟨w4.heap.size, 0, none⟩) 2 2, .int .i64 5, .slice (some ⟨w4.heap.size + 1, 0, none⟩) 2 2, .int .i64 0, .int .i64 4, .slice (some ⟨w5.heap.size, 0, none⟩) 1 1, .int .i64 8, .slice (some ⟨w5.heap.size + 1, 0, none⟩) 1 1, .int .i64 0, .int .i64 4, .slice (some ⟨w6.heap.size, 0, none⟩) 3 3, .int .i64 9, .slice (some ⟨w6.heap.size + 1, 0, none⟩) 2 2, .int .i64 0, .int .i64 4, .slice (some ⟨w7.heap.size, 0, none⟩) 3 3, .int .i64 10, .slice (some ⟨w7.heap.size + 1, 0, none⟩) 2 2, .int .i64 1, .int .i64 4, .slice (some ⟨w8.heap.size, 0, none⟩) 2 2, .int .i64 11, .slice (some ⟨w8.heap.size + 1, 0, none⟩) 1 1, .int .i64 1, .int .i64 5, .slice (some ⟨w9.heap.size, 0, none⟩) 2 2, .int .i64 12, .slice (some ⟨w9.heap.size + 1, 0, none⟩) 2 2, .int .i64 0, .int .i64 5, .slice (some ⟨w10.heap.size, 0, none⟩) 2 2, .int .i64 12, .slice (some ⟨w10.heap.size + 1, 0, none⟩) 2 2, .int .i64 0, .int .i64 9, .slice (some ⟨w11.heap.size, 0, none⟩) 2 2, .int .i64 13, .slice (some ⟨w11.heap.size + 1, 0, none⟩) 2 2, .int .i64 0, .int .i64 6, .slice (some ⟨w12.heap.size, 0, none⟩) 1 1, .int .i64 0, .slice (some ⟨w12.heap.size + 1, 0, none⟩) 1 1, .int .i64 0, .int .i64 6, .slice (some ⟨w13.heap.size, 0, none⟩) 2 2, .int .i64 14, .slice (some ⟨w13.heap.size + 1, 0, none⟩) 2 2, .int .i64 1, .int .i64 7, .slice (some ⟨w14.heap.size, 0, none⟩) 3 3, .int .i64 15, .slice (some ⟨w14.heap.size + 1, 0, none⟩) 2 2, .int .i64 0] 56))
  have HS : Hid (Stay (w15.alloc (.cells #[.int .i64 2, .slice (some ⟨w0.heap.size, 0, none⟩) 3 3, .int .i64 3, .slice (some ⟨w0.heap.size + 1, 0, none⟩) 2 2, .int .i64 0, .int .i64 2, .slice (some ⟨w1.heap.size, 0, none⟩) 5 5, .int .i64 3, .slice (some ⟨w1.heap.size + 1, 0, none⟩) 3 3, .int .i64 0, .int .i64 2, .slice (some ⟨w2.heap.size, 0, none⟩) 2 2, .int .i64 4, .slice (some ⟨w2.heap.size + 1, 0, none⟩) 2 2, .int .i64 1, .int .i64 2, .slice (some ⟨w3.heap.size, 0, none⟩) 4 4, .int .i64 4, .slice (some ⟨w3.heap.size + 1, 0, none⟩) 3 3, .int .i64 0, .int .i64 3, .slice (some ⟨w4.heap.size, 0, none⟩) 2 2, .int .i64 5, .slice (some ⟨w4.heap.size + 1, 0, none⟩) 2 2, .int .i64 0, .int .i64 4, .slice (some ⟨w5.heap.size, 0, none⟩) 1 1, .int .i64 8, .slice (some ⟨w5.heap.size + 1, 0, none⟩) 1 1, .int .i64 0, .int .i64 4, .slice (some ⟨w6.heap.size, 0, none⟩) 3 3, .int .i64 9, .slice (some ⟨w6.heap.size + 1, 0, none⟩) 2 2, .int .i64 0, .int .i64 4, .slice (some ⟨w7.heap.size, 0, none⟩) 3 3, .int .i64 10, .slice (some ⟨w7.heap.size + 1, 0, none⟩) 2 2, .int .i64 1, .int .i64 4, .slice (some ⟨w8.heap.size, 0, none⟩) 2 2, .int .i64 11, .slice (some ⟨w8.heap.size + 1, 0, none⟩) 1 1, .int .i64 1, .int .i64 5, .slice (some ⟨w9.heap.size, 0, none⟩) 2 2, .int .i64 12, .slice (some ⟨w9.heap.size + 1, 0, none⟩) 2 2, .int .i64 0, .int .i64 5, .slice (some ⟨w10.heap.size, 0, none⟩) 2 2, .int .i64 12, .slice (some ⟨w10.heap.size + 1, 0, none⟩) 2 2, .int .i64 0, .int .i64 9, .slice (some ⟨w11.heap.size, 0, none⟩) 2 2, .int .i64 13, .slice (some ⟨w11.heap.size + 1, 0, none⟩) 2 2, .int .i64 0, .int .i64 6, .slice (some ⟨w12.heap.size, 0, none⟩) 1 1, .int .i64 0, .slice (some ⟨w12.heap.size + 1, 0, none⟩) 1 1, .int .i64 0, .int .i64 6, .slice (some ⟨w13.heap.size, 0, none⟩) 2 2, .int .i64 14, .slice (some ⟨w13.heap.size + 1, 0, none⟩) 2 2, .int .i64 1, .int .i64 7, .slice (some ⟨w14.heap.size, 0, none⟩) 3 3, .int .i64 15, .slice (some ⟨w14.heap.size + 1, 0, none⟩) 2 2, .int .i64 0] 56)) (fun W => RuleC W [.int .i64 2, .slice (some ⟨w0.heap.size, 0, none⟩) 3 3, .int .i64 3, .slice (some ⟨w0.heap.size + 1, 0, none⟩) 2 2, .int .i64 0, .int .i64 2, .slice (some ⟨w1.heap.size, 0, none⟩) 5 5, .int .i64 3, .slice (some ⟨w1.heap.size + 1, 0, none⟩) 3 3, .int .i64 0, .int .i64 2, .slice (some ⟨w2.heap.size, 0, none⟩) 2 2, .int .i64 4, .slice (some ⟨w2.heap.size + 1, 0, none⟩) 2 2, .int .i64 1, .int .i64 2, .slice (some ⟨w3.heap.size, 0, none⟩) 4 4, .int .i64 4, .slice (some ⟨w3.heap.size + 1, 0, none⟩) 3 3, .int .i64 0, .int .i64 3, .slice (some ⟨w4.heap.size, 0, none⟩) 2 2, .int .i64 5, .slice (some ⟨w4.heap.size + 1, 0, none⟩) 2 2, .int .i64 0, .int .i64 4, .slice (some ⟨w5.heap.size, 0, none⟩) 1 1, .int .i64 8, .slice (some ⟨w5.heap.size + 1, 0, none⟩) 1 1, .int .i64 0, .int .i64 4, .slice (some ⟨w6.heap.size, 0, none⟩) 3 3, .int .i64 9, .slice (some ⟨w6.heap.size + 1, 0, none⟩) 2 2, .int .i64 0, .int .i64 4, .slice (some ⟨w7.heap.size, 0, none⟩) 3 3, .int .i64 10, .slice (some ⟨w7.heap.size + 1, 0, none⟩) 2 2, .int .i64 1, .int .i64 4, .slice (some ⟨w8.heap.size, 0, none⟩) 2 2, .int .i64 11, .slice (some ⟨w8.heap.size + 1, 0, none⟩) 1 1, .int .i64 1, .int .i64 5, .slice (some ⟨w9.heap.size, 0, none⟩) 2 2, .int .i64 12, .slice (some ⟨w9.heap.size + 1, 0, none⟩) 2 2, .int .i64 0, .int .i64 5, .slice (some ⟨w10.heap.size, 0, none⟩) 2 2, .int .i64 12, .slice (some ⟨w10.heap.size + 1, 0, none⟩) 2 2, .int .i64 0, .int .i64 9, .slice (some ⟨w11.heap.size, 0, none⟩) 2 2, .int .i64 13, .slice (some ⟨w11.heap.size + 1, 0, none⟩) 2 2, .int .i64 0, .int .i64 6, .slice (some ⟨w12.heap.size, 0, none⟩) 1 1, .int .i64 0, .slice (some ⟨w12.heap.size + 1, 0, none⟩) 1 1, .int .i64 0, .int .i64 6, .slice (some ⟨w13.heap.size, 0, none⟩) 2 2, .int .i64 14, .slice (some ⟨w13.heap.size + 1, 0, none⟩) 2 2, .int .i64 1, .int .i64 7, .slice (some ⟨w14.heap.size, 0, none⟩) 3 3, .int .i64 15, .slice (some ⟨w14.heap.size + 1, 0, none⟩) 2 2, .int .i64 0] othersA)) := hid (fun W kk => (RuleC.one W ⟨2, [(-1), (-55), (-1)], 3, [0, 2], 0⟩ (.slice (some ⟨w0.heap.size, 0, none⟩) 3 3) (.slice (some ⟨w0.heap.size + 1, 0, none⟩) 2 2) (HQ0.out.1 W ((Keep.up HE1.out).trans ((Keep.up HL.out).trans kk))) (HQ0.out.2 W ((Keep.up HE1.out).trans ((Keep.up HL.out).trans kk))) rfl rfl).append ((RuleC.one W ⟨2, [(-1), (-55), (-1), (-55), (-1)], 3, [0, 2, 4], 0⟩ (.slice (some ⟨w1.heap.size, 0, none⟩) 5 5) (.slice (some ⟨w1.heap.size + 1, 0, none⟩) 3 3) (HQ1.out.1 W ((Keep.up HE2.out).trans ((Keep.up HL.out).trans kk))) (HQ1.out.2 W ((Keep.up HE2.out).trans ((Keep.up HL.out).trans kk))) rfl rfl).append ((RuleC.one W ⟨2, [(-1), (-6)], 4, [0, 1], 1⟩ (.slice (some ⟨w2.heap.size, 0, none⟩) 2 2) (.slice (some ⟨w2.heap.size + 1, 0, none⟩) 2 2) (HQ2.out.1 W ((Keep.up HE3.out).trans ((Keep.up HL.out).trans kk))) (HQ2.out.2 W ((Keep.up HE3.out).trans ((Keep.up HL.out).trans kk))) rfl rfl).append ((RuleC.one W ⟨2, [(-1), (-55), (-1), (-6)], 4, [0, 2, 3], 0⟩ (.slice (some ⟨w3.heap.size, 0, none⟩) 4 4) (.slice (some ⟨w3.heap.size + 1, 0, none⟩) 3 3) (HQ3.out.1 W ((Keep.up HE4.out).trans ((Keep.up HL.out).trans kk))) (HQ3.out.2 W ((Keep.up HE4.out).trans ((Keep.up HL.out).trans kk))) rfl rfl).append ((RuleC.one W ⟨3, [1, 2], 5, [0, 1], 0⟩ (.slice (some ⟨w4.heap.size, 0, none⟩) 2 2) (.slice (some ⟨w4.heap.size + 1, 0, none⟩) 2 2) (HQ4.out.1 W ((Keep.up HE5.out).trans ((Keep.up HL.out).trans kk))) (HQ4.out.2 W ((Keep.up HE5.out).trans ((Keep.up HL.out).trans kk))) rfl rfl).append ((RuleC.one W ⟨4, [(-1)], 8, [0], 0⟩ (.slice (some ⟨w5.heap.size, 0, none⟩) 1 1) (.slice (some ⟨w5.heap.size + 1, 0, none⟩) 1 1) (HQ5.out.1 W ((Keep.up HE6.out).trans ((Keep.up HL.out).trans kk))) (HQ5.out.2 W ((Keep.up HE6.out).trans ((Keep.up HL.out).trans kk))) rfl rfl).append ((RuleC.one W ⟨4, [(-1), (-53), (-1)], 9, [0, 2], 0⟩ (.slice (some ⟨w6.heap.size, 0, none⟩) 3 3) (.slice (some ⟨w6.heap.size + 1, 0, none⟩) 2 2) (HQ6.out.1 W ((Keep.up HE7.out).trans ((Keep.up HL.out).trans kk))) (HQ6.out.2 W ((Keep.up HE7.out).trans ((Keep.up HL.out).trans kk))) rfl rfl).append ((RuleC.one W ⟨4, [(-1), (-54), (-1)], 10, [0, 2], 1⟩ (.slice (some ⟨w7.heap.size, 0, none⟩) 3 3) (.slice (some ⟨w7.heap.size + 1, 0, none⟩) 2 2) (HQ7.out.1 W ((Keep.up HE8.out).trans ((Keep.up HL.out).trans kk))) (HQ7.out.2 W ((Keep.up HE8.out).trans ((Keep.up HL.out).trans kk))) rfl rfl).append ((RuleC.one W ⟨4, [(-52), 4], 11, [1], 1⟩ (.slice (some ⟨w8.heap.size, 0, none⟩) 2 2) (.slice (some ⟨w8.heap.size + 1, 0, none⟩) 1 1) (HQ8.out.1 W ((Keep.up HE9.out).trans ((Keep.up HL.out).trans kk))) (HQ8.out.2 W ((Keep.up HE9.out).trans ((Keep.up HL.out).trans kk))) rfl rfl).append ((RuleC.one W ⟨5, [(-7), 4], 12, [0, 1], 0⟩ (.slice (some ⟨w9.heap.size, 0, none⟩) 2 2) (.slice (some ⟨w9.heap.size + 1, 0, none⟩) 2 2) (HQ9.out.1 W ((Keep.up HE10.out).trans ((Keep.up HL.out).trans kk))) (HQ9.out.2 W ((Keep.up HE10.out).trans ((Keep.up HL.out).trans kk))) rfl rfl).append ((RuleC.one W ⟨5, [4, (-7)], 12, [1, 0], 0⟩ (.slice (some ⟨w10.heap.size, 0, none⟩) 2 2) (.slice (some ⟨w10.heap.size + 1, 0, none⟩) 2 2) (HQ10.out.1 W ((Keep.up HE11.out).trans ((Keep.up HL.out).trans kk))) (HQ10.out.2 W ((Keep.up HE11.out).trans ((Keep.up HL.out).trans kk))) rfl rfl).append ((RuleC.one W ⟨9, [(-1), (-8)], 13, [0, 1], 0⟩ (.slice (some ⟨w11.heap.size, 0, none⟩) 2 2) (.slice (some ⟨w11.heap.size + 1, 0, none⟩) 2 2) (HQ11.out.1 W ((Keep.up HE12.out).trans ((Keep.up HL.out).trans kk))) (HQ11.out.2 W ((Keep.up HE12.out).trans ((Keep.up HL.out).trans kk))) rfl rfl).append ((RuleC.one W ⟨6, [9], 0, [0], 0⟩ (.slice (some ⟨w12.heap.size, 0, none⟩) 1 1) (.slice (some ⟨w12.heap.size + 1, 0, none⟩) 1 1) (HQ12.out.1 W ((Keep.up HE13.out).trans ((Keep.up HL.out).trans kk))) (HQ12.out.2 W ((Keep.up HE13.out).trans ((Keep.up HL.out).trans kk))) rfl rfl).append ((RuleC.one W ⟨6, [6, 9], 14, [0, 1], 1⟩ (.slice (some ⟨w13.heap.size, 0, none⟩) 2 2) (.slice (some ⟨w13.heap.size + 1, 0, none⟩) 2 2) (HQ13.out.1 W ((Keep.up HE14.out).trans ((Keep.up HL.out).trans kk))) (HQ13.out.2 W ((Keep.up HE14.out).trans ((Keep.up HL.out).trans kk))) rfl rfl).append ((RuleC.one W ⟨7, [1, (-9), 1], 15, [0, 2], 0⟩ (.slice (some ⟨w14.heap.size, 0, none⟩) 3 3) (.slice (some ⟨w14.heap.size + 1, 0, none⟩) 2 2) (HQ14.out.1 W ((Keep.up HE15.out).trans ((Keep.up HL.out).trans kk))) (HQ14.out.2 W ((Keep.up HE15.out).trans ((Keep.up HL.out).trans kk))) rfl rfl).append (RuleC.nil _))))))))))))))))
  have HB : Hid (Below w0.heap.size w0 (w15.alloc (.cells #[.int .i64 2, .slice (some ⟨w0.heap.size, 0, none⟩) 3 3, .int .i64 3, .slice (some ⟨w0.heap.size + 1, 0, none⟩) 2 2, .int .i64 0, .int .i64 2, .slice (some ⟨w1.heap.size, 0, none⟩) 5 5, .int .i64 3, .slice (some ⟨w1.heap.size + 1, 0, none⟩) 3 3, .int .i64 0, .int .i64 2, .slice (some ⟨w2.heap.size, 0, none⟩) 2 2, .int .i64 4, .slice (some ⟨w2.heap.size + 1, 0, none⟩) 2 2, .int .i64 1, .int .i64 2, .slice (some ⟨w3.heap.size, 0, none⟩) 4 4, .int .i64 4, .slice (some ⟨w3.heap.size + 1, 0, none⟩) 3 3, .int .i64 0, .int .i64 3, .slice (some ⟨w4.heap.size, 0, none⟩) 2 2, .int .i64 5, .slice (some ⟨w4.heap.size + 1, 0, none⟩) 2 2, .int .i64 0, .int .i64 4, .slice (some ⟨w5.heap.size, 0, none⟩) 1 1, .int .i64 8, .slice (some ⟨w5.heap.size + 1, 0, none⟩) 1 1, .int .i64 0, .int .i64 4, .slice (some ⟨w6.heap.size, 0, none⟩) 3 3, .int .i64 9, .slice (some ⟨w6.heap.size + 1, 0, none⟩) 2 2, .int .i64 0, .int .i64 4, .slice (some ⟨w7.heap.size, 0, none⟩) 3 3, .int .i64 10, .slice (some ⟨w7.heap.size + 1, 0, none⟩) 2 2, .int .i64 1, .int .i64 4, .slice (some ⟨w8.heap.size, 0, none⟩) 2 2, .int .i64 11, .slice (some ⟨w8.heap.size + 1, 0, none⟩) 1 1, .int .i64 1, .int .i64 5, .slice (some ⟨w9.heap.size, 0, none⟩) 2 2, .int .i64 12, .slice (some ⟨w9.heap.size + 1, 0, none⟩) 2 2, .int .i64 0, .int .i64 5, .slice (some ⟨w10.heap.size, 0, none⟩) 2 2, .int .i64 12, .slice (some ⟨w10.heap.size + 1, 0, none⟩) 2 2, .int .i64 0, .int .i64 9, .slice (some ⟨w11.heap.size, 0, none⟩) 2 2, .int .i64 13, .slice (some ⟨w11.heap.size + 1, 0, none⟩) 2 2, .int .i64 0, .int .i64 6, .slice (some ⟨w12.heap.size, 0, none⟩) 1 1, .int .i64 0, .slice (some ⟨w12.heap.size + 1, 0, none⟩) 1 1, .int .i64 0, .int .i64 6, .slice (some ⟨w13.heap.size, 0, none⟩) 2 2, .int .i64 14, .slice (some ⟨w13.heap.size + 1, 0, none⟩) 2 2, .int .i64 1, .int .i64 7, .slice (some ⟨w14.heap.size, 0, none⟩) 3 3, .int .i64 15, .slice (some ⟨w14.heap.size + 1, 0, none⟩) 2 2, .int .i64 0] 56))) := hid (up_trans HE0.out HL.out)
  go_wp2
  obtain ⟨wz, hwz⟩ : ∃ wz, wz = w15.alloc (.cells #[.int .i64 2, .slice (some ⟨w0.heap.size, 0, none⟩) 3 3, .int .i64 3, .slice (some ⟨w0.heap.size + 1, 0, none⟩) 2 2, .int .i64 0, .int .i64 2, .slice (some ⟨w1.heap.size, 0, none⟩) 5 5, .int .i64 3, .slice (some ⟨w1.heap.size + 1, 0, none⟩) 3 3, .int .i64 0, .int .i64 2, .slice (some ⟨w2.heap.size, 0, none⟩) 2 2, .int .i64 4, .slice (some ⟨w2.heap.size + 1, 0, none⟩) 2 2, .int .i64 1, .int .i64 2, .slice (some ⟨w3.heap.size, 0, none⟩) 4 4, .int .i64 4, .slice (some ⟨w3.heap.size + 1, 0, none⟩) 3 3, .int .i64 0, .int .i64 3, .slice (some ⟨w4.heap.size, 0, none⟩) 2 2, .int .i64 5, .slice (some ⟨w4.heap.size + 1, 0, none⟩) 2 2, .int .i64 0, .int .i64 4, .slice (some ⟨w5.heap.size, 0, none⟩) 1 1, .int .i64 8, .slice (some ⟨w5.heap.size + 1, 0, none⟩) 1 1, .int .i64 0, .int .i64 4, .slice (some ⟨w6.heap.size, 0, none⟩) 3 3, .int .i64 9, .slice (some ⟨w6.heap.size + 1, 0, none⟩) 2 2, .int .i64 0, .int .i64 4, .slice (some ⟨w7.heap.size, 0, none⟩) 3 3, .int .i64 10, .slice (some ⟨w7.heap.size + 1, 0, none⟩) 2 2, .int .i64 1, .int .i64 4, .slice (some ⟨w8.heap.size, 0, none⟩) 2 2, .int .i64 11, .slice (some ⟨w8.heap.size + 1, 0, none⟩) 1 1, .int .i64 1, .int .i64 5, .slice (some ⟨w9.heap.size, 0, none⟩) 2 2, .int .i64 12, .slice (some ⟨w9.heap.size + 1, 0, none⟩) 2 2, .int .i64 0, .int .i64 5, .slice (some ⟨w10.heap.size, 0, none⟩) 2 2, .int .i64 12, .slice (some ⟨w10.heap.size + 1, 0, none⟩) 2 2, .int .i64 0, .int .i64 9, .slice (some ⟨w11.heap.size, 0, none⟩) 2 2, .int .i64 13, .slice (some ⟨w11.heap.size + 1, 0, none⟩) 2 2, .int .i64 0, .int .i64 6, .slice (some ⟨w12.heap.size, 0, none⟩) 1 1, .int .i64 0, .slice (some ⟨w12.heap.size + 1, 0, none⟩) 1 1, .int .i64 0, .int .i64 6, .slice (some ⟨w13.heap.size, 0, none⟩) 2 2, .int .i64 14, .slice (some ⟨w13.heap.size + 1, 0, none⟩) 2 2, .int .i64 1, .int .i64 7, .slice (some ⟨w14.heap.size, 0, none⟩) 3 3, .int .i64 15, .slice (some ⟨w14.heap.size + 1, 0, none⟩) 2 2, .int .i64 0] 56) := ⟨_, rfl⟩
  obtain ⟨gz, hgz⟩ : ∃ gz, gz = w15.heap.size := ⟨_, rfl⟩
  rw [← hwz] at HO HS HB
  rw [← hgz] at HO
  have hzz : w0.heap.size ≤ gz := by rw [hgz]; exact HE0.out.size
  have hzs : gz ≤ wz.heap.size := by rw [hgz, hwz]; simp
  rw [← hwz, ← hgz]
  generalize ([.int .i64 2, .slice (some ⟨w0.heap.size, 0, none⟩) 3 3, .int .i64 3, .slice (some ⟨w0.heap.size + 1, 0, none⟩) 2 2, .int .i64 0, .int .i64 2, .slice (some ⟨w1.heap.size, 0, none⟩) 5 5, .int .i64 3, .slice (some ⟨w1.heap.size + 1, 0, none⟩) 3 3, .int .i64 0, .int .i64 2, .slice (some ⟨w2.heap.size, 0, none⟩) 2 2, .int .i64 4, .slice (some ⟨w2.heap.size + 1, 0, none⟩) 2 2, .int .i64 1, .int .i64 2, .slice (some ⟨w3.heap.size, 0, none⟩) 4 4, .int .i64 4, .slice (some ⟨w3.heap.size + 1, 0, none⟩) 3 3, .int .i64 0, .int .i64 3, .slice (some ⟨w4.heap.size, 0, none⟩) 2 2, .int .i64 5, .slice (some ⟨w4.heap.size + 1, 0, none⟩) 2 2, .int .i64 0, .int .i64 4, .slice (some ⟨w5.heap.size, 0, none⟩) 1 1, .int .i64 8, .slice (some ⟨w5.heap.size + 1, 0, none⟩) 1 1, .int .i64 0, .int .i64 4, .slice (some ⟨w6.heap.size, 0, none⟩) 3 3, .int .i64 9, .slice (some ⟨w6.heap.size + 1, 0, none⟩) 2 2, .int .i64 0, .int .i64 4, .slice (some ⟨w7.heap.size, 0, none⟩) 3 3, .int .i64 10, .slice (some ⟨w7.heap.size + 1, 0, none⟩) 2 2, .int .i64 1, .int .i64 4, .slice (some ⟨w8.heap.size, 0, none⟩) 2 2, .int .i64 11, .slice (some ⟨w8.heap.size + 1, 0, none⟩) 1 1, .int .i64 1, .int .i64 5, .slice (some ⟨w9.heap.size, 0, none⟩) 2 2, .int .i64 12, .slice (some ⟨w9.heap.size + 1, 0, none⟩) 2 2, .int .i64 0, .int .i64 5, .slice (some ⟨w10.heap.size, 0, none⟩) 2 2, .int .i64 12, .slice (some ⟨w10.heap.size + 1, 0, none⟩) 2 2, .int .i64 0, .int .i64 9, .slice (some ⟨w11.heap.size, 0, none⟩) 2 2, .int .i64 13, .slice (some ⟨w11.heap.size + 1, 0, none⟩) 2 2, .int .i64 0, .int .i64 6, .slice (some ⟨w12.heap.size, 0, none⟩) 1 1, .int .i64 0, .slice (some ⟨w12.heap.size + 1, 0, none⟩) 1 1, .int .i64 0, .int .i64 6, .slice (some ⟨w13.heap.size, 0, none⟩) 2 2, .int .i64 14, .slice (some ⟨w13.heap.size + 1, 0, none⟩) 2 2, .int .i64 1, .int .i64 7, .slice (some ⟨w14.heap.size, 0, none⟩) 3 3, .int .i64 15, .slice (some ⟨w14.heap.size + 1, 0, none⟩) 2 2, .int .i64 0] : List Value) = cz at HO HS
  clear hwz hgz HL HQ0 HD0 HE0 HQ1 HD1 HE1 HQ2 HD2 HE2 HQ3 HD3 HE3 HQ4 HD4 HE4 HQ5 HD5 HE5 HQ6 HD6 HE6 HQ7 HD7 HE7 HQ8 HD8 HE8 HQ9 HD9 HE9 HQ10 HD10 HE10 HQ11 HD11 HE11 HQ12 HD12 HE12 HQ13 HD13 HE13 HQ14 HD14 HE14 HE15
  go_loopw [1, 2] (fun v1 v2 wr => ∃ m : Nat, m ≤ 7 ∧ v2 = .int .i64 ((m : Int) + 1) ∧ (∃ cs, wr.ownsRow gz 56 5 v1 (15 + m) cs ∧ Stay wr (fun W => RuleC W cs (othersM m))) ∧ Below w0.heap.size w0 wr ∧ gz ≤ wr.heap.size) (fun _ v2 _ => 8 - (intOf v2).toNat)
  case atStart => exact ⟨0, by omega, rfl, ⟨_, HO.out, fun W kk => by have := HS.out W kk; simpa [othersM] using this⟩, HB.out, hzs⟩
  case round =>
    obtain ⟨m, hm, rfl, ⟨cs, ho, hc⟩, hb, hz⟩ := hrel
    by_cases hlt : m < 7
    · have hlt2 : (m : Int) < 7 := by omega
      have hlt3 : (m : Int) + 1 < 8 := by omega
      have HO1 := hid ho
      have HC1 := hid hc
      have HB1 := hid hb
      obtain ⟨ad1, cap1, e1, _⟩ := own_shape ho
      subst e1
      clear ho hc hb
      have HCL := hid (lrule_lit 0 0 (((m : Int) + 1).tmod 3) [(m : Int) + 1] [0] #[.int .i64 ((m : Int) + 1)] #[.int .i64 0] rfl rfl 1 1 rfl rfl (by decide) wr _ _ rfl rfl)
      go_wp2_with fail
      refine HCL.out.mono ?_
      rintro e wA ⟨rfl, q, b⟩
      have HQ := hid q
      have HU := hid (up_trans b (up_alloc wA (.cells #[.int .i64 0, .slice (some ⟨wr.heap.size, 0, none⟩) 1 1, .int .i64 0, .slice (some ⟨wr.heap.size + 1, 0, none⟩) 1 1, .int .i64 (((m : Int) + 1).tmod 3)] 56)))
      have HOA := hid (owns_below HO1.out HU.out)
      have HLIT := hid (cells_lit wA 56 [.int .i64 0, .slice (some ⟨wr.heap.size, 0, none⟩) 1 1, .int .i64 0, .slice (some ⟨wr.heap.size + 1, 0, none⟩) 1 1, .int .i64 (((m : Int) + 1).tmod 3)] #[.int .i64 0, .slice (some ⟨wr.heap.size, 0, none⟩) 1 1, .int .i64 0, .slice (some ⟨wr.heap.size + 1, 0, none⟩) 1 1, .int .i64 (((m : Int) + 1).tmod 3)] rfl _ 1 5 rfl rfl (by intro u hu; simp at hu; rcases hu with rfl | rfl | rfl | rfl | rfl <;> rfl))
      have hsA : gz ≤ (wA.alloc (.cells #[.int .i64 0, .slice (some ⟨wr.heap.size, 0, none⟩) 1 1, .int .i64 0, .slice (some ⟨wr.heap.size + 1, 0, none⟩) 1 1, .int .i64 (((m : Int) + 1).tmod 3)] 56)).heap.size := Nat.le_trans hz HU.out.size
      clear q b HCL
      go_wp2_with (at_builtin; refine wpList_append_cells _ rfl (.tmp 53) (.tmp 60) 41 56 rfl (.agg #[.int .i64 0, .slice none 0 0, .int .i64 0, .slice none 0 0, .int .i64 0]) 5 72 Tryz.underlying41 info_Rule rfl (by decide) (by decide) gz _ (15 + m) _ rfl HOA.out _ 1 _ rfl HLIT.out (by omega) hsA ?_; intro v' wB h1 h2 h3; have HN1 := hid h1; have HN2 : Hid (Stay wB (fun W => RuleC W (cs ++ [.int .i64 0, .slice (some ⟨wr.heap.size, 0, none⟩) 1 1, .int .i64 0, .slice (some ⟨wr.heap.size + 1, 0, none⟩) 1 1, .int .i64 (((m : Int) + 1).tmod 3)]) (othersM (m + 1)))) := hid (fun W kk => by rw [othersM_succ]; exact (HC1.out W ((Keep.up HU.out).trans ((Keep.grown HOA.out h2 (by decide) (by decide)).trans kk))).append (RuleC.one W (pickR (m + 1)) _ _ (HQ.out.1 W ((Keep.up (up_alloc wA _)).trans ((Keep.grown HOA.out h2 (by decide) (by decide)).trans kk))) (HQ.out.2 W ((Keep.up (up_alloc wA _)).trans ((Keep.grown HOA.out h2 (by decide) (by decide)).trans kk))) rfl rfl)); have HN3 := hid ((up_trans HB1.out HU.out).grown h2 (Nat.le_trans hzz hsA) (fun q e => Nat.le_trans hzz (World.ownsRow.lt HOA.out q e).1)); have hN4 : gz ≤ wB.heap.size := Nat.le_trans hsA h2.size; obtain ⟨adv, capv, ev, _⟩ := own_shape h1; subst ev; clear h1 h2 h3)
      go_roundw
      case rel => exact ⟨m + 1, by omega, by simp, ⟨_, HN1.out, HN2.out⟩, HN3.out, hN4⟩
      case measure => simp [intOf]; omega
    · obtain rfl : m = 7 := by omega
      have HO1 := hid ho
      have HC1 := hid hc
      have HB1 := hid hb
      obtain ⟨ad1, cap1, e1, _⟩ := own_shape ho
      subst e1
      clear ho hc hb
      go_wp2
      go_ret
      exact ⟨_, rfl, fun W k => rules_own (by rw [othersM_length]; exact own_keepL HO1.out (by decide) k) (HC1.out W k.keep) (by rw [othersM_length]; decide), HB1.out⟩

end Go.Proofs.YtohgaknojkdohaaGreatDoor

/- The sample's styles, and the sample. -/
namespace Go.Proofs.YtohgaknojkdohaaGreatDoor
open Go.RowKit Gr

def partCells (x : Part) : List Value := [.int .i64 x.kind, .string x.text, .int .i64 x.field, .int .i64 x.width, .int .i64 x.cls]
theorem PartC.flat (W : World) : ∀ xs : List Part, PartC W (xs.flatMap partCells) xs
  | [] => PartC.nil W
  | x :: xs => by
    rw [List.flatMap_cons]
    exact (PartC.one W x).append (PartC.flat W xs)
theorem parts_of {w : World} {B : Nat} {v : Value} {n : Nat} (xs : List Part) (h : w.ownsRow B 48 5 v n (xs.flatMap partCells)) (hn : xs.length = n) (hl : n ≤ 1000) : PartsAt w v xs := by
  subst hn
  exact Parts_own h (PartC.flat _ _) (by omega)
def dayL : List Part := [⟨1, ⟨#[]⟩, 0, 4, 0⟩, ⟨0, ⟨#[45]⟩, 0, 0, 0⟩, ⟨1, ⟨#[]⟩, 1, 2, 0⟩, ⟨0, ⟨#[45]⟩, 0, 0, 0⟩, ⟨1, ⟨#[]⟩, 2, 2, 0⟩]
theorem dayL_cells : #[.int .i64 1, .string ⟨#[]⟩, .int .i64 0, .int .i64 4, .int .i64 0, .int .i64 0, .string ⟨#[45]⟩, .int .i64 0, .int .i64 0, .int .i64 0, .int .i64 1, .string ⟨#[]⟩, .int .i64 1, .int .i64 2, .int .i64 0, .int .i64 0, .string ⟨#[45]⟩, .int .i64 0, .int .i64 0, .int .i64 0, .int .i64 1, .string ⟨#[]⟩, .int .i64 2, .int .i64 2, .int .i64 0] = (dayL.flatMap partCells).toArray := by kernel_rfl
def clockL : List Part := [⟨1, ⟨#[]⟩, 0, 2, 0⟩, ⟨0, ⟨#[58]⟩, 0, 0, 0⟩, ⟨1, ⟨#[]⟩, 1, 2, 0⟩, ⟨0, ⟨#[58]⟩, 0, 0, 0⟩, ⟨1, ⟨#[]⟩, 2, 2, 0⟩]
theorem clockL_cells : #[.int .i64 1, .string ⟨#[]⟩, .int .i64 0, .int .i64 2, .int .i64 0, .int .i64 0, .string ⟨#[58]⟩, .int .i64 0, .int .i64 0, .int .i64 0, .int .i64 1, .string ⟨#[]⟩, .int .i64 1, .int .i64 2, .int .i64 0, .int .i64 0, .string ⟨#[58]⟩, .int .i64 0, .int .i64 0, .int .i64 0, .int .i64 1, .string ⟨#[]⟩, .int .i64 2, .int .i64 2, .int .i64 0] = (clockL.flatMap partCells).toArray := by kernel_rfl
def sixA : List Part := [⟨0, ⟨#[32]⟩, 0, 0, 0⟩, ⟨1, ⟨#[]⟩, 3, 2, 0⟩, ⟨0, ⟨#[58]⟩, 0, 0, 0⟩, ⟨1, ⟨#[]⟩, 4, 2, 0⟩, ⟨0, ⟨#[58]⟩, 0, 0, 0⟩, ⟨1, ⟨#[]⟩, 5, 2, 0⟩]
theorem sixA_cells : #[.int .i64 0, .string ⟨#[32]⟩, .int .i64 0, .int .i64 0, .int .i64 0, .int .i64 1, .string ⟨#[]⟩, .int .i64 3, .int .i64 2, .int .i64 0, .int .i64 0, .string ⟨#[58]⟩, .int .i64 0, .int .i64 0, .int .i64 0, .int .i64 1, .string ⟨#[]⟩, .int .i64 4, .int .i64 2, .int .i64 0, .int .i64 0, .string ⟨#[58]⟩, .int .i64 0, .int .i64 0, .int .i64 0, .int .i64 1, .string ⟨#[]⟩, .int .i64 5, .int .i64 2, .int .i64 0] = (sixA.flatMap partCells).toArray := by kernel_rfl
def sixB : List Part := [⟨0, ⟨#[32, 116, 111, 32]⟩, 0, 0, 0⟩, ⟨1, ⟨#[]⟩, 3, 4, 0⟩, ⟨0, ⟨#[45]⟩, 0, 0, 0⟩, ⟨1, ⟨#[]⟩, 4, 2, 0⟩, ⟨0, ⟨#[45]⟩, 0, 0, 0⟩, ⟨1, ⟨#[]⟩, 5, 2, 0⟩]
theorem sixB_cells : #[.int .i64 0, .string ⟨#[32, 116, 111, 32]⟩, .int .i64 0, .int .i64 0, .int .i64 0, .int .i64 1, .string ⟨#[]⟩, .int .i64 3, .int .i64 4, .int .i64 0, .int .i64 0, .string ⟨#[45]⟩, .int .i64 0, .int .i64 0, .int .i64 0, .int .i64 1, .string ⟨#[]⟩, .int .i64 4, .int .i64 2, .int .i64 0, .int .i64 0, .string ⟨#[45]⟩, .int .i64 0, .int .i64 0, .int .i64 0, .int .i64 1, .string ⟨#[]⟩, .int .i64 5, .int .i64 2, .int .i64 0] = (sixB.flatMap partCells).toArray := by kernel_rfl
def moneyL : List Part := [⟨1, ⟨#[]⟩, 1, 0, 0⟩, ⟨0, ⟨#[46]⟩, 0, 0, 0⟩, ⟨1, ⟨#[]⟩, 2, 0, 0⟩, ⟨0, ⟨#[32]⟩, 0, 0, 0⟩, ⟨2, ⟨#[]⟩, 0, 0, 6⟩]
theorem moneyL_cells : #[.int .i64 1, .string ⟨#[]⟩, .int .i64 1, .int .i64 0, .int .i64 0, .int .i64 0, .string ⟨#[46]⟩, .int .i64 0, .int .i64 0, .int .i64 0, .int .i64 1, .string ⟨#[]⟩, .int .i64 2, .int .i64 0, .int .i64 0, .int .i64 0, .string ⟨#[32]⟩, .int .i64 0, .int .i64 0, .int .i64 0, .int .i64 2, .string ⟨#[]⟩, .int .i64 0, .int .i64 0, .int .i64 6] = (moneyL.flatMap partCells).toArray := by kernel_rfl
def decP : List Part := [⟨1, ⟨#[]⟩, 0, 0, 0⟩, ⟨0, ⟨#[46]⟩, 0, 0, 0⟩, ⟨1, ⟨#[]⟩, 1, 1, 0⟩]
theorem decP_cells : #[.int .i64 1, .string ⟨#[]⟩, .int .i64 0, .int .i64 0, .int .i64 0, .int .i64 0, .string ⟨#[46]⟩, .int .i64 0, .int .i64 0, .int .i64 0, .int .i64 1, .string ⟨#[]⟩, .int .i64 1, .int .i64 1, .int .i64 0] = (decP.flatMap partCells).toArray := by kernel_rfl
def durL : List Part := [⟨1, ⟨#[]⟩, 0, 0, 0⟩, ⟨0, ⟨#[32, 115]⟩, 0, 0, 0⟩]
theorem durL_cells : #[.int .i64 1, .string ⟨#[]⟩, .int .i64 0, .int .i64 0, .int .i64 0, .int .i64 0, .string ⟨#[32, 115]⟩, .int .i64 0, .int .i64 0, .int .i64 0] = (durL.flatMap partCells).toArray := by kernel_rfl
def lastL : List Part := [⟨1, ⟨#[]⟩, 2, 0, 0⟩, ⟨0, ⟨#[32]⟩, 0, 0, 0⟩, ⟨2, ⟨#[]⟩, 1, 0, 1⟩, ⟨0, ⟨#[32]⟩, 0, 0, 0⟩, ⟨1, ⟨#[]⟩, 0, 4, 0⟩]
theorem lastL_cells : #[.int .i64 1, .string ⟨#[]⟩, .int .i64 2, .int .i64 0, .int .i64 0, .int .i64 0, .string ⟨#[32]⟩, .int .i64 0, .int .i64 0, .int .i64 0, .int .i64 2, .string ⟨#[]⟩, .int .i64 1, .int .i64 0, .int .i64 1, .int .i64 0, .string ⟨#[32]⟩, .int .i64 0, .int .i64 0, .int .i64 0, .int .i64 1, .string ⟨#[]⟩, .int .i64 0, .int .i64 4, .int .i64 0] = (lastL.flatMap partCells).toArray := by kernel_rfl
def stylesL : List Style := [⟨4, dayL⟩, ⟨5, clockL⟩, ⟨6, dayL ++ sixA⟩, ⟨7, decP⟩, ⟨8, moneyL⟩, ⟨9, durL⟩, ⟨10, dayL ++ sixB⟩, ⟨4, lastL⟩]
theorem own_lt {w w' : World} {B B' n cap size g : Nat} {e : TypeId} {cs : List Value} (h : w.ownsRow B e size (.slice (some ⟨g, 0, none⟩) n cap) n cs) (hb : Below B' w w') (hg : g < B') : w'.ownsRow B e size (.slice (some ⟨g, 0, none⟩) n cap) n cs := by
  obtain ⟨h1, ⟨h2, _⟩ | ⟨g', cap', cur, h2, h3, h4, h5⟩⟩ := h
  · cases h2
  · have : g = g' := by injection h2 with e1; injection e1 with e1; injection e1
    subst this
    exact ⟨h1, .inr ⟨g, cap', cur, h2, h3, (hb.block _ hg).trans h4, h5⟩⟩
theorem own_lit_at {w : World} {B n size : Nat} {e : TypeId} {v : Value} {cs : List Value} (h : w.ownsRow B e size v n cs) (hn : 0 < n) : ∃ g cap, v = .slice (some ⟨g, 0, none⟩) n cap ∧ B ≤ g ∧ g < w.heap.size := by
  obtain ⟨g, cap, rfl, hg, _⟩ := own_at h hn
  exact ⟨g, cap, rfl, hg, (World.ownsRow.lt h g rfl).2⟩
set_option maxRecDepth 8000 in
set_option maxHeartbeats 20000000 in
theorem styles_any (u0 : World) : Calls Tryz.prog 52 #[] u0 fun e w' => ∃ v, e = .returned v ∧ Stl w' (fun W => StylesAt W v stylesL) ∧ Below u0.heap.size u0 w' := by
  go_enter Tryz.func52, Tryz.ntmps52
  have HB0 := hid (Below.refl u0.heap.size u0)
  go_wp2_with fail
  refine (lnumber_any 0 4 _).mono ?_
  rintro e u1 ⟨rfl, b⟩
  have HD := hid b
  replace HB0 := hid (up_trans HB0.out HD.out)
  have hs0 := HD.out.size
  clear b HD
  go_wp2_with fail
  refine (ltext_any ⟨#[45]⟩ _).mono ?_
  rintro e u2 ⟨rfl, b⟩
  have HD := hid b
  replace HB0 := hid (up_trans HB0.out HD.out)
  have hs1 := HD.out.size
  clear b HD
  go_wp2_with fail
  refine (lnumber_any 1 2 _).mono ?_
  rintro e u3 ⟨rfl, b⟩
  have HD := hid b
  replace HB0 := hid (up_trans HB0.out HD.out)
  have hs2 := HD.out.size
  clear b HD
  go_wp2_with fail
  refine (ltext_any ⟨#[45]⟩ _).mono ?_
  rintro e u4 ⟨rfl, b⟩
  have HD := hid b
  replace HB0 := hid (up_trans HB0.out HD.out)
  have hs3 := HD.out.size
  clear b HD
  go_wp2_with fail
  refine (lnumber_any 2 2 _).mono ?_
  rintro e u5 ⟨rfl, b⟩
  have HD := hid b
  replace HB0 := hid (up_trans HB0.out HD.out)
  have hs4 := HD.out.size
  clear b HD
  have HO_dayL := hid (own_lit u5 48 5 5 u5.heap.size #[.int .i64 1, .string ⟨#[]⟩, .int .i64 0, .int .i64 4, .int .i64 0, .int .i64 0, .string ⟨#[45]⟩, .int .i64 0, .int .i64 0, .int .i64 0, .int .i64 1, .string ⟨#[]⟩, .int .i64 1, .int .i64 2, .int .i64 0, .int .i64 0, .string ⟨#[45]⟩, .int .i64 0, .int .i64 0, .int .i64 0, .int .i64 1, .string ⟨#[]⟩, .int .i64 2, .int .i64 2, .int .i64 0] (dayL.flatMap partCells) dayL_cells rfl (by kernel_rfl) (by decide))
  go_wp2_with fail
  refine (lnumber_any 0 2 _).mono ?_
  rintro e u6 ⟨rfl, b⟩
  have HD := hid (up_trans (up_alloc u5 (.cells #[.int .i64 1, .string ⟨#[]⟩, .int .i64 0, .int .i64 4, .int .i64 0, .int .i64 0, .string ⟨#[45]⟩, .int .i64 0, .int .i64 0, .int .i64 0, .int .i64 1, .string ⟨#[]⟩, .int .i64 1, .int .i64 2, .int .i64 0, .int .i64 0, .string ⟨#[45]⟩, .int .i64 0, .int .i64 0, .int .i64 0, .int .i64 1, .string ⟨#[]⟩, .int .i64 2, .int .i64 2, .int .i64 0] 48)) b)
  have HF_dayL := hid (owns_below HO_dayL.out b)
  clear HO_dayL
  replace HB0 := hid (up_trans HB0.out HD.out)
  have hs5 := HD.out.size
  clear b HD
  go_wp2_with fail
  refine (ltext_any ⟨#[58]⟩ _).mono ?_
  rintro e u7 ⟨rfl, b⟩
  have HD := hid b
  replace HF_dayL := hid (owns_below HF_dayL.out HD.out)
  replace HB0 := hid (up_trans HB0.out HD.out)
  have hs6 := HD.out.size
  clear b HD
  go_wp2_with fail
  refine (lnumber_any 1 2 _).mono ?_
  rintro e u8 ⟨rfl, b⟩
  have HD := hid b
  replace HF_dayL := hid (owns_below HF_dayL.out HD.out)
  replace HB0 := hid (up_trans HB0.out HD.out)
  have hs7 := HD.out.size
  clear b HD
  go_wp2_with fail
  refine (ltext_any ⟨#[58]⟩ _).mono ?_
  rintro e u9 ⟨rfl, b⟩
  have HD := hid b
  replace HF_dayL := hid (owns_below HF_dayL.out HD.out)
  replace HB0 := hid (up_trans HB0.out HD.out)
  have hs8 := HD.out.size
  clear b HD
  go_wp2_with fail
  refine (lnumber_any 2 2 _).mono ?_
  rintro e u10 ⟨rfl, b⟩
  have HD := hid b
  replace HF_dayL := hid (owns_below HF_dayL.out HD.out)
  replace HB0 := hid (up_trans HB0.out HD.out)
  have hs9 := HD.out.size
  clear b HD
  have HO_clockL := hid (own_lit u10 48 5 5 u10.heap.size #[.int .i64 1, .string ⟨#[]⟩, .int .i64 0, .int .i64 2, .int .i64 0, .int .i64 0, .string ⟨#[58]⟩, .int .i64 0, .int .i64 0, .int .i64 0, .int .i64 1, .string ⟨#[]⟩, .int .i64 1, .int .i64 2, .int .i64 0, .int .i64 0, .string ⟨#[58]⟩, .int .i64 0, .int .i64 0, .int .i64 0, .int .i64 1, .string ⟨#[]⟩, .int .i64 2, .int .i64 2, .int .i64 0] (clockL.flatMap partCells) clockL_cells rfl (by kernel_rfl) (by decide))
  have HUA : Hid (Below u10.heap.size u10 (u10.alloc (.cells #[.int .i64 1, .string ⟨#[]⟩, .int .i64 0, .int .i64 2, .int .i64 0, .int .i64 0, .string ⟨#[58]⟩, .int .i64 0, .int .i64 0, .int .i64 0, .int .i64 1, .string ⟨#[]⟩, .int .i64 1, .int .i64 2, .int .i64 0, .int .i64 0, .string ⟨#[58]⟩, .int .i64 0, .int .i64 0, .int .i64 0, .int .i64 1, .string ⟨#[]⟩, .int .i64 2, .int .i64 2, .int .i64 0] 48))) := hid (up_alloc _ _)
  have HOM := hid (own_made (u10.alloc (.cells #[.int .i64 1, .string ⟨#[]⟩, .int .i64 0, .int .i64 2, .int .i64 0, .int .i64 0, .string ⟨#[58]⟩, .int .i64 0, .int .i64 0, .int .i64 0, .int .i64 1, .string ⟨#[]⟩, .int .i64 1, .int .i64 2, .int .i64 0, .int .i64 0, .string ⟨#[58]⟩, .int .i64 0, .int .i64 0, .int .i64 0, .int .i64 1, .string ⟨#[]⟩, .int .i64 2, .int .i64 2, .int .i64 0] 48)) 48 5 (u10.heap.size + 1) (u10.heap.size + 1) (by simp) (by simp))
  have HCE := hid ((own_cells (owns_below HF_dayL.out HUA.out) (PartC.flat u10 dayL).ones).on (up_alloc (u10.alloc (.cells #[.int .i64 1, .string ⟨#[]⟩, .int .i64 0, .int .i64 2, .int .i64 0, .int .i64 0, .string ⟨#[58]⟩, .int .i64 0, .int .i64 0, .int .i64 0, .int .i64 1, .string ⟨#[]⟩, .int .i64 1, .int .i64 2, .int .i64 0, .int .i64 0, .string ⟨#[58]⟩, .int .i64 0, .int .i64 0, .int .i64 0, .int .i64 1, .string ⟨#[]⟩, .int .i64 2, .int .i64 2, .int .i64 0] 48)) (.cells #[] 48)))
  go_wp2_with (at_builtin; refine wpList_append_cells _ rfl (.tmp 18) (.tmp 19) 50 48 rfl (.agg #[.int .i64 0, .string ⟨#[]⟩, .int .i64 0, .int .i64 0, .int .i64 0]) 5 48 Tryz.underlying50 info_Part rfl (by decide) (by decide) (u10.heap.size + 1) _ 0 _ rfl HOM.out _ 5 _ rfl HCE.out (by decide) (by simp) ?_; intro v' u11 h1 h2 h3; have HN_a : Hid (u11.ownsRow (u10.heap.size + 1) 48 5 v' 5 (dayL.flatMap partCells)) := hid h1; have HG : Hid (Below (u10.alloc (.cells #[.int .i64 1, .string ⟨#[]⟩, .int .i64 0, .int .i64 2, .int .i64 0, .int .i64 0, .string ⟨#[58]⟩, .int .i64 0, .int .i64 0, .int .i64 0, .int .i64 1, .string ⟨#[]⟩, .int .i64 1, .int .i64 2, .int .i64 0, .int .i64 0, .string ⟨#[58]⟩, .int .i64 0, .int .i64 0, .int .i64 0, .int .i64 1, .string ⟨#[]⟩, .int .i64 2, .int .i64 2, .int .i64 0] 48)).heap.size (u10.alloc (.cells #[.int .i64 1, .string ⟨#[]⟩, .int .i64 0, .int .i64 2, .int .i64 0, .int .i64 0, .string ⟨#[58]⟩, .int .i64 0, .int .i64 0, .int .i64 0, .int .i64 1, .string ⟨#[]⟩, .int .i64 1, .int .i64 2, .int .i64 0, .int .i64 0, .string ⟨#[58]⟩, .int .i64 0, .int .i64 0, .int .i64 0, .int .i64 1, .string ⟨#[]⟩, .int .i64 2, .int .i64 2, .int .i64 0] 48)) u11) := hid ((up_alloc (u10.alloc (.cells #[.int .i64 1, .string ⟨#[]⟩, .int .i64 0, .int .i64 2, .int .i64 0, .int .i64 0, .string ⟨#[58]⟩, .int .i64 0, .int .i64 0, .int .i64 0, .int .i64 1, .string ⟨#[]⟩, .int .i64 1, .int .i64 2, .int .i64 0, .int .i64 0, .string ⟨#[58]⟩, .int .i64 0, .int .i64 0, .int .i64 0, .int .i64 1, .string ⟨#[]⟩, .int .i64 2, .int .i64 2, .int .i64 0] 48)) (.cells #[] 48)).grown h2 (by simp) (fun q e => (by have := Option.some.inj e; simp at this ⊢; omega))); obtain ⟨g_a, cap_a, ev_a, _⟩ := own_lit_at HN_a.out (by decide); subst ev_a; clear h1 h2 h3)
  have HD := hid (up_trans HUA.out HG.out)
  replace HF_dayL := hid (owns_below HF_dayL.out HD.out)
  have HF_clockL := hid (owns_below HO_clockL.out HG.out)
  replace HB0 := hid (up_trans HB0.out HD.out)
  have hs10 : u10.heap.size + 1 ≤ u11.heap.size := by have := HG.out.size; simpa using this
  clear HO_clockL HUA HOM HCE HG HD
  refine (ltext_any ⟨#[32]⟩ _).mono ?_
  rintro e u12 ⟨rfl, b⟩
  have HD := hid b
  replace HF_dayL := hid (owns_below HF_dayL.out HD.out)
  replace HF_clockL := hid (owns_below HF_clockL.out HD.out)
  replace HN_a := hid (owns_below HN_a.out HD.out)
  replace HB0 := hid (up_trans HB0.out HD.out)
  have hs11 := HD.out.size
  clear b HD
  go_wp2_with fail
  refine (lnumber_any 3 2 _).mono ?_
  rintro e u13 ⟨rfl, b⟩
  have HD := hid b
  replace HF_dayL := hid (owns_below HF_dayL.out HD.out)
  replace HF_clockL := hid (owns_below HF_clockL.out HD.out)
  replace HN_a := hid (owns_below HN_a.out HD.out)
  replace HB0 := hid (up_trans HB0.out HD.out)
  have hs12 := HD.out.size
  clear b HD
  go_wp2_with fail
  refine (ltext_any ⟨#[58]⟩ _).mono ?_
  rintro e u14 ⟨rfl, b⟩
  have HD := hid b
  replace HF_dayL := hid (owns_below HF_dayL.out HD.out)
  replace HF_clockL := hid (owns_below HF_clockL.out HD.out)
  replace HN_a := hid (owns_below HN_a.out HD.out)
  replace HB0 := hid (up_trans HB0.out HD.out)
  have hs13 := HD.out.size
  clear b HD
  go_wp2_with fail
  refine (lnumber_any 4 2 _).mono ?_
  rintro e u15 ⟨rfl, b⟩
  have HD := hid b
  replace HF_dayL := hid (owns_below HF_dayL.out HD.out)
  replace HF_clockL := hid (owns_below HF_clockL.out HD.out)
  replace HN_a := hid (owns_below HN_a.out HD.out)
  replace HB0 := hid (up_trans HB0.out HD.out)
  have hs14 := HD.out.size
  clear b HD
  go_wp2_with fail
  refine (ltext_any ⟨#[58]⟩ _).mono ?_
  rintro e u16 ⟨rfl, b⟩
  have HD := hid b
  replace HF_dayL := hid (owns_below HF_dayL.out HD.out)
  replace HF_clockL := hid (owns_below HF_clockL.out HD.out)
  replace HN_a := hid (owns_below HN_a.out HD.out)
  replace HB0 := hid (up_trans HB0.out HD.out)
  have hs15 := HD.out.size
  clear b HD
  go_wp2_with fail
  refine (lnumber_any 5 2 _).mono ?_
  rintro e u17 ⟨rfl, b⟩
  have HD := hid b
  replace HF_dayL := hid (owns_below HF_dayL.out HD.out)
  replace HF_clockL := hid (owns_below HF_clockL.out HD.out)
  replace HN_a := hid (owns_below HN_a.out HD.out)
  replace HB0 := hid (up_trans HB0.out HD.out)
  have hs16 := HD.out.size
  clear b HD
  have HUA : Hid (Below u17.heap.size u17 (u17.alloc (.cells #[.int .i64 0, .string ⟨#[32]⟩, .int .i64 0, .int .i64 0, .int .i64 0, .int .i64 1, .string ⟨#[]⟩, .int .i64 3, .int .i64 2, .int .i64 0, .int .i64 0, .string ⟨#[58]⟩, .int .i64 0, .int .i64 0, .int .i64 0, .int .i64 1, .string ⟨#[]⟩, .int .i64 4, .int .i64 2, .int .i64 0, .int .i64 0, .string ⟨#[58]⟩, .int .i64 0, .int .i64 0, .int .i64 0, .int .i64 1, .string ⟨#[]⟩, .int .i64 5, .int .i64 2, .int .i64 0] 48))) := hid (up_alloc _ _)
  have HLA := hid (cells_lit u17 48 (sixA.flatMap partCells) #[.int .i64 0, .string ⟨#[32]⟩, .int .i64 0, .int .i64 0, .int .i64 0, .int .i64 1, .string ⟨#[]⟩, .int .i64 3, .int .i64 2, .int .i64 0, .int .i64 0, .string ⟨#[58]⟩, .int .i64 0, .int .i64 0, .int .i64 0, .int .i64 1, .string ⟨#[]⟩, .int .i64 4, .int .i64 2, .int .i64 0, .int .i64 0, .string ⟨#[58]⟩, .int .i64 0, .int .i64 0, .int .i64 0, .int .i64 1, .string ⟨#[]⟩, .int .i64 5, .int .i64 2, .int .i64 0] sixA_cells _ 6 5 rfl (by kernel_rfl) (PartC.flat u17 sixA).ones)
  have HOA := hid (owns_below HN_a.out HUA.out)
  have hba : u10.heap.size + 1 ≤ (u17.alloc (.cells #[.int .i64 0, .string ⟨#[32]⟩, .int .i64 0, .int .i64 0, .int .i64 0, .int .i64 1, .string ⟨#[]⟩, .int .i64 3, .int .i64 2, .int .i64 0, .int .i64 0, .string ⟨#[58]⟩, .int .i64 0, .int .i64 0, .int .i64 0, .int .i64 1, .string ⟨#[]⟩, .int .i64 4, .int .i64 2, .int .i64 0, .int .i64 0, .string ⟨#[58]⟩, .int .i64 0, .int .i64 0, .int .i64 0, .int .i64 1, .string ⟨#[]⟩, .int .i64 5, .int .i64 2, .int .i64 0] 48)).heap.size := by have := HUA.out.size; omega
  go_wp2_with (at_builtin; first | (refine wpList_append_cells _ rfl (.tmp 20) (.tmp 27) 50 48 rfl (.agg #[.int .i64 0, .string ⟨#[]⟩, .int .i64 0, .int .i64 0, .int .i64 0]) 5 48 Tryz.underlying50 info_Part rfl (by decide) (by decide) (u10.heap.size + 1) _ 5 _ rfl HOA.out _ 6 _ rfl HLA.out (by decide) (hba) ?_; intro v' u18 h1 h2 h3; have HF_bothL : Hid (u18.ownsRow (u10.heap.size + 1) 48 5 v' 11 ((dayL ++ sixA).flatMap partCells)) := hid (by rw [List.flatMap_append]; exact h1); have HP : Hid (Below (u10.heap.size + 1) u17 u18) := hid ((HUA.out.mono (by omega)).grown h2 hba (fun q e => (World.ownsRow.lt HOA.out q e).1)); obtain ⟨g_sixA, cap_sixA, ev, _, hg_sixA⟩ := own_lit_at HF_bothL.out (by decide); subst ev; clear h1 h2 h3; replace HF_dayL := hid (own_lt HF_dayL.out HP.out (by omega)); replace HF_clockL := hid (own_lt HF_clockL.out HP.out (by omega)); have HOM := hid (own_made u18 48 5 u18.heap.size u18.heap.size (Nat.le_refl _) rfl); have HCE := hid ((own_cells HF_dayL.out (PartC.flat u18 dayL).ones).on (up_alloc u18 (.cells #[] 48)))) | (refine wpList_append_cells _ rfl (.tmp 29) (.tmp 30) 50 48 rfl (.agg #[.int .i64 0, .string ⟨#[]⟩, .int .i64 0, .int .i64 0, .int .i64 0]) 5 48 Tryz.underlying50 info_Part rfl (by decide) (by decide) (u18.heap.size) _ 0 _ rfl HOM.out _ 5 _ rfl HCE.out (by decide) (by simp) ?_; intro v' u19 h1 h2 h3; have HN_c : Hid (u19.ownsRow u18.heap.size 48 5 v' 5 (dayL.flatMap partCells)) := hid h1; have HG : Hid (Below u18.heap.size u18 u19) := hid ((up_alloc u18 (.cells #[] 48)).grown h2 (by simp) (fun q e => Nat.le_of_eq (Option.some.inj e))); obtain ⟨g_c, cap_c, ev_c, _⟩ := own_lit_at HN_c.out (by decide); subst ev_c; clear h1 h2 h3))
  have hs17 := HP.out.size
  have hs18 := HG.out.size
  replace HB0 := hid ((HB0.out.trans (HP.out.mono (by omega))).trans (HG.out.mono (by omega)))
  replace HF_dayL := hid (owns_below HF_dayL.out HG.out)
  replace HF_clockL := hid (owns_below HF_clockL.out HG.out)
  replace HF_bothL := hid (owns_below HF_bothL.out HG.out)
  clear HUA HLA HOA hba HN_a HP HG HOM HCE
  refine (ltext_any ⟨#[32, 116, 111, 32]⟩ _).mono ?_
  rintro e u20 ⟨rfl, b⟩
  have HD := hid b
  replace HF_dayL := hid (owns_below HF_dayL.out HD.out)
  replace HF_clockL := hid (owns_below HF_clockL.out HD.out)
  replace HF_bothL := hid (owns_below HF_bothL.out HD.out)
  replace HN_c := hid (owns_below HN_c.out HD.out)
  replace HB0 := hid (up_trans HB0.out HD.out)
  have hs19 := HD.out.size
  clear b HD
  go_wp2_with fail
  refine (lnumber_any 3 4 _).mono ?_
  rintro e u21 ⟨rfl, b⟩
  have HD := hid b
  replace HF_dayL := hid (owns_below HF_dayL.out HD.out)
  replace HF_clockL := hid (owns_below HF_clockL.out HD.out)
  replace HF_bothL := hid (owns_below HF_bothL.out HD.out)
  replace HN_c := hid (owns_below HN_c.out HD.out)
  replace HB0 := hid (up_trans HB0.out HD.out)
  have hs20 := HD.out.size
  clear b HD
  go_wp2_with fail
  refine (ltext_any ⟨#[45]⟩ _).mono ?_
  rintro e u22 ⟨rfl, b⟩
  have HD := hid b
  replace HF_dayL := hid (owns_below HF_dayL.out HD.out)
  replace HF_clockL := hid (owns_below HF_clockL.out HD.out)
  replace HF_bothL := hid (owns_below HF_bothL.out HD.out)
  replace HN_c := hid (owns_below HN_c.out HD.out)
  replace HB0 := hid (up_trans HB0.out HD.out)
  have hs21 := HD.out.size
  clear b HD
  go_wp2_with fail
  refine (lnumber_any 4 2 _).mono ?_
  rintro e u23 ⟨rfl, b⟩
  have HD := hid b
  replace HF_dayL := hid (owns_below HF_dayL.out HD.out)
  replace HF_clockL := hid (owns_below HF_clockL.out HD.out)
  replace HF_bothL := hid (owns_below HF_bothL.out HD.out)
  replace HN_c := hid (owns_below HN_c.out HD.out)
  replace HB0 := hid (up_trans HB0.out HD.out)
  have hs22 := HD.out.size
  clear b HD
  go_wp2_with fail
  refine (ltext_any ⟨#[45]⟩ _).mono ?_
  rintro e u24 ⟨rfl, b⟩
  have HD := hid b
  replace HF_dayL := hid (owns_below HF_dayL.out HD.out)
  replace HF_clockL := hid (owns_below HF_clockL.out HD.out)
  replace HF_bothL := hid (owns_below HF_bothL.out HD.out)
  replace HN_c := hid (owns_below HN_c.out HD.out)
  replace HB0 := hid (up_trans HB0.out HD.out)
  have hs23 := HD.out.size
  clear b HD
  go_wp2_with fail
  refine (lnumber_any 5 2 _).mono ?_
  rintro e u25 ⟨rfl, b⟩
  have HD := hid b
  replace HF_dayL := hid (owns_below HF_dayL.out HD.out)
  replace HF_clockL := hid (owns_below HF_clockL.out HD.out)
  replace HF_bothL := hid (owns_below HF_bothL.out HD.out)
  replace HN_c := hid (owns_below HN_c.out HD.out)
  replace HB0 := hid (up_trans HB0.out HD.out)
  have hs24 := HD.out.size
  clear b HD
  have HUA : Hid (Below u25.heap.size u25 (u25.alloc (.cells #[.int .i64 0, .string ⟨#[32, 116, 111, 32]⟩, .int .i64 0, .int .i64 0, .int .i64 0, .int .i64 1, .string ⟨#[]⟩, .int .i64 3, .int .i64 4, .int .i64 0, .int .i64 0, .string ⟨#[45]⟩, .int .i64 0, .int .i64 0, .int .i64 0, .int .i64 1, .string ⟨#[]⟩, .int .i64 4, .int .i64 2, .int .i64 0, .int .i64 0, .string ⟨#[45]⟩, .int .i64 0, .int .i64 0, .int .i64 0, .int .i64 1, .string ⟨#[]⟩, .int .i64 5, .int .i64 2, .int .i64 0] 48))) := hid (up_alloc _ _)
  have HLA := hid (cells_lit u25 48 (sixB.flatMap partCells) #[.int .i64 0, .string ⟨#[32, 116, 111, 32]⟩, .int .i64 0, .int .i64 0, .int .i64 0, .int .i64 1, .string ⟨#[]⟩, .int .i64 3, .int .i64 4, .int .i64 0, .int .i64 0, .string ⟨#[45]⟩, .int .i64 0, .int .i64 0, .int .i64 0, .int .i64 1, .string ⟨#[]⟩, .int .i64 4, .int .i64 2, .int .i64 0, .int .i64 0, .string ⟨#[45]⟩, .int .i64 0, .int .i64 0, .int .i64 0, .int .i64 1, .string ⟨#[]⟩, .int .i64 5, .int .i64 2, .int .i64 0] sixB_cells _ 6 5 rfl (by kernel_rfl) (PartC.flat u25 sixB).ones)
  have HOA := hid (owns_below HN_c.out HUA.out)
  have hba : u18.heap.size ≤ (u25.alloc (.cells #[.int .i64 0, .string ⟨#[32, 116, 111, 32]⟩, .int .i64 0, .int .i64 0, .int .i64 0, .int .i64 1, .string ⟨#[]⟩, .int .i64 3, .int .i64 4, .int .i64 0, .int .i64 0, .string ⟨#[45]⟩, .int .i64 0, .int .i64 0, .int .i64 0, .int .i64 1, .string ⟨#[]⟩, .int .i64 4, .int .i64 2, .int .i64 0, .int .i64 0, .string ⟨#[45]⟩, .int .i64 0, .int .i64 0, .int .i64 0, .int .i64 1, .string ⟨#[]⟩, .int .i64 5, .int .i64 2, .int .i64 0] 48)).heap.size := by have := HUA.out.size; omega
  go_wp2_with (at_builtin; refine wpList_append_cells _ rfl (.tmp 31) (.tmp 38) 50 48 rfl (.agg #[.int .i64 0, .string ⟨#[]⟩, .int .i64 0, .int .i64 0, .int .i64 0]) 5 48 Tryz.underlying50 info_Part rfl (by decide) (by decide) (u18.heap.size) _ 5 _ rfl HOA.out _ 6 _ rfl HLA.out (by decide) (hba) ?_; intro v' u26 h1 h2 h3; have HF_spanL : Hid (u26.ownsRow (u18.heap.size) 48 5 v' 11 ((dayL ++ sixB).flatMap partCells)) := hid (by rw [List.flatMap_append]; exact h1); have HP : Hid (Below (u18.heap.size) u25 u26) := hid ((HUA.out.mono (by omega)).grown h2 hba (fun q e => (World.ownsRow.lt HOA.out q e).1)); obtain ⟨g_sixB, cap_sixB, ev, _, hg_sixB⟩ := own_lit_at HF_spanL.out (by decide); subst ev; clear h1 h2 h3; replace HF_dayL := hid (own_lt HF_dayL.out HP.out (by omega)); replace HF_clockL := hid (own_lt HF_clockL.out HP.out (by omega)); replace HF_bothL := hid (own_lt HF_bothL.out HP.out (by omega)))
  have hs25 := HP.out.size
  replace HB0 := hid (HB0.out.trans (HP.out.mono (by omega)))
  clear HUA HLA HOA hba HN_c HP
  refine (lnumber_any 1 0 _).mono ?_
  rintro e u27 ⟨rfl, b⟩
  have HD := hid b
  replace HF_dayL := hid (owns_below HF_dayL.out HD.out)
  replace HF_clockL := hid (owns_below HF_clockL.out HD.out)
  replace HF_bothL := hid (owns_below HF_bothL.out HD.out)
  replace HF_spanL := hid (owns_below HF_spanL.out HD.out)
  replace HB0 := hid (up_trans HB0.out HD.out)
  have hs26 := HD.out.size
  clear b HD
  go_wp2_with fail
  refine (ltext_any ⟨#[46]⟩ _).mono ?_
  rintro e u28 ⟨rfl, b⟩
  have HD := hid b
  replace HF_dayL := hid (owns_below HF_dayL.out HD.out)
  replace HF_clockL := hid (owns_below HF_clockL.out HD.out)
  replace HF_bothL := hid (owns_below HF_bothL.out HD.out)
  replace HF_spanL := hid (owns_below HF_spanL.out HD.out)
  replace HB0 := hid (up_trans HB0.out HD.out)
  have hs27 := HD.out.size
  clear b HD
  go_wp2_with fail
  refine (lnumber_any 2 0 _).mono ?_
  rintro e u29 ⟨rfl, b⟩
  have HD := hid b
  replace HF_dayL := hid (owns_below HF_dayL.out HD.out)
  replace HF_clockL := hid (owns_below HF_clockL.out HD.out)
  replace HF_bothL := hid (owns_below HF_bothL.out HD.out)
  replace HF_spanL := hid (owns_below HF_spanL.out HD.out)
  replace HB0 := hid (up_trans HB0.out HD.out)
  have hs28 := HD.out.size
  clear b HD
  go_wp2_with fail
  refine (ltext_any ⟨#[32]⟩ _).mono ?_
  rintro e u30 ⟨rfl, b⟩
  have HD := hid b
  replace HF_dayL := hid (owns_below HF_dayL.out HD.out)
  replace HF_clockL := hid (owns_below HF_clockL.out HD.out)
  replace HF_bothL := hid (owns_below HF_bothL.out HD.out)
  replace HF_spanL := hid (owns_below HF_spanL.out HD.out)
  replace HB0 := hid (up_trans HB0.out HD.out)
  have hs29 := HD.out.size
  clear b HD
  have HO_moneyL := hid (own_lit u30 48 5 5 u30.heap.size #[.int .i64 1, .string ⟨#[]⟩, .int .i64 1, .int .i64 0, .int .i64 0, .int .i64 0, .string ⟨#[46]⟩, .int .i64 0, .int .i64 0, .int .i64 0, .int .i64 1, .string ⟨#[]⟩, .int .i64 2, .int .i64 0, .int .i64 0, .int .i64 0, .string ⟨#[32]⟩, .int .i64 0, .int .i64 0, .int .i64 0, .int .i64 2, .string ⟨#[]⟩, .int .i64 0, .int .i64 0, .int .i64 6] (moneyL.flatMap partCells) moneyL_cells rfl (by kernel_rfl) (by decide))
  go_wp2_with fail
  refine (lnumber_any 0 0 _).mono ?_
  rintro e u31 ⟨rfl, b⟩
  have HD := hid (up_trans (up_alloc u30 (.cells #[.int .i64 1, .string ⟨#[]⟩, .int .i64 1, .int .i64 0, .int .i64 0, .int .i64 0, .string ⟨#[46]⟩, .int .i64 0, .int .i64 0, .int .i64 0, .int .i64 1, .string ⟨#[]⟩, .int .i64 2, .int .i64 0, .int .i64 0, .int .i64 0, .string ⟨#[32]⟩, .int .i64 0, .int .i64 0, .int .i64 0, .int .i64 2, .string ⟨#[]⟩, .int .i64 0, .int .i64 0, .int .i64 6] 48)) b)
  replace HF_dayL := hid (owns_below HF_dayL.out HD.out)
  replace HF_clockL := hid (owns_below HF_clockL.out HD.out)
  replace HF_bothL := hid (owns_below HF_bothL.out HD.out)
  replace HF_spanL := hid (owns_below HF_spanL.out HD.out)
  have HF_moneyL := hid (owns_below HO_moneyL.out b)
  clear HO_moneyL
  replace HB0 := hid (up_trans HB0.out HD.out)
  have hs30 := HD.out.size
  clear b HD
  go_wp2_with fail
  refine (ltext_any ⟨#[46]⟩ _).mono ?_
  rintro e u32 ⟨rfl, b⟩
  have HD := hid b
  replace HF_dayL := hid (owns_below HF_dayL.out HD.out)
  replace HF_clockL := hid (owns_below HF_clockL.out HD.out)
  replace HF_bothL := hid (owns_below HF_bothL.out HD.out)
  replace HF_spanL := hid (owns_below HF_spanL.out HD.out)
  replace HF_moneyL := hid (owns_below HF_moneyL.out HD.out)
  replace HB0 := hid (up_trans HB0.out HD.out)
  have hs31 := HD.out.size
  clear b HD
  go_wp2_with fail
  refine (lnumber_any 1 1 _).mono ?_
  rintro e u33 ⟨rfl, b⟩
  have HD := hid b
  replace HF_dayL := hid (owns_below HF_dayL.out HD.out)
  replace HF_clockL := hid (owns_below HF_clockL.out HD.out)
  replace HF_bothL := hid (owns_below HF_bothL.out HD.out)
  replace HF_spanL := hid (owns_below HF_spanL.out HD.out)
  replace HF_moneyL := hid (owns_below HF_moneyL.out HD.out)
  replace HB0 := hid (up_trans HB0.out HD.out)
  have hs32 := HD.out.size
  clear b HD
  have HO_decP := hid (own_lit u33 48 5 3 u33.heap.size #[.int .i64 1, .string ⟨#[]⟩, .int .i64 0, .int .i64 0, .int .i64 0, .int .i64 0, .string ⟨#[46]⟩, .int .i64 0, .int .i64 0, .int .i64 0, .int .i64 1, .string ⟨#[]⟩, .int .i64 1, .int .i64 1, .int .i64 0] (decP.flatMap partCells) decP_cells rfl (by kernel_rfl) (by decide))
  go_wp2_with fail
  refine (lnumber_any 0 0 _).mono ?_
  rintro e u34 ⟨rfl, b⟩
  have HD := hid (up_trans (up_alloc u33 (.cells #[.int .i64 1, .string ⟨#[]⟩, .int .i64 0, .int .i64 0, .int .i64 0, .int .i64 0, .string ⟨#[46]⟩, .int .i64 0, .int .i64 0, .int .i64 0, .int .i64 1, .string ⟨#[]⟩, .int .i64 1, .int .i64 1, .int .i64 0] 48)) b)
  replace HF_dayL := hid (owns_below HF_dayL.out HD.out)
  replace HF_clockL := hid (owns_below HF_clockL.out HD.out)
  replace HF_bothL := hid (owns_below HF_bothL.out HD.out)
  replace HF_spanL := hid (owns_below HF_spanL.out HD.out)
  replace HF_moneyL := hid (owns_below HF_moneyL.out HD.out)
  have HF_decP := hid (owns_below HO_decP.out b)
  clear HO_decP
  replace HB0 := hid (up_trans HB0.out HD.out)
  have hs33 := HD.out.size
  clear b HD
  go_wp2_with fail
  refine (ltext_any ⟨#[32, 115]⟩ _).mono ?_
  rintro e u35 ⟨rfl, b⟩
  have HD := hid b
  replace HF_dayL := hid (owns_below HF_dayL.out HD.out)
  replace HF_clockL := hid (owns_below HF_clockL.out HD.out)
  replace HF_bothL := hid (owns_below HF_bothL.out HD.out)
  replace HF_spanL := hid (owns_below HF_spanL.out HD.out)
  replace HF_moneyL := hid (owns_below HF_moneyL.out HD.out)
  replace HF_decP := hid (owns_below HF_decP.out HD.out)
  replace HB0 := hid (up_trans HB0.out HD.out)
  have hs34 := HD.out.size
  clear b HD
  have HO_durL := hid (own_lit u35 48 5 2 u35.heap.size #[.int .i64 1, .string ⟨#[]⟩, .int .i64 0, .int .i64 0, .int .i64 0, .int .i64 0, .string ⟨#[32, 115]⟩, .int .i64 0, .int .i64 0, .int .i64 0] (durL.flatMap partCells) durL_cells rfl (by kernel_rfl) (by decide))
  go_wp2_with fail
  refine (lnumber_any 2 0 _).mono ?_
  rintro e u36 ⟨rfl, b⟩
  have HD := hid (up_trans (up_alloc u35 (.cells #[.int .i64 1, .string ⟨#[]⟩, .int .i64 0, .int .i64 0, .int .i64 0, .int .i64 0, .string ⟨#[32, 115]⟩, .int .i64 0, .int .i64 0, .int .i64 0] 48)) b)
  replace HF_dayL := hid (owns_below HF_dayL.out HD.out)
  replace HF_clockL := hid (owns_below HF_clockL.out HD.out)
  replace HF_bothL := hid (owns_below HF_bothL.out HD.out)
  replace HF_spanL := hid (owns_below HF_spanL.out HD.out)
  replace HF_moneyL := hid (owns_below HF_moneyL.out HD.out)
  replace HF_decP := hid (owns_below HF_decP.out HD.out)
  have HF_durL := hid (owns_below HO_durL.out b)
  clear HO_durL
  replace HB0 := hid (up_trans HB0.out HD.out)
  have hs35 := HD.out.size
  clear b HD
  go_wp2_with fail
  refine (ltext_any ⟨#[32]⟩ _).mono ?_
  rintro e u37 ⟨rfl, b⟩
  have HD := hid b
  replace HF_dayL := hid (owns_below HF_dayL.out HD.out)
  replace HF_clockL := hid (owns_below HF_clockL.out HD.out)
  replace HF_bothL := hid (owns_below HF_bothL.out HD.out)
  replace HF_spanL := hid (owns_below HF_spanL.out HD.out)
  replace HF_moneyL := hid (owns_below HF_moneyL.out HD.out)
  replace HF_decP := hid (owns_below HF_decP.out HD.out)
  replace HF_durL := hid (owns_below HF_durL.out HD.out)
  replace HB0 := hid (up_trans HB0.out HD.out)
  have hs36 := HD.out.size
  clear b HD
  go_wp2_with fail
  refine (ltext_any ⟨#[32]⟩ _).mono ?_
  rintro e u38 ⟨rfl, b⟩
  have HD := hid b
  replace HF_dayL := hid (owns_below HF_dayL.out HD.out)
  replace HF_clockL := hid (owns_below HF_clockL.out HD.out)
  replace HF_bothL := hid (owns_below HF_bothL.out HD.out)
  replace HF_spanL := hid (owns_below HF_spanL.out HD.out)
  replace HF_moneyL := hid (owns_below HF_moneyL.out HD.out)
  replace HF_decP := hid (owns_below HF_decP.out HD.out)
  replace HF_durL := hid (owns_below HF_durL.out HD.out)
  replace HB0 := hid (up_trans HB0.out HD.out)
  have hs37 := HD.out.size
  clear b HD
  go_wp2_with fail
  refine (lnumber_any 0 4 _).mono ?_
  rintro e u39 ⟨rfl, b⟩
  have HD := hid b
  replace HF_dayL := hid (owns_below HF_dayL.out HD.out)
  replace HF_clockL := hid (owns_below HF_clockL.out HD.out)
  replace HF_bothL := hid (owns_below HF_bothL.out HD.out)
  replace HF_spanL := hid (owns_below HF_spanL.out HD.out)
  replace HF_moneyL := hid (owns_below HF_moneyL.out HD.out)
  replace HF_decP := hid (owns_below HF_decP.out HD.out)
  replace HF_durL := hid (owns_below HF_durL.out HD.out)
  replace HB0 := hid (up_trans HB0.out HD.out)
  have hs38 := HD.out.size
  clear b HD
  have HO_lastL := hid (own_lit u39 48 5 5 u39.heap.size #[.int .i64 1, .string ⟨#[]⟩, .int .i64 2, .int .i64 0, .int .i64 0, .int .i64 0, .string ⟨#[32]⟩, .int .i64 0, .int .i64 0, .int .i64 0, .int .i64 2, .string ⟨#[]⟩, .int .i64 1, .int .i64 0, .int .i64 1, .int .i64 0, .string ⟨#[32]⟩, .int .i64 0, .int .i64 0, .int .i64 0, .int .i64 1, .string ⟨#[]⟩, .int .i64 0, .int .i64 4, .int .i64 0] (lastL.flatMap partCells) lastL_cells rfl (by kernel_rfl) (by decide))
  have HL1 := hid (up_alloc u39 (.cells #[.int .i64 1, .string ⟨#[]⟩, .int .i64 2, .int .i64 0, .int .i64 0, .int .i64 0, .string ⟨#[32]⟩, .int .i64 0, .int .i64 0, .int .i64 0, .int .i64 2, .string ⟨#[]⟩, .int .i64 1, .int .i64 0, .int .i64 1, .int .i64 0, .string ⟨#[32]⟩, .int .i64 0, .int .i64 0, .int .i64 0, .int .i64 1, .string ⟨#[]⟩, .int .i64 0, .int .i64 4, .int .i64 0] 48))
  have HL2 := hid (up_alloc (u39.alloc (.cells #[.int .i64 1, .string ⟨#[]⟩, .int .i64 2, .int .i64 0, .int .i64 0, .int .i64 0, .string ⟨#[32]⟩, .int .i64 0, .int .i64 0, .int .i64 0, .int .i64 2, .string ⟨#[]⟩, .int .i64 1, .int .i64 0, .int .i64 1, .int .i64 0, .string ⟨#[32]⟩, .int .i64 0, .int .i64 0, .int .i64 0, .int .i64 1, .string ⟨#[]⟩, .int .i64 0, .int .i64 4, .int .i64 0] 48)) (.cells #[.int .i64 4, .slice (some ⟨u5.heap.size, 0, none⟩) 5 5, .int .i64 5, .slice (some ⟨u10.heap.size, 0, none⟩) 5 5, .int .i64 6, .slice (some ⟨g_sixA, 0, none⟩) 11 cap_sixA, .int .i64 7, .slice (some ⟨u33.heap.size, 0, none⟩) 3 3, .int .i64 8, .slice (some ⟨u30.heap.size, 0, none⟩) 5 5, .int .i64 9, .slice (some ⟨u35.heap.size, 0, none⟩) 2 2, .int .i64 10, .slice (some ⟨g_sixB, 0, none⟩) 11 cap_sixB, .int .i64 4, .slice (some ⟨u39.heap.size, 0, none⟩) 5 5] 52))
  have HOS := hid (own_lit (u39.alloc (.cells #[.int .i64 1, .string ⟨#[]⟩, .int .i64 2, .int .i64 0, .int .i64 0, .int .i64 0, .string ⟨#[32]⟩, .int .i64 0, .int .i64 0, .int .i64 0, .int .i64 2, .string ⟨#[]⟩, .int .i64 1, .int .i64 0, .int .i64 1, .int .i64 0, .string ⟨#[32]⟩, .int .i64 0, .int .i64 0, .int .i64 0, .int .i64 1, .string ⟨#[]⟩, .int .i64 0, .int .i64 4, .int .i64 0] 48)) 52 2 8 (u39.heap.size + 1) #[.int .i64 4, .slice (some ⟨u5.heap.size, 0, none⟩) 5 5, .int .i64 5, .slice (some ⟨u10.heap.size, 0, none⟩) 5 5, .int .i64 6, .slice (some ⟨g_sixA, 0, none⟩) 11 cap_sixA, .int .i64 7, .slice (some ⟨u33.heap.size, 0, none⟩) 3 3, .int .i64 8, .slice (some ⟨u30.heap.size, 0, none⟩) 5 5, .int .i64 9, .slice (some ⟨u35.heap.size, 0, none⟩) 2 2, .int .i64 10, .slice (some ⟨g_sixB, 0, none⟩) 11 cap_sixB, .int .i64 4, .slice (some ⟨u39.heap.size, 0, none⟩) 5 5] [.int .i64 4, .slice (some ⟨u5.heap.size, 0, none⟩) 5 5, .int .i64 5, .slice (some ⟨u10.heap.size, 0, none⟩) 5 5, .int .i64 6, .slice (some ⟨g_sixA, 0, none⟩) 11 cap_sixA, .int .i64 7, .slice (some ⟨u33.heap.size, 0, none⟩) 3 3, .int .i64 8, .slice (some ⟨u30.heap.size, 0, none⟩) 5 5, .int .i64 9, .slice (some ⟨u35.heap.size, 0, none⟩) 2 2, .int .i64 10, .slice (some ⟨g_sixB, 0, none⟩) 11 cap_sixB, .int .i64 4, .slice (some ⟨u39.heap.size, 0, none⟩) 5 5] rfl (by simp) rfl (by decide))
  have HP_dayL := hid (owns_below (owns_below HF_dayL.out HL1.out) HL2.out)
  have HP_clockL := hid (owns_below (owns_below HF_clockL.out HL1.out) HL2.out)
  have HP_bothL := hid (owns_below (owns_below HF_bothL.out HL1.out) HL2.out)
  have HP_decP := hid (owns_below (owns_below HF_decP.out HL1.out) HL2.out)
  have HP_moneyL := hid (owns_below (owns_below HF_moneyL.out HL1.out) HL2.out)
  have HP_durL := hid (owns_below (owns_below HF_durL.out HL1.out) HL2.out)
  have HP_spanL := hid (owns_below (owns_below HF_spanL.out HL1.out) HL2.out)
  have HP_lastL := hid (owns_below HO_lastL.out HL2.out)
  go_wp2
  go_ret
  exact ⟨_, rfl, fun W kk => Styles_own (xs := stylesL) (own_keepL HOS.out (by decide) kk) ((StyleC.one W ⟨4, dayL⟩ _ (parts_of dayL (own_keepL HP_dayL.out (by decide) kk) rfl (by decide)) rfl).append ((StyleC.one W ⟨5, clockL⟩ _ (parts_of clockL (own_keepL HP_clockL.out (by decide) kk) rfl (by decide)) rfl).append ((StyleC.one W ⟨6, dayL ++ sixA⟩ _ (parts_of (dayL ++ sixA) (own_keepL HP_bothL.out (by decide) kk) rfl (by decide)) rfl).append ((StyleC.one W ⟨7, decP⟩ _ (parts_of decP (own_keepL HP_decP.out (by decide) kk) rfl (by decide)) rfl).append ((StyleC.one W ⟨8, moneyL⟩ _ (parts_of moneyL (own_keepL HP_moneyL.out (by decide) kk) rfl (by decide)) rfl).append ((StyleC.one W ⟨9, durL⟩ _ (parts_of durL (own_keepL HP_durL.out (by decide) kk) rfl (by decide)) rfl).append ((StyleC.one W ⟨10, dayL ++ sixB⟩ _ (parts_of (dayL ++ sixB) (own_keepL HP_spanL.out (by decide) kk) rfl (by decide)) rfl).append ((StyleC.one W ⟨4, lastL⟩ _ (parts_of lastL (own_keepL HP_lastL.out (by decide) kk) rfl (by decide)) rfl).append (StyleC.nil _))))))))) (by decide), (up_trans (up_trans HB0.out HL1.out) HL2.out)⟩
def sampleL (order digits : Int) : List Locale := [⟨⟨#[98, 97, 115, 101]⟩, -1, 0, wordsL, othersM 7, stylesL⟩, ⟨⟨#[101, 110]⟩, 0, 0, [], datesL (order % 3), []⟩, ⟨⟨#[97, 114, 45, 49]⟩, 1, digits % 4, [⟨⟨#[109, 97, 105]⟩, 1, 5⟩], [], []⟩]
set_option maxRecDepth 8000 in
set_option maxHeartbeats 4000000 in
theorem sample_any (order digits : Int) (w : World) : Calls Tryz.prog 31 #[.int .i64 order, .int .i64 digits] w fun e w' => ∃ g cs, e = .returned (.slice (some ⟨g, 0, none⟩) 3 3) ∧ w'.ownsRow w.heap.size 44 6 (.slice (some ⟨g, 0, none⟩) 3 3) 3 cs ∧ Stl w' (fun W => LocaleC W cs (sampleL order digits)) ∧ Below w.heap.size w w' := by
  have HW := hid (fun w => swithin_any digits 4 w (by decide) (by decide))
  go_enter Tryz.func31, Tryz.ntmps31
  go_wp2_with fail
  refine (words_any w).mono ?_
  rintro e w1 ⟨v1, rfl, s1, b1⟩
  obtain ⟨ad1, cap1, e1, _⟩ := s1.now.shape
  rw [show wordsL.length = 22 from rfl] at e1
  subst e1
  have HS1 := hid s1
  have HB1 := hid b1
  clear s1 b1
  go_wp2_with fail
  refine (others_any w1).mono ?_
  rintro e w2 ⟨v2, rfl, s2, b2⟩
  obtain ⟨ad2, cap2, e2, _⟩ := s2.now.shape
  rw [othersM_length] at e2
  subst e2
  have HS2 := hid s2
  have HB2 := hid b2
  clear s2 b2
  go_wp2_with fail
  refine (styles_any w2).mono ?_
  rintro e w3 ⟨v3, rfl, s3, b3⟩
  obtain ⟨ad3, cap3, e3, _⟩ := s3.now.shape
  rw [show stylesL.length = 8 from rfl] at e3
  subst e3
  have HS3 := hid s3
  have HB3 := hid b3
  clear s3 b3
  go_wp2_with fail
  refine (dates_any order w3).mono ?_
  rintro e w4 ⟨v4, rfl, s4, b4⟩
  obtain ⟨ad4, cap4, e4, _⟩ := s4.now.shape
  rw [show ∀ k, (datesL k).length = 8 from fun _ => rfl] at e4
  subst e4
  have HS4 := hid s4
  have HB4 := hid b4
  clear s4 b4
  go_wp2_with fail
  refine (HW.out _).mono ?_
  rintro e wx ⟨rfl, rfl⟩
  have HO1 := hid (own_lit wx 46 3 1 wx.heap.size #[.string ⟨#[109, 97, 105]⟩, .int .i64 1, .int .i64 5] [.string ⟨#[109, 97, 105]⟩, .int .i64 1, .int .i64 5] rfl rfl rfl (by decide))
  have HL1 := hid (up_alloc wx (.cells #[.string ⟨#[109, 97, 105]⟩, .int .i64 1, .int .i64 5] 46))
  have HL2 := hid (up_alloc (wx.alloc (.cells #[.string ⟨#[109, 97, 105]⟩, .int .i64 1, .int .i64 5] 46)) (.cells #[.string ⟨#[98, 97, 115, 101]⟩, .int .i64 (-1), .int .i64 0, .slice ad1 22 cap1, .slice ad2 22 cap2, .slice ad3 8 cap3, .string ⟨#[101, 110]⟩, .int .i64 0, .int .i64 0, .slice none 0 0, .slice ad4 8 cap4, .slice none 0 0, .string ⟨#[97, 114, 45, 49]⟩, .int .i64 1, .int .i64 (digits % 4), .slice (some ⟨wx.heap.size, 0, none⟩) 1 1, .slice none 0 0, .slice none 0 0] 44))
  have HO2 := hid (own_lit (wx.alloc (.cells #[.string ⟨#[109, 97, 105]⟩, .int .i64 1, .int .i64 5] 46)) 44 6 3 (wx.heap.size + 1) #[.string ⟨#[98, 97, 115, 101]⟩, .int .i64 (-1), .int .i64 0, .slice ad1 22 cap1, .slice ad2 22 cap2, .slice ad3 8 cap3, .string ⟨#[101, 110]⟩, .int .i64 0, .int .i64 0, .slice none 0 0, .slice ad4 8 cap4, .slice none 0 0, .string ⟨#[97, 114, 45, 49]⟩, .int .i64 1, .int .i64 (digits % 4), .slice (some ⟨wx.heap.size, 0, none⟩) 1 1, .slice none 0 0, .slice none 0 0] [.string ⟨#[98, 97, 115, 101]⟩, .int .i64 (-1), .int .i64 0, .slice ad1 22 cap1, .slice ad2 22 cap2, .slice ad3 8 cap3, .string ⟨#[101, 110]⟩, .int .i64 0, .int .i64 0, .slice none 0 0, .slice ad4 8 cap4, .slice none 0 0, .string ⟨#[97, 114, 45, 49]⟩, .int .i64 1, .int .i64 (digits % 4), .slice (some ⟨wx.heap.size, 0, none⟩) 1 1, .slice none 0 0, .slice none 0 0] rfl (by simp) rfl (by decide))
  have HB := hid (up_trans (up_trans (up_trans (up_trans (up_trans HB1.out HB2.out) HB3.out) HB4.out) HL1.out) HL2.out)
  have hsz : w.heap.size ≤ wx.heap.size + 1 := by have h1 := HB1.out.size; have h2 := HB2.out.size; have h3 := HB3.out.size; have h4 := HB4.out.size; omega
  go_wp2
  go_ret
  refine ⟨_, _, rfl, own_base HO2.out hsz, fun W kk => ?_, HB.out⟩
  have k4 := ((KeepL.up HL1.out).trans (KeepL.up HL2.out)).trans kk
  have k3 := (KeepL.up HB4.out).trans k4
  have k2 := (KeepL.up HB3.out).trans k3
  have k1 := (KeepL.up HB2.out).trans k2
  exact (LocaleC.one W ⟨⟨#[98, 97, 115, 101]⟩, -1, 0, wordsL, othersM 7, stylesL⟩ _ _ _ (HS1.out W k1) (HS2.out W k2) (HS3.out W k3) rfl rfl rfl).append ((LocaleC.one W ⟨⟨#[101, 110]⟩, 0, 0, [], datesL (order % 3), []⟩ _ _ _ (EntriesAt.nil _) (HS4.out W k4) (StylesAt.nil _) rfl rfl rfl).append (LocaleC.one W ⟨⟨#[97, 114, 45, 49]⟩, 1, digits % 4, [⟨⟨#[109, 97, 105]⟩, 1, 5⟩], [], []⟩ _ _ _ (Entries_own (own_keepL HO1.out (by decide) ((KeepL.up HL2.out).trans kk)) (EntryC.one W ⟨⟨#[109, 97, 105]⟩, 1, 5⟩) (by simp)) (RulesOk.nil _) (StylesAt.nil _) rfl rfl rfl))

end Go.Proofs.YtohgaknojkdohaaGreatDoor

/- What a Shape makes may be: plain mathematics. -/
namespace Go.Proofs.YtohgaknojkdohaaGreatDoor
open Go.RowKit Gr

def wordX (n : Nat) : ByteArray := [⟨#[111, 110, 101]⟩, ⟨#[120, 32, 121]⟩, ⟨#[195, 164]⟩, ⟨#[55, 117, 112]⟩, ⟨#[45]⟩].getD n ⟨#[]⟩
def moreX (d wd vl : Int) (raws : List Raw) : Locale := ⟨⟨#[120]⟩, -1, d % 4, [⟨wordX (wd % 5).toNat, 1 + vl % 3, vl % 100 - 5⟩, ⟨⟨#[116, 119, 111]⟩, 2, 2⟩], lrules raws 6, []⟩
def makeL (o d wd vl : Int) (raws : List Raw) (m : Bool) : List Locale := sampleL o d ++ if m = true then [moreX d wd vl raws] else []
theorem getD_app {ls ys : List Locale} {k : Nat} (h : k < ls.length) : (ls ++ ys).getD k nilLocale = ls.getD k nilLocale := by
  rw [List.getD_eq_getElem?_getD, List.getD_eq_getElem?_getD, List.getElem?_append_left h]
theorem chainUp_app (ls ys : List Locale) (i : Nat) (hi : i < ls.length) (hp : Par ls i) : ∀ (f : Nat) (a : Int), a ≤ i → chainUp (ls ++ ys) f a = chainUp ls f a
  | 0, _, _ => rfl
  | f + 1, a, ha => by
    unfold chainUp
    by_cases h : a < 0
    · rw [if_pos h, if_pos h]
    · rw [if_neg h, if_neg h, getD_app (by omega)]
      have := hp a.toNat (by omega)
      rw [chainUp_app ls ys i hi hp f _ (by omega)]
theorem chainOf_app (ls ys : List Locale) (i : Nat) (hi : i < ls.length) (hp : Par ls i) : chainOf (ls ++ ys) i = chainOf ls i := by
  unfold chainOf
  rw [chainUp_app ls ys i hi hp _ _ (Int.le_refl _)]
theorem rulesOf_app (ls ys : List Locale) (i : Nat) (hi : i < ls.length) (hp : Par ls i) : rulesOf (ls ++ ys) i = rulesOf ls i := by
  unfold rulesOf
  rw [chainOf_app ls ys i hi hp]
  have h : ∀ k ∈ chainOf ls i, ((ls ++ ys).getD k.toNat nilLocale).rules = (ls.getD k.toNat nilLocale).rules := fun k hk => by
    have := chainOf_mem ls i hp hk
    rw [getD_app (by omega)]
  revert h
  generalize chainOf ls i = l
  intro h
  induction l with
  | nil => rfl
  | cons k l ih =>
    rw [List.flatMap_cons, List.flatMap_cons, h k (by simp), ih (fun q hq => h q (List.mem_cons_of_mem _ hq))]
theorem takenAt_app (ls ys : List Locale) (i : Nat) (hi : i < ls.length) : takenAt (ls ++ ys) i = takenAt ls i := by
  unfold takenAt
  rw [List.take_append_of_le_length (by omega), getD_app hi]
theorem rightAt_app (ls ys : List Locale) (i : Nat) (hi : i < ls.length) (hp : Par ls i) : rightAt (ls ++ ys) i = rightAt ls i := by
  unfold rightAt
  rw [takenAt_app ls ys i hi, rulesOf_app ls ys i hi hp, getD_app hi]
theorem rightL_snoc (ls : List Locale) (x : Locale) (h : rightL ls = true) (hl : ls.length < 10) (hx : rightAt (ls ++ [x]) ls.length = true) : rightL (ls ++ [x]) = true := by
  unfold rightL
  rw [List.length_append, List.length_singleton, Bool.and_eq_true]
  refine ⟨decide_eq_true (by omega), List.all_eq_true.2 fun i hi => ?_⟩
  have hi' := List.mem_range.1 hi
  by_cases e : i < ls.length
  · rw [rightAt_app ls [x] i e (fun j hj => rightL_par h j (by omega))]
    exact rightL_at h e
  · obtain rfl : i = ls.length := by omega
    exact hx
theorem sampleL_right (o d : Int) : rightL (sampleL o d) = true := by
  have h : ∀ (a : Fin 3) (b : Fin 4), rightL [⟨⟨#[98, 97, 115, 101]⟩, -1, 0, wordsL, othersM 7, stylesL⟩, ⟨⟨#[101, 110]⟩, 0, 0, [], datesL ((a : Nat) : Int), []⟩, ⟨⟨#[97, 114, 45, 49]⟩, 1, ((b : Nat) : Int), [⟨⟨#[109, 97, 105]⟩, 1, 5⟩], [], []⟩] = true := by decide +kernel
  have := h ⟨(o % 3).toNat, by omega⟩ ⟨(d % 4).toNat, by omega⟩
  simp only at this
  rw [Int.toNat_of_nonneg (by omega), Int.toNat_of_nonneg (by omega)] at this
  exact this

theorem moreX_right (o d wd vl : Int) (raws : List Raw) : rightAt (sampleL o d ++ [moreX d wd vl raws]) 3 = true := by
  have hx : (sampleL o d ++ [moreX d wd vl raws]).getD 3 nilLocale = moreX d wd vl raws := rfl
  have hp : (moreX d wd vl raws).parent < 0 := by simp [moreX]
  have hch : chainOf (sampleL o d ++ [moreX d wd vl raws]) 3 = [(3 : Int)] := chainOf_root _ 3 (by rw [hx]; exact hp)
  have hru : rulesOf (sampleL o d ++ [moreX d wd vl raws]) 3 = lrules raws 6 := by
    unfold rulesOf
    rw [hch]
    show ((sampleL o d ++ [moreX d wd vl raws]).getD 3 nilLocale).rules ++ [] = _
    rw [hx, List.append_nil]
    rfl
  have htk : takenAt (sampleL o d ++ [moreX d wd vl raws]) 3 = false := by
    unfold takenAt
    rw [hx]
    show (decide ((⟨#[98, 97, 115, 101]⟩ : ByteArray) = ⟨#[120]⟩) || (decide ((⟨#[101, 110]⟩ : ByteArray) = ⟨#[120]⟩) || (decide ((⟨#[97, 114, 45, 49]⟩ : ByteArray) = ⟨#[120]⟩) || false))) = false
    decide +kernel
  have hw : wordOk (wordX (wd % 5).toNat) = true := by
    have h : ∀ k : Fin 5, wordOk (wordX k) = true := by decide +kernel
    exact h ⟨(wd % 5).toNat, by omega⟩
  have he : entryOk ⟨wordX (wd % 5).toNat, 1 + vl % 3, vl % 100 - 5⟩ = true := by
    unfold entryOk
    simp only
    rw [hw, show clsOk (1 + vl % 3) = true from inB_true ⟨by omega, by omega⟩, inB_true ⟨by omega, by omega⟩]
    rfl
  have he2 : entryOk ⟨⟨#[116, 119, 111]⟩, 2, 2⟩ = true := by decide +kernel
  have hi : idOk ⟨#[120]⟩ = true := by decide +kernel
  unfold rightAt
  rw [hx, htk, hru, lrules_check]
  simp only [moreX, hi, List.all_cons, List.all_nil, he, he2, List.length_cons, List.length_nil]
  rw [inB_true ⟨by omega, by omega⟩, inB_true (show 0 ≤ d % 4 ∧ d % 4 ≤ 3 by omega)]
  rfl
theorem makeL_right (o d wd vl : Int) (raws : List Raw) (m : Bool) : rightL (makeL o d wd vl raws m) = true := by
  unfold makeL
  cases m with
  | false => rw [if_neg (by decide), List.append_nil]; exact sampleL_right o d
  | true => rw [if_pos rfl]; exact rightL_snoc _ _ (sampleL_right o d) (by simp [sampleL]) (moreX_right o d wd vl raws)
theorem inB_I64 {n a b : Int} (h : inB n a b = true) (ha : -9223372036854775808 ≤ a) (hb : b ≤ 9223372036854775807) : I64 n := by
  have := inB_iff.1 h
  exact ⟨by omega, by omega⟩

theorem highs_le (k : Nat) : highs.getD k 0 ≤ 6 := by
  by_cases h : k < 16
  · have h' : ∀ j : Fin 16, highs.getD j 0 ≤ 6 := by decide
    exact h' ⟨k, h⟩
  · rw [List.getD_eq_getElem?_getD, List.getElem?_eq_none (by simp [highs]; omega)]
    decide
theorem right_ok {r : Rule} (h : right r = true) : OkRule r := by
  simp only [right, isSym, rhsOk, actOk, asked, Bool.and_eq_true, List.all_eq_true] at h
  obtain ⟨⟨⟨h1, h2, h3⟩, h4⟩, h5, h6, h7⟩ := h
  have k2 := inB_iff.1 h2
  have k6 := inB_iff.1 h6
  have k8 := highs_le r.op.toNat
  refine ⟨inB_I64 h1 (by decide) (by decide), ⟨by omega, fun n hn => inB_I64 (h3 n hn) (by decide) (by decide)⟩, inB_I64 h5 (by decide) (by decide), ⟨by omega, fun n hn => inB_I64 (h7 n hn) (by decide) (by omega)⟩, inB_I64 h4 (by decide) (by decide)⟩
theorem entry_ok {x : Entry} (h : entryOk x = true) : OkEntry x := by
  simp only [entryOk, wordOk, clsOk, Bool.and_eq_true] at h
  obtain ⟨⟨h1, _⟩, h2, h3⟩ := h
  have := inB_iff.1 h1
  exact ⟨by omega, inB_I64 h2 (by decide) (by decide), inB_I64 h3 (by decide) (by decide)⟩
theorem I64_zero : I64 0 := ⟨by decide, by decide⟩
theorem part_ok {x : Part} (h : partOk x = true) : OkPart x := by
  unfold partOk at h
  split at h
  · rename_i hk
    simp only [Bool.and_eq_true, decide_eq_true_eq] at h
    obtain ⟨h1, h2, h3, h4⟩ := h
    exact ⟨by rw [hk]; exact I64_zero, h1, by rw [h2]; exact I64_zero, by rw [h3]; exact I64_zero, by rw [h4]; exact I64_zero⟩
  · split at h
    · rename_i hk
      simp only [fieldOk, Bool.and_eq_true, decide_eq_true_eq] at h
      obtain ⟨h1, h2, h3, h4⟩ := h
      exact ⟨by rw [hk]; exact ⟨by decide, by decide⟩, by omega, inB_I64 h1 (by decide) (by decide), inB_I64 h2 (by decide) (by decide), by rw [h4]; exact I64_zero⟩
    · split at h
      · rename_i hk
        simp only [fieldOk, clsOk, Bool.and_eq_true, decide_eq_true_eq] at h
        obtain ⟨h1, h2, h3, h4⟩ := h
        exact ⟨by rw [hk]; exact ⟨by decide, by decide⟩, by omega, inB_I64 h1 (by decide) (by decide), by rw [h4]; exact I64_zero, inB_I64 h2 (by decide) (by decide)⟩
      · cases h
theorem style_ok {x : Style} (h : styleOk x = true) : OkStyle x := by
  simp only [styleOk, Bool.and_eq_true, List.all_eq_true] at h
  obtain ⟨h1, h2, h3⟩ := h
  have := inB_iff.1 h2
  exact ⟨inB_I64 h1 (by decide) (by decide), by omega, fun y hy => part_ok (h3 y hy)⟩
theorem own_rules (ls : List Locale) (i : Nat) : ∃ a, rulesOf ls i = a ++ (ls.getD i nilLocale).rules := by
  unfold rulesOf chainOf
  rw [chainUp_nat, List.reverse_cons, List.flatMap_append]
  refine ⟨_, congrArg _ ?_⟩
  rw [List.flatMap_cons, List.flatMap_nil, List.append_nil, Int.toNat_natCast]
theorem locale_ok {ls : List Locale} {i : Nat} (h : rightAt ls i = true) (hi : i < 10) : OkLocale (ls.getD i nilLocale) := by
  simp only [rightAt, idOk, Bool.and_eq_true, decide_eq_true_eq, List.all_eq_true] at h
  obtain ⟨⟨h1, _⟩, _, h3, h4, h5, h6, h7, h8, h9⟩ := h
  have k1 := inB_iff.1 h1
  have k3 := inB_iff.1 h3
  obtain ⟨a, ha⟩ := own_rules ls i
  have hr := List.all_eq_true.1 (check_right h9)
  have hn : (rulesOf ls i).length ≤ 60 := by
    simp only [check, Bool.and_eq_true, decide_eq_true_eq] at h9
    exact h9.1
  rw [ha] at hr hn
  rw [List.length_append] at hn
  exact ⟨by omega, ⟨by omega, by omega⟩, inB_I64 h4 (by decide) (by decide), ⟨h5, fun y hy => entry_ok (h6 y hy)⟩, ⟨by omega, fun y hy => right_ok (hr y (List.mem_append_right _ hy))⟩, ⟨h7, fun y hy => style_ok (h8 y hy)⟩⟩
theorem locales_ok {ls : List Locale} (h : rightL ls = true) : ∀ x ∈ ls, OkLocale x := fun x hx => by
  obtain ⟨i, hi, rfl⟩ := List.getElem_of_mem hx
  have := locale_ok (rightL_at h hi) (by have := rightL_length h; omega)
  rwa [List.getD_eq_getElem?_getD, List.getElem?_eq_getElem hi] at this
/-- What is written of locales that may be is read as it was. -/
theorem there_back {ls : List Locale} (h : rightL ls = true) : decL (encLocales ls) = some ls := decL_back ls (locales_ok h) h

theorem flat_le {α : Type} {f : α → List Int} {c : Nat} : ∀ (xs : List α), (∀ x ∈ xs, (f x).length ≤ c) → (xs.flatMap f).length ≤ xs.length * c
  | [], _ => by simp
  | x :: xs, h => by
    rw [List.flatMap_cons, List.length_append, List.length_cons, Nat.add_mul, Nat.one_mul]
    have h1 := h x (by simp)
    have h2 := flat_le xs (fun y hy => h y (List.mem_cons_of_mem _ hy))
    omega
theorem text_len (s : ByteArray) : (encText s).length = 8 + s.size := by unfold encText; rw [List.length_append, numB_length, nums_length]
theorem nums_len (l : List Int) : (encNums l).length = l.length * 8 := by
  unfold encNums
  induction l with
  | nil => rfl
  | cons x l ih => rw [List.flatMap_cons, List.length_append, numB_length, ih, List.length_cons]; omega
theorem ints_len (l : List Int) : (encInts l).length = 8 + l.length * 8 := by
  unfold encInts
  rw [List.length_append, numB_length]
  exact congrArg _ (nums_len l)
theorem entry_len {x : Entry} (h : OkEntry x) : (encEntry x).length ≤ 44 := by
  unfold encEntry
  rw [List.length_append, text_len, nums_len]
  have := h.1
  simp
  omega
theorem part_len {x : Part} (h : OkPart x) : (encPart x).length ≤ 60 := by
  unfold encPart
  rw [List.length_append, List.length_append, numB_length, text_len, nums_len]
  have := h.2.1
  simp
  omega
theorem style_len {x : Style} (h : OkStyle x) : (encStyle x).length ≤ 736 := by
  unfold encStyle encParts
  rw [List.length_append, List.length_append, numB_length, numB_length]
  have h1 := flat_le (f := encPart) (c := 60) x.parts (fun y hy => part_len (h.2.2 y hy))
  have h2 := h.2.1
  omega
theorem rule_len {x : Rule} (h : OkRule x) : (encRule x).length ≤ 136 := by
  unfold encRule
  rw [List.length_append, List.length_append, List.length_append, List.length_append, numB_length, numB_length, numB_length, ints_len, ints_len]
  have h1 := h.2.1.1
  have h2 := h.2.2.2.1.1
  omega
theorem locale_len {x : Locale} (h : OkLocale x) : (encLocale x).length ≤ 24300 := by
  unfold encLocale encEntries encRules encStyles
  rw [List.length_append, List.length_append, List.length_append, List.length_append, List.length_append, List.length_append, List.length_append, numB_length, numB_length, numB_length, text_len, nums_len]
  have h1 := flat_le (f := encEntry) (c := 44) x.lex (fun y hy => entry_len (h.2.2.2.1.2 y hy))
  have h2 := flat_le (f := encRule) (c := 136) x.rules (fun y hy => rule_len (h.2.2.2.2.1.2 y hy))
  have h3 := flat_le (f := encStyle) (c := 736) x.styles (fun y hy => style_len (h.2.2.2.2.2.2 y hy))
  have k0 := h.1
  have k1 := h.2.2.2.1.1
  have k2 := h.2.2.2.2.1.1
  have k3 := h.2.2.2.2.2.1
  simp only [List.length_cons, List.length_nil]
  omega
/-- What is written of locales that may be is not too long. -/
theorem right_len {ls : List Locale} (h : rightL ls = true) : (encLocales ls).length ≤ 800000 := by
  unfold encLocales
  rw [List.length_append, numB_length]
  have h1 := flat_le (f := encLocale) (c := 24300) ls (fun y hy => locale_len (locales_ok h y hy))
  have h2 := rightL_length h
  omega

end Go.Proofs.YtohgaknojkdohaaGreatDoor

/- A Shape that comes in as an argument; its Few. -/
namespace Go.Proofs.YtohgaknojkdohaaGreatDoor
open Go.RowKit Go.ChangeShapes Go.WideShapes Gr

def shapeV (o d wd vl : Int) (rv : Value) (m : Bool) : Value := .agg #[.int .i64 o, .int .i64 d, .int .i64 wd, .int .i64 vl, rv, .bool m]
/-- A Shape as plain data. -/
structure Shp where
  order : Int
  digits : Int
  word : Int
  value : Int
  more : Bool
  raws : List Raw
def ShapeAt (w : World) (v : Value) (x : Shp) : Prop := ∃ rv, v = shapeV x.order x.digits x.word x.value rv x.more ∧ RawsAt w rv x.raws
theorem array6 {cs : Array Value} (h : cs.size = 6) : ∃ c0 c1 c2 c3 c4 c5, cs = #[c0, c1, c2, c3, c4, c5] := by
  obtain ⟨l⟩ := cs
  match l, h with
  | [c0, c1, c2, c3, c4, c5], _ => exact ⟨c0, c1, c2, c3, c4, c5, rfl⟩
set_option maxRecDepth 8000 in
theorem few5_any (o d wd vl : Int) (rv : Value) (raws : List Raw) (m : Bool) (w : World) (h : RawsAt w rv raws) : Calls Tryz.prog 12 #[shapeV o d wd vl rv m] w fun e w' => e = .returned (.bool (few raws && decide (raws.length ≤ 12))) ∧ Below w.heap.size w w' := by
  unfold shapeV
  have HU := hid (up_alloc w (.cells #[.int .i64 o, .int .i64 d, .int .i64 wd, .int .i64 vl, rv, .bool m] 24))
  have HX := hid (row_new w (.cells #[.int .i64 o, .int .i64 d, .int .i64 wd, .int .i64 vl, rv, .bool m] 24))
  have HF := hid (few_any raws rv _ (h.on HU.out))
  obtain ⟨adr, capr, er, _⟩ := id h
  generalize hrn : raws.length = nr at *
  clear hrn h
  subst er
  go_enter Tryz.func12, Tryz.ntmps12
  go_wp2_with fail
  refine HF.out.mono ?_
  rintro e w2 ⟨rfl, rfl⟩
  cases hf : few raws with
  | false =>
    go_wp2
    go_ret
    exact ⟨ret_bool (by simp [hf]), HU.out⟩
  | true =>
    by_cases hn : nr ≤ 12
    · have hn2 : (nr : Int) ≤ 12 := by omega
      go_wp2
      go_ret
      exact ⟨ret_bool (by simp [hf, hn]), HU.out⟩
    · have hn2 : ¬ (nr : Int) ≤ 12 := by omega
      go_wp2
      go_ret
      exact ⟨ret_bool (by simp [hf, hn, hn2]), HU.out⟩
section
variable {H : Type} {enc : TypeId × Value → H} {W : World}
set_option maxRecDepth 8000 in
theorem raws_of_trod {fuel : Nat} {cs : List Value} {x : DataW H × List MemPlace} (hf : DataW.trod enc Tryz.prog W 0 (fun _ => true) true fuel 22 cs = some x) : ∃ sv l, cs = [sv] ∧ RawsAt W sv l := by
  rcases Deep.open_slice Tryz.underlying22 hf with ⟨hcs, _⟩ | ⟨a, len, cap, m, n, D, Pl, hcs, _, hl, hm, hmm, _, hx⟩
  · exact ⟨_, [], hcs, none, 0, rfl, by simp, fun j hj => by simp at hj⟩
  · simp only [if_true] at hmm
    have ce : Tryz.prog.cellsOf 102 = 5 := by kernel_rfl
    have each : ∀ j, j < len → ∃ r : Raw, RawIn W a (j * 5) r := by
      intro j hj
      obtain ⟨cs, h1, h2⟩ := hx j (by omega)
      rw [ce] at h1
      obtain ⟨r, sv, pv, k⟩ := raw_of_cells h1 h2
      exact ⟨r, sv, pv, k⟩
    obtain ⟨l, hll, hlp⟩ := list_choose each
    exact ⟨_, l, hcs, some a, cap, by rw [hll], by rw [hll]; omega, fun j hj => ⟨a, rfl, hlp j _ (raw_at hj)⟩⟩
set_option maxRecDepth 8000 in
theorem shape_of {base : Nat} {v : Value} {d : DataW H} {ps : List MemPlace} (hval : Value.okWide Tryz.prog W .any base 24 v) (h : DataW.Trod enc Tryz.prog W 0 (fun _ => true) true 24 v d ps) : ∃ (o dg wd vl : Int) (rv : Value) (m : Bool) (raws : List Raw), v = shapeV o dg wd vl rv m ∧ RawsAt W rv raws := by
  have c6 : Tryz.prog.cellsOf 24 = 6 := by kernel_rfl
  have c1 : Tryz.prog.cellsOf 3 = 1 := by kernel_rfl
  have c2 : Tryz.prog.cellsOf 22 = 1 := by kernel_rfl
  have c3 : Tryz.prog.cellsOf 4 = 1 := by kernel_rfl
  obtain ⟨cs, rfl, hsz⟩ := okWide_struct Tryz.underlying24 hval
  obtain ⟨v0, v1, v2, v3, v4, v5, rfl⟩ := array6 (hsz.trans c6)
  obtain ⟨fuel, hf⟩ := h
  obtain ⟨xs, k, _, _, _, hxl, hfld⟩ := DataW.trod_struct Tryz.underlying24 hf
  match xs, hxl with
  | [y0, y1, y2, y3, y4, y5], _ =>
    have g0 := hfld 0 _ rfl
    have g1 := hfld 1 _ rfl
    have g2 := hfld 2 _ rfl
    have g3 := hfld 3 _ rfl
    have g4 := hfld 4 _ rfl
    have g5 := hfld 5 _ rfl
    change DataW.trod _ _ _ _ _ _ _ 3 (List.take (Tryz.prog.cellsOf 3) (List.drop 0 [v0, v1, v2, v3, v4, v5])) = _ at g0
    change DataW.trod _ _ _ _ _ _ _ 3 (List.take (Tryz.prog.cellsOf 3) (List.drop 1 [v0, v1, v2, v3, v4, v5])) = _ at g1
    change DataW.trod _ _ _ _ _ _ _ 3 (List.take (Tryz.prog.cellsOf 3) (List.drop 2 [v0, v1, v2, v3, v4, v5])) = _ at g2
    change DataW.trod _ _ _ _ _ _ _ 3 (List.take (Tryz.prog.cellsOf 3) (List.drop 3 [v0, v1, v2, v3, v4, v5])) = _ at g3
    change DataW.trod _ _ _ _ _ _ _ 22 (List.take (Tryz.prog.cellsOf 22) (List.drop 4 [v0, v1, v2, v3, v4, v5])) = _ at g4
    change DataW.trod _ _ _ _ _ _ _ 4 (List.take (Tryz.prog.cellsOf 4) (List.drop 5 [v0, v1, v2, v3, v4, v5])) = _ at g5
    rw [c1] at g0 g1 g2 g3
    rw [c2] at g4
    rw [c3] at g5
    simp only [List.drop_zero, List.drop_succ_cons, List.take_succ_cons, List.take_zero, List.getElem?_cons_zero, List.getElem?_cons_succ] at g0 g1 g2 g3 g4 g5
    obtain ⟨z0, e0, _, _⟩ := DataW.trod_int Tryz.underlying3 g0
    obtain ⟨z1, e1, _, _⟩ := DataW.trod_int Tryz.underlying3 g1
    obtain ⟨z2, e2, _, _⟩ := DataW.trod_int Tryz.underlying3 g2
    obtain ⟨z3, e3, _, _⟩ := DataW.trod_int Tryz.underlying3 g3
    obtain ⟨rv, raws, e4, hr⟩ := raws_of_trod g4
    obtain ⟨m, e5, _⟩ := DataW.trod_bool Tryz.underlying4 g5
    simp only [List.cons.injEq, and_true] at e0 e1 e2 e3 e4 e5
    subst e0 e1 e2 e3 e4 e5
    exact ⟨z0, z1, z2, z3, _, m, raws, rfl, hr⟩
set_option maxRecDepth 8000 in
theorem shape_at {base : Nat} {v : Value} {d : DataW H} {ps : List MemPlace} (hval : Value.okWide Tryz.prog W .any base 24 v) (h : DataW.Trod enc Tryz.prog W 0 (fun _ => true) true 24 v d ps) : ∃ x : Shp, ShapeAt W v x := by
  obtain ⟨o, dg, wd, vl, rv, m, raws, e, hr⟩ := shape_of hval h
  exact ⟨⟨o, dg, wd, vl, m, raws⟩, rv, e, hr⟩
end

end Go.Proofs.YtohgaknojkdohaaGreatDoor

/- Of what may be: its sizes; of a Shape: what it makes, told at once. -/
namespace Go.Proofs.YtohgaknojkdohaaGreatDoor
open Go.RowKit Gr

theorem right_small {ls : List Locale} (h : rightL ls = true) : Small ls := fun x hx => by
  obtain ⟨h1, _, _, ⟨h2, _⟩, ⟨h3, _⟩, h4, _⟩ := locales_ok h x hx
  exact ⟨by omega, by omega, by omega, by omega⟩
theorem enc_pos (ls : List Locale) : 0 < (encLocales ls).length := by unfold encLocales; rw [List.length_append, numB_length]; omega
theorem bin_take {w : World} {B : Nat} {ad : Option Addr} {n cap : Nat} {bs : List Int} (h : RB w B (.slice ad n cap) bs) (hB : Byt bs) (h0 : 0 < bs.length) (hl : bs.length ≤ 1000000) (k : Nat) (hk : k ≤ bs.length) : BIn w (.slice ad k cap) (bs.take k) := by
  obtain ⟨ad', cap', e, ⟨h2, h3, h4, h5⟩, h6⟩ := bin_of_rb h hB h0 hl
  injection e with e1 e2 e3
  subst e1 e3
  have hlen : (bs.take k).length = k := by rw [List.length_take]; omega
  refine ⟨_, _, by rw [hlen], ⟨fun z hz => h2 z (List.mem_of_mem_take hz), by omega, by omega, h5⟩, ?_⟩
  rcases h6 with ⟨_, _, h6⟩ | ⟨b, o, e, hlt, hc⟩
  · rw [h6] at h0; simp at h0
  · refine .inr ⟨b, o, e, hlt, fun j hj => ?_⟩
    rw [hc j (by omega), List.getD_eq_getElem?_getD, List.getD_eq_getElem?_getD, List.getElem?_take_of_lt (by omega)]
/-- Rules, shape's row aside: the shape's numbers. -/
def mkL (x : Shp) : List Locale := makeL x.order x.digits x.word x.value x.raws x.more
theorem mkL_right (x : Shp) : rightL (mkL x) = true := makeL_right _ _ _ _ _ _
end Go.Proofs.YtohgaknojkdohaaGreatDoor

/- What a Shape makes: the sample; perhaps a locale of raw rules behind. -/
namespace Go.Proofs.YtohgaknojkdohaaGreatDoor
open Go.RowKit Gr

section
variable {P : Program} {l : List Oper} {Q : Exit → Act → World → Prop} {md : Region.Mode} {S S' : World → Prop}
/-- A condition may be made stronger on the way. -/
theorem held_weaken {ops : Array Oper} (hS : ∀ w, S' w → S w) : ∀ (fuel : Nat) (listed : Array Bool) (a : Act) (w : World), wpAnyH P md ops Q S' fuel listed a w → wpAnyH P md ops Q S fuel listed a w
  | 0, _, _, _, h => h
  | fuel + 1, _, _, _, h => ⟨h.1, fun i hi => wpOp_mono (fun a' w' h' => ⟨hS _ h'.1, held_weaken hS fuel _ a' w' h'.2⟩) (h.2 i hi)⟩
theorem held_take {i : Nat} {oi : Oper} {v : Value} {fuel : Nat} {listed : Array Bool} {a : Act} {w : World} (hi : l[i]? = some oi)
    (hs : Region.noSelect l.toArray = true) (hf : Region.free md l.toArray listed i = true) (hr : (Region.ready md l.toArray listed).contains i = true)
    (hQ : ∀ c a w, Q (.panic c) (a.put oi.dst v) w → Q (.panic c) a w) (hwt : Region.wanted oi (yielded l.toArray a.tmps) = true) (hy : ∀ w, S w → (execOp a.eval oi).run P w = .ok (.value v) w) (hS : S w)
    (h : wpAnyH P md l.toArray Q S fuel (listed.setIfInBounds i true) (a.put oi.dst v) w) : wpAnyH P md l.toArray Q S (fuel + 1) listed a w :=
  wpAnyH_take (by rw [List.getElem?_toArray]; exact hi) hs hf hr hQ (.inl ⟨hwt, hy⟩) hS h
theorem held_cons {fuel : Nat} {listed : Array Bool} {a : Act} {w : World} {i : Nat} {o : Oper} {rs : List Nat} (ho : l[i]? = some o)
    (h : ∀ K' : Act → World → Prop, (Shut (∀ a w, S w → (S w → wpAnyH P md l.toArray Q S fuel (listed.setIfInBounds i true) a w) → K' a w)) → if Region.wanted o (yielded l.toArray a.tmps) = true then Oper.wp P o a w K' Q else K' (a.put o.dst undef) w)
    (hs : AllReadyH P md l.toArray Q S fuel listed a w rs) : AllReadyH P md l.toArray Q S fuel listed a w (i :: rs) :=
  AllReadyH.cons (by rw [List.getElem?_toArray]; exact ho) h hs
end

/-- What holds all through the region: the shape's box; what stood ahead; X besides. -/
def HM (B : World) (g : Nat) (c1 c2 c3 c4 : Value) (X : World → Prop) (W : World) : Prop :=
  Below B.heap.size B W ∧ W.cell? ⟨g, 1, none⟩ = some c1 ∧ W.cell? ⟨g, 2, none⟩ = some c2 ∧ W.cell? ⟨g, 3, none⟩ = some c3 ∧ W.cell? ⟨g, 4, none⟩ = some c4 ∧ X W
section
variable {B W W' : World} {g : Nat} {c1 c2 c3 c4 : Value} {X Y : World → Prop}
theorem HM.on (h : HM B g c1 c2 c3 c4 X W) (b : Below W.heap.size W W') (x : X W') : HM B g c1 c2 c3 c4 X W' := by
  obtain ⟨h0, h1, h2, h3, h4, _⟩ := h
  exact ⟨up_trans h0 b, (b.cell (lt_of_cell h1)).trans h1, (b.cell (lt_of_cell h2)).trans h2, (b.cell (lt_of_cell h3)).trans h3, (b.cell (lt_of_cell h4)).trans h4, x⟩
theorem HM.more (h : HM B g c1 c2 c3 c4 X W) (y : Y W) : HM B g c1 c2 c3 c4 Y W := ⟨h.1, h.2.1, h.2.2.1, h.2.2.2.1, h.2.2.2.2.1, y⟩
theorem HM.less (h : HM B g c1 c2 c3 c4 X W) : HM B g c1 c2 c3 c4 (fun _ => True) W := h.more trivial
end

/-- What lasts while the row itself is written. -/
def Stg (w : World) (v : Value) (P : World → Prop) : Prop := ∀ W, w.grownBy W v.ownBlock → P W
theorem Stg.now {w : World} {v : Value} {P : World → Prop} (h : Stg w v P) : P w := h w (World.grownBy.refl _ _)
theorem KeepL.grow {w w' : World} {B n size : Nat} {v : Value} {xs : List Value} (h : w.ownsRow B 44 size v n xs) (hg : w.grownBy w' v.ownBlock) : KeepL w w' := ⟨hg.size, fun _ _ _ _ ht hk => kind_grown h hg ht hk⟩

/-- Onto a row that is full: a new row. -/
theorem step_append_full (w : World) {ops : Array Oper} {o : Oper} {a : Act} {K : Act → World → Prop} {Q : Exit → Act → World → Prop} {E : Prop} (hgd : o.guard = none) (s x : Operand) (t e : TypeId)
    (ho : o.op = .call { callee := .builtin .append, args := #[s, x], argTypes := #[t, t] }) (z : Value) (size bytes : Nat) (ht : Tryz.prog.underlying t = some (.slice e)) (hi : (Tryz.prog.info? e).map (fun i => (i.zero, i.size, i.bytes)) = some (some z, size, bytes)) (hzs : z.cells.size = size) (hsz : 0 < size) (hby : bytes ≤ 1000)
    (B g n : Nat) (cs : List Value) (hs : a.eval s = .slice (some ⟨g, 0, none⟩) n n) (h : w.ownsRow B e size (.slice (some ⟨g, 0, none⟩) n n) n cs) (xv : Value) (m : Nat) (ds : List Value) (hx : a.eval x = xv) (hq : CellsAt w xv m size ds) (nm : Nat) (hnm : n + m = nm) (hm : 0 < m) (hl : nm ≤ 1000000) (hB : B ≤ w.heap.size)
    (hK : ∀ cap w', w'.ownsRow B e size (.slice (some ⟨w.heap.size, 0, none⟩) nm cap) nm (cs ++ ds) → Below w.heap.size w w' → K (a.put o.dst (.slice (some ⟨w.heap.size, 0, none⟩) nm cap)) w') :
    if Region.wanted o (yielded ops a.tmps) = true then Oper.wp Tryz.prog o a w K Q else E := by
  subst hnm
  have hw : Region.wanted o (yielded ops a.tmps) = true := by simp [Region.wanted, hgd]
  rw [if_pos hw]
  obtain ⟨v', w', hr, h2, h3, h4⟩ := run_append_cells w t e o.type z size bytes ht hi hzs hsz hby B _ n cs h xv m ds hq hl hB
  have hk : ∃ cap, v' = .slice (some ⟨w.heap.size, 0, none⟩) (n + m) cap ∧ Below w.heap.size w w' := by
    obtain ⟨i0, hi0, hz0, hz1, hz2⟩ := info_parts hi
    obtain ⟨ad, cap, rfl, hdl, hnil, hone, hqc⟩ := hq
    cases ad with
    | none => have := (hnil rfl).2; omega
    | some adr =>
      subst hz1 hz2
      have hg := run_append_grow (P := Tryz.prog) w t o.type e i0 z ht hi0 hz0 ⟨g, 0, none⟩ n n cs h.1 (h.cells (g := g) rfl) adr m cap ds hdl (fun j u hj => by
        obtain ⟨a, e, h4⟩ := hqc j u hj
        obtain rfl := Option.some.inj e
        exact h4) (by omega) (by omega) (growslice_fits (by omega) (by
          have : (n + m) * i0.bytes ≤ 1000000 * 1000 := Nat.mul_le_mul hl hby
          omega))
      rw [hr] at hg
      injection hg with e1 e2
      subst e1 e2
      exact ⟨_, rfl, ((Below.refl _ w).drew).alloc (Nat.le_refl _) _⟩
  obtain ⟨cap, rfl, hb⟩ := hk
  unfold Oper.wp execOp
  simp only [ho, resolve, invoke, builtin, Sem.run_bind, Sem.run_pure, Result.andThen_ok, List.map_toArray, List.map_cons, List.map_nil, hs, hx, hr]
  exact hK cap w' h2 hb

set_option maxRecDepth 8000 in
set_option maxHeartbeats 4000000 in
theorem make_any (o d wd vl : Int) (rv : Value) (raws : List Raw) (m : Bool) (w : World) (h : RawsAt w rv raws) : Calls Tryz.prog 13 #[shapeV o d wd vl rv m] w fun e w' => ∃ v cs, e = .returned v ∧ w'.ownsRow w.heap.size 44 6 v (makeL o d wd vl raws m).length cs ∧ Stg w' v (fun W => LocaleC W cs (makeL o d wd vl raws m)) ∧ Below w.heap.size w w' := by
  have HH := hid h
  obtain ⟨adr, capr, er, _⟩ := id h
  generalize hrn : raws.length = nr at er
  clear hrn
  subst er
  have HW := hid (fun (a n : Int) (w : World) (h : 0 < n ∧ n ≤ 100000000) => swithin_any a n w h.1 h.2)
  have HX0 := hid (row_new w (.cells #[.int .i64 o, .int .i64 d, .int .i64 wd, .int .i64 vl, .slice adr nr capr, .bool m] 24))
  have HU0 := hid (up_alloc w (.cells #[.int .i64 o, .int .i64 d, .int .i64 wd, .int .i64 vl, .slice adr nr capr, .bool m] 24))
  clear h
  unfold shapeV
  go_enter Tryz.func13, Tryz.ntmps13
  go_wp2_with fail
  refine (sample_any o d _).mono ?_
  rintro e w1 ⟨gl, cs, rfl, ho, hc, hb⟩
  have hbx := (hb.block w.heap.size (by simp)).trans HX0.out
  have HB1 := hid (up_trans HU0.out hb)
  have HO1 := hid (own_base ho (by simp : w.heap.size ≤ _))
  have HC1 := hid hc
  have b1 : w1.cell? ⟨w.heap.size, 1, none⟩ = some (.int .i64 d) := by rw [cell_of_row _ _ _ _ _ _ hbx]; rfl
  have b2 : w1.cell? ⟨w.heap.size, 2, none⟩ = some (.int .i64 wd) := by rw [cell_of_row _ _ _ _ _ _ hbx]; rfl
  have b3 : w1.cell? ⟨w.heap.size, 3, none⟩ = some (.int .i64 vl) := by rw [cell_of_row _ _ _ _ _ _ hbx]; rfl
  have b4 : w1.cell? ⟨w.heap.size, 4, none⟩ = some (.slice adr nr capr) := by rw [cell_of_row _ _ _ _ _ _ hbx]; rfl
  have b5 : w1.cell? ⟨w.heap.size, 5, none⟩ = some (.bool m) := by rw [cell_of_row _ _ _ _ _ _ hbx]; rfl
  have hw1 : w.heap.size ≤ w1.heap.size := HB1.out.size
  clear ho hc hb hbx HX0 HU0
  cases m with
  | false =>
    go_wp2
    go_ret
    exact ⟨_, _, rfl, HO1.out, fun W hg => by simpa [makeL] using HC1.out W (KeepL.grow HO1.out hg), HB1.out⟩
  | true =>
    have HST : Hid (∀ W : World, (W.alloc (.cells #[.string ⟨#[111, 110, 101]⟩, .string ⟨#[120, 32, 121]⟩, .string ⟨#[195, 164]⟩, .string ⟨#[55, 117, 112]⟩, .string ⟨#[45]⟩] 9)).cell? ⟨W.heap.size, (wd % 5).toNat, none⟩ = some (.string (wordX (wd % 5).toNat))) := hid (fun W => by
      rw [new_cell]
      have h5 : wd % 5 = 0 ∨ wd % 5 = 1 ∨ wd % 5 = 2 ∨ wd % 5 = 3 ∨ wd % 5 = 4 := by omega
      rcases h5 with h | h | h | h | h <;> rw [h] <;> rfl)
    have HMD : Hid (makeL o d wd vl raws true = sampleL o d ++ [⟨⟨#[120]⟩, -1, d % 4, [⟨wordX (wd % 5).toNat, 1 + vl % 3, vl % 100 - 5⟩, ⟨⟨#[116, 119, 111]⟩, 2, 2⟩], lrules raws 6, []⟩]) := hid rfl
    have hw5 : 0 ≤ wd % 5 ∧ wd % 5 < 5 := by omega
    obtain ⟨kn, hkn⟩ : ∃ kn : Nat, wd % 5 = (kn : Int) := ⟨(wd % 5).toNat, by omega⟩
    rw [hkn, Int.toNat_natCast] at HST HMD
    have hk5 : (kn : Int) < 5 := by omega
    have hk0 : (0 : Int) ≤ (kn : Int) := by omega
    clear hw5
    have HKN := hid hkn
    have HRL : Hid (∀ W : World, Below w1.heap.size w1 W → Calls Tryz.prog 32 #[.slice adr nr capr, .int .i64 6] W fun e w' => ∃ adu nu capu, e = .returned (.slice adu nu capu) ∧ RulesOk w' (.slice adu nu capu) (lrules raws 6) ∧ Below W.heap.size W w') := hid (fun W hW => (lrules_any raws _ 6 (by decide) W ((HH.out.on HB1.out).on hW)).mono (by
      rintro e wR ⟨u, rfl, hRN, ba⟩
      have hok := rulesNew_ok hRN (by have := lrules_length raws 6; omega)
      obtain ⟨adu, capu, eu, _⟩ := hok.shape
      subst eu
      exact ⟨adu, _, capu, rfl, hok, ba⟩))
    have HFIN : Hid (∀ (wL : World) (gE : Nat) (adu : Option Addr) (nu capu : Nat), Below w1.heap.size w1 wL → RulesOk wL (.slice adu nu capu) (lrules raws 6) → wL.ownsRow gE 46 3 (.slice (some ⟨gE, 0, none⟩) 2 2) 2 [.string (wordX kn), .int .i64 (1 + vl % 3), .int .i64 (vl % 100 - 5), .string ⟨#[116, 119, 111]⟩, .int .i64 2, .int .i64 2] →
        ∀ (capB : Nat) (wB : World), wB.ownsRow w.heap.size 44 6 (.slice (some ⟨wL.heap.size, 0, none⟩) 4 capB) 4 (cs ++ [.string ⟨#[120]⟩, .int .i64 (-1), .int .i64 (d % 4), .slice (some ⟨gE, 0, none⟩) 2 2, .slice adu nu capu, .slice none 0 0]) → Below wL.heap.size wL wB →
        ∃ v cs, Ending.returned (.slice (some ⟨wL.heap.size, 0, none⟩) 4 capB) = .returned v ∧ wB.ownsRow w.heap.size 44 6 v (makeL o d wd vl raws true).length cs ∧ Stg wB v (fun W => LocaleC W cs (makeL o d wd vl raws true)) ∧ Below w.heap.size w wB) := hid (fun wL gE adu nu capu hb hr he capB wB h1 h2 => by
      refine ⟨_, _, rfl, h1, fun W hg => ?_, up_trans (up_trans HB1.out hb) h2⟩
      have hW : Below wL.heap.size wL W := h2.grown hg h2.size (fun k e => Nat.le_of_eq (Option.some.inj e))
      rw [HMD.out]
      refine (((HC1.out wL (KeepL.up hb)).append (LocaleC.one wL ⟨⟨#[120]⟩, -1, d % 4, [⟨wordX kn, 1 + vl % 3, vl % 100 - 5⟩, ⟨⟨#[116, 119, 111]⟩, 2, 2⟩], lrules raws 6, []⟩ _ _ _ ?_ hr (StylesAt.nil _) rfl rfl rfl)).on hW)
      exact Entries_own he ((EntryC.one wL ⟨wordX kn, 1 + vl % 3, vl % 100 - 5⟩).append (EntryC.one wL ⟨⟨#[116, 119, 111]⟩, 2, 2⟩)) (by simp))
    clear hkn
    have hkn := HKN.out
    have e16 : IntKind.i64.wrap (1 + vl % 3) = 1 + vl % 3 := by rw [IntKind.wrap_i64]; omega
    have e20 : IntKind.i64.wrap (vl % 100 - 5) = vl % 100 - 5 := by rw [IntKind.wrap_i64]; omega
    go_wp2
    refine wp_region_held_drew (S := HM w1 w.heap.size (.int .i64 d) (.int .i64 wd) (.int .i64 vl) (.slice adr nr capr) (fun _ => True)) (by kernel_rfl) ⟨(Below.refl w1.heap.size w1).drew, b1, b2, b3, b4, trivial⟩ (fun hHeld => ?_)
    clear b1 b2 b3 b4 b5 HKN
    generalize w1.drew = w0 at hHeld ⊢
    refine held_take (i := 0) (v := ?_) rfl (by kernel_rfl) (by kernel_rfl) (by kernel_rfl) (fun _ _ _ h => h) (by rfl) (fun W hW => ?_) hHeld ?_
    rotate_left
    · (obtain ⟨_, c1, c2, c3, c4, cx⟩ := hW; go_simp; try with_reducible rfl)
    try simp only [Act.put, List.setIfInBounds_toArray, List.set_cons_zero, List.set_cons_succ]
    refine held_take (i := 1) (v := ?_) rfl (by kernel_rfl) (by kernel_rfl) (by kernel_rfl) (fun _ _ _ h => h) (by rfl) (fun W hW => ?_) hHeld ?_
    rotate_left
    · (obtain ⟨_, c1, c2, c3, c4, cx⟩ := hW; go_simp; try with_reducible rfl)
    try simp only [Act.put, List.setIfInBounds_toArray, List.set_cons_zero, List.set_cons_succ]
    refine held_take (i := 2) (v := ?_) rfl (by kernel_rfl) (by kernel_rfl) (by kernel_rfl) (fun _ _ _ h => h) (by rfl) (fun W hW => ?_) hHeld ?_
    rotate_left
    · (obtain ⟨_, c1, c2, c3, c4, cx⟩ := hW; go_simp; try with_reducible rfl)
    try simp only [Act.put, List.setIfInBounds_toArray, List.set_cons_zero, List.set_cons_succ]
    refine held_take (i := 4) (v := ?_) rfl (by kernel_rfl) (by kernel_rfl) (by kernel_rfl) (fun _ _ _ h => h) (by rfl) (fun W hW => ?_) hHeld ?_
    rotate_left
    · (obtain ⟨_, c1, c2, c3, c4, cx⟩ := hW; go_simp; try with_reducible rfl)
    try simp only [Act.put, List.setIfInBounds_toArray, List.set_cons_zero, List.set_cons_succ]
    refine held_take (i := 5) (v := ?_) rfl (by kernel_rfl) (by kernel_rfl) (by kernel_rfl) (fun _ _ _ h => h) (by rfl) (fun W hW => ?_) hHeld ?_
    rotate_left
    · (obtain ⟨_, c1, c2, c3, c4, cx⟩ := hW; go_simp; try with_reducible rfl)
    try simp only [Act.put, List.setIfInBounds_toArray, List.set_cons_zero, List.set_cons_succ]
    refine held_take (i := 8) (v := ?_) rfl (by kernel_rfl) (by kernel_rfl) (by kernel_rfl) (fun _ _ _ h => h) (by rfl) (fun W hW => ?_) hHeld ?_
    rotate_left
    · (obtain ⟨_, c1, c2, c3, c4, cx⟩ := hW; go_simp; try with_reducible rfl)
    try simp only [Act.put, List.setIfInBounds_toArray, List.set_cons_zero, List.set_cons_succ]
    refine held_take (i := 9) (v := ?_) rfl (by kernel_rfl) (by kernel_rfl) (by kernel_rfl) (fun _ _ _ h => h) (by rfl) (fun W hW => ?_) hHeld ?_
    rotate_left
    · (obtain ⟨_, c1, c2, c3, c4, cx⟩ := hW; go_simp; try with_reducible rfl)
    try simp only [Act.put, List.setIfInBounds_toArray, List.set_cons_zero, List.set_cons_succ]
    refine held_take (i := 13) (v := ?_) rfl (by kernel_rfl) (by kernel_rfl) (by kernel_rfl) (fun _ _ _ h => h) (by rfl) (fun W hW => ?_) hHeld ?_
    rotate_left
    · (obtain ⟨_, c1, c2, c3, c4, cx⟩ := hW; go_simp; try with_reducible rfl)
    try simp only [Act.put, List.setIfInBounds_toArray, List.set_cons_zero, List.set_cons_succ]
    refine held_take (i := 14) (v := ?_) rfl (by kernel_rfl) (by kernel_rfl) (by kernel_rfl) (fun _ _ _ h => h) (by rfl) (fun W hW => ?_) hHeld ?_
    rotate_left
    · (obtain ⟨_, c1, c2, c3, c4, cx⟩ := hW; go_simp; try with_reducible rfl)
    try simp only [Act.put, List.setIfInBounds_toArray, List.set_cons_zero, List.set_cons_succ]
    refine held_take (i := 17) (v := ?_) rfl (by kernel_rfl) (by kernel_rfl) (by kernel_rfl) (fun _ _ _ h => h) (by rfl) (fun W hW => ?_) hHeld ?_
    rotate_left
    · (obtain ⟨_, c1, c2, c3, c4, cx⟩ := hW; go_simp; try with_reducible rfl)
    try simp only [Act.put, List.setIfInBounds_toArray, List.set_cons_zero, List.set_cons_succ]
    refine held_take (i := 18) (v := ?_) rfl (by kernel_rfl) (by kernel_rfl) (by kernel_rfl) (fun _ _ _ h => h) (by rfl) (fun W hW => ?_) hHeld ?_
    rotate_left
    · (obtain ⟨_, c1, c2, c3, c4, cx⟩ := hW; go_simp; try with_reducible rfl)
    try simp only [Act.put, List.setIfInBounds_toArray, List.set_cons_zero, List.set_cons_succ]
    refine held_take (i := 22) (v := ?_) rfl (by kernel_rfl) (by kernel_rfl) (by kernel_rfl) (fun _ _ _ h => h) (by rfl) (fun W hW => ?_) hHeld ?_
    rotate_left
    · (obtain ⟨_, c1, c2, c3, c4, cx⟩ := hW; go_simp; try with_reducible rfl)
    try simp only [Act.put, List.setIfInBounds_toArray, List.set_cons_zero, List.set_cons_succ]
    refine wpAnyH_ready (rs := [3, 7]) (by kernel_rfl) (by simp) ?_
    refine held_cons rfl (fun K hK => ?_) ?_
    · skip
      go_simp
      go_at_call 19
      refine (HW.out _ _ _ (by decide)).mono ?_
      rintro e wx ⟨rfl, hwx⟩
      rw [hwx]
      clear hwx wx
      refine hK.out _ _ hHeld (fun _ => ?_)
      clear hK K
      try simp only [Act.put, List.setIfInBounds_toArray, List.set_cons_zero, List.set_cons_succ]
      refine wpAnyH_ready (rs := [6, 7]) (by kernel_rfl) (by simp) ?_
      refine held_cons rfl (fun K hK => ?_) ?_
      · skip
        go_simp
        go_at_call 32
        refine (HRL.out _ hHeld.1).mono ?_
        rintro e wR ⟨adu, nu, capu, rfl, hRN, ba⟩
        have HRN := hid hRN
        clear hRN
        have hHeld := hHeld.on ba trivial
        refine hK.out _ _ hHeld (fun _ => ?_)
        clear hK K ba
        try simp only [Act.put, List.setIfInBounds_toArray, List.set_cons_zero, List.set_cons_succ]
        refine wpAnyH_ready (rs := [7, 10]) (by kernel_rfl) (by simp) ?_
        refine held_cons rfl (fun K hK => ?_) ?_
        · skip
          go_simp
          have cS := HST.out wR
          have hHeld := hHeld.on (up_alloc wR (.cells #[.string ⟨#[111, 110, 101]⟩, .string ⟨#[120, 32, 121]⟩, .string ⟨#[195, 164]⟩, .string ⟨#[55, 117, 112]⟩, .string ⟨#[45]⟩] 9)) trivial
          have hHeld := hHeld.more (Y := fun W => W.cell? ⟨wR.heap.size, kn, none⟩ = some (.string (wordX kn))) cS
          refine hK.out _ _ (hHeld.less) (fun _ => ?_)
          clear hK K
          have HRN := hid (HRN.out.on (up_alloc wR (.cells #[.string ⟨#[111, 110, 101]⟩, .string ⟨#[120, 32, 121]⟩, .string ⟨#[195, 164]⟩, .string ⟨#[55, 117, 112]⟩, .string ⟨#[45]⟩] 9)))
          clear cS
          generalize wR.alloc (.cells #[.string ⟨#[111, 110, 101]⟩, .string ⟨#[120, 32, 121]⟩, .string ⟨#[195, 164]⟩, .string ⟨#[55, 117, 112]⟩, .string ⟨#[45]⟩] 9) = wS at *
          obtain ⟨gS, hgS⟩ : ∃ gS, gS = wR.heap.size := ⟨_, rfl⟩
          rw [← hgS] at hHeld ⊢
          clear hgS
          refine held_weaken (S' := HM w1 w.heap.size (.int .i64 d) (.int .i64 wd) (.int .i64 vl) (.slice adr nr capr) (fun W => W.cell? ⟨gS, kn, none⟩ = some (.string (wordX kn)))) (fun _ h => h.less) _ _ _ _ ?_
          try simp only [Act.put, List.setIfInBounds_toArray, List.set_cons_zero, List.set_cons_succ]
          refine wpAnyH_ready (rs := [10]) (by kernel_rfl) (by simp) ?_
          refine held_cons rfl (fun K hK => ?_) AllReadyH.nil
          go_simp
          go_at_call 19
          refine (HW.out _ _ _ (by decide)).mono ?_
          rintro e wx ⟨rfl, hwx⟩
          rw [hwx]
          clear hwx wx
          rw [hkn]
          refine hK.out _ _ hHeld (fun _ => ?_)
          clear hK K
          try simp only [Act.put, List.setIfInBounds_toArray, List.set_cons_zero, List.set_cons_succ]
          refine held_take (i := 11) (v := ?_) rfl (by kernel_rfl) (by kernel_rfl) (by kernel_rfl) (fun _ _ _ h => h) (by rfl) (fun W hW => ?_) hHeld ?_
          rotate_left
          · (obtain ⟨_, c1, c2, c3, c4, cx⟩ := hW; go_simp; try with_reducible rfl)
          try simp only [Act.put, List.setIfInBounds_toArray, List.set_cons_zero, List.set_cons_succ]
          refine held_take (i := 12) (v := ?_) rfl (by kernel_rfl) (by kernel_rfl) (by kernel_rfl) (fun _ _ _ h => h) (by rfl) (fun W hW => ?_) hHeld ?_
          rotate_left
          · (obtain ⟨_, c1, c2, c3, c4, cx⟩ := hW; go_simp; try with_reducible rfl)
          try simp only [Act.put, List.setIfInBounds_toArray, List.set_cons_zero, List.set_cons_succ]
          refine wpAnyH_ready (rs := [15]) (by kernel_rfl) (by simp) ?_
          refine held_cons rfl (fun K hK => ?_) AllReadyH.nil
          go_simp
          go_at_call 19
          refine (HW.out _ _ _ (by decide)).mono ?_
          rintro e wx ⟨rfl, hwx⟩
          rw [hwx]
          clear hwx wx
          refine hK.out _ _ hHeld (fun _ => ?_)
          clear hK K
          try simp only [Act.put, List.setIfInBounds_toArray, List.set_cons_zero, List.set_cons_succ]
          refine held_take (i := 16) (v := ?_) rfl (by kernel_rfl) (by kernel_rfl) (by kernel_rfl) (fun _ _ _ h => h) (by rfl) (fun W hW => ?_) hHeld ?_
          rotate_left
          · (obtain ⟨_, c1, c2, c3, c4, cx⟩ := hW; go_simp; try with_reducible rfl)
          try simp only [Act.put, List.setIfInBounds_toArray, List.set_cons_zero, List.set_cons_succ]
          refine wpAnyH_ready (rs := [19]) (by kernel_rfl) (by simp) ?_
          refine held_cons rfl (fun K hK => ?_) AllReadyH.nil
          go_simp
          go_at_call 19
          refine (HW.out _ _ _ (by decide)).mono ?_
          rintro e wx ⟨rfl, hwx⟩
          rw [hwx]
          clear hwx wx
          refine hK.out _ _ hHeld (fun _ => ?_)
          clear hK K
          try simp only [Act.put, List.setIfInBounds_toArray, List.set_cons_zero, List.set_cons_succ]
          refine held_take (i := 20) (v := ?_) rfl (by kernel_rfl) (by kernel_rfl) (by kernel_rfl) (fun _ _ _ h => h) (by rfl) (fun W hW => ?_) hHeld ?_
          rotate_left
          · (obtain ⟨_, c1, c2, c3, c4, cx⟩ := hW; go_simp; try with_reducible rfl)
          try simp only [Act.put, List.setIfInBounds_toArray, List.set_cons_zero, List.set_cons_succ]
          refine held_take (i := 21) (v := ?_) rfl (by kernel_rfl) (by kernel_rfl) (by kernel_rfl) (fun _ _ _ h => h) (by rfl) (fun W hW => ?_) hHeld ?_
          rotate_left
          · (obtain ⟨_, c1, c2, c3, c4, cx⟩ := hW; go_simp; try with_reducible rfl)
          try simp only [Act.put, List.setIfInBounds_toArray, List.set_cons_zero, List.set_cons_succ]
          refine wpAnyH_ready (rs := [23]) (by kernel_rfl) (by simp) ?_
          refine held_cons rfl (fun K hK => ?_) AllReadyH.nil
          go_simp
          have HOE := hid (own_lit wS 46 3 2 wS.heap.size #[.string (wordX kn), .int .i64 (1 + vl % 3), .int .i64 (vl % 100 - 5), .string ⟨#[116, 119, 111]⟩, .int .i64 2, .int .i64 2] [.string (wordX kn), .int .i64 (1 + vl % 3), .int .i64 (vl % 100 - 5), .string ⟨#[116, 119, 111]⟩, .int .i64 2, .int .i64 2] rfl rfl rfl (by decide))
          have hHeld := hHeld.on (up_alloc wS (.cells #[.string (wordX kn), .int .i64 (1 + vl % 3), .int .i64 (vl % 100 - 5), .string ⟨#[116, 119, 111]⟩, .int .i64 2, .int .i64 2] 46)) (((up_alloc wS (.cells #[.string (wordX kn), .int .i64 (1 + vl % 3), .int .i64 (vl % 100 - 5), .string ⟨#[116, 119, 111]⟩, .int .i64 2, .int .i64 2] 46)).cell (p := ⟨gS, kn, none⟩) (lt_of_cell hHeld.2.2.2.2.2)).trans hHeld.2.2.2.2.2)
          have HRN := hid (HRN.out.on (up_alloc wS (.cells #[.string (wordX kn), .int .i64 (1 + vl % 3), .int .i64 (vl % 100 - 5), .string ⟨#[116, 119, 111]⟩, .int .i64 2, .int .i64 2] 46)))
          refine hK.out _ _ hHeld (fun _ => ?_)
          clear hK K
          generalize wS.alloc (.cells #[.string (wordX kn), .int .i64 (1 + vl % 3), .int .i64 (vl % 100 - 5), .string ⟨#[116, 119, 111]⟩, .int .i64 2, .int .i64 2] 46) = wE at *
          obtain ⟨gE, hgE⟩ : ∃ gE, gE = wS.heap.size := ⟨_, rfl⟩
          rw [← hgE] at HOE ⊢
          clear hgE
          try simp only [Act.put, List.setIfInBounds_toArray, List.set_cons_zero, List.set_cons_succ]
          refine held_take (i := 24) (v := ?_) rfl (by kernel_rfl) (by kernel_rfl) (by kernel_rfl) (fun _ _ _ h => h) (by rfl) (fun W hW => ?_) hHeld ?_
          rotate_left
          · (obtain ⟨_, c1, c2, c3, c4, cx⟩ := hW; go_simp; try with_reducible rfl)
          try simp only [Act.put, List.setIfInBounds_toArray, List.set_cons_zero, List.set_cons_succ]
          refine wpAnyH_ready (rs := [25]) (by kernel_rfl) (by simp) ?_
          refine held_cons rfl (fun K hK => ?_) AllReadyH.nil
          go_simp
          have HLA := hid (cells_lit wE 44 [.string ⟨#[120]⟩, .int .i64 (-1), .int .i64 (d % 4), .slice (some ⟨gE, 0, none⟩) 2 2, .slice adu nu capu, .slice none 0 0] #[.string ⟨#[120]⟩, .int .i64 (-1), .int .i64 (d % 4), .slice (some ⟨gE, 0, none⟩) 2 2, .slice adu nu capu, .slice none 0 0] rfl wE.heap.size 1 6 rfl rfl (by intro u hu; simp at hu; rcases hu with rfl | rfl | rfl | rfl | rfl | rfl <;> rfl))
          have hHeld := hHeld.on (up_alloc wE (.cells #[.string ⟨#[120]⟩, .int .i64 (-1), .int .i64 (d % 4), .slice (some ⟨gE, 0, none⟩) 2 2, .slice adu nu capu, .slice none 0 0] 44)) (((up_alloc wE (.cells #[.string ⟨#[120]⟩, .int .i64 (-1), .int .i64 (d % 4), .slice (some ⟨gE, 0, none⟩) 2 2, .slice adu nu capu, .slice none 0 0] 44)).cell (p := ⟨gS, kn, none⟩) (lt_of_cell hHeld.2.2.2.2.2)).trans hHeld.2.2.2.2.2)
          have HRN := hid (HRN.out.on (up_alloc wE (.cells #[.string ⟨#[120]⟩, .int .i64 (-1), .int .i64 (d % 4), .slice (some ⟨gE, 0, none⟩) 2 2, .slice adu nu capu, .slice none 0 0] 44)))
          have HOE := hid (owns_below HOE.out (up_alloc wE (.cells #[.string ⟨#[120]⟩, .int .i64 (-1), .int .i64 (d % 4), .slice (some ⟨gE, 0, none⟩) 2 2, .slice adu nu capu, .slice none 0 0] 44)))
          refine hK.out _ _ hHeld (fun _ => ?_)
          clear hK K
          generalize wE.alloc (.cells #[.string ⟨#[120]⟩, .int .i64 (-1), .int .i64 (d % 4), .slice (some ⟨gE, 0, none⟩) 2 2, .slice adu nu capu, .slice none 0 0] 44) = wL at *
          obtain ⟨gL, hgL⟩ : ∃ gL, gL = wE.heap.size := ⟨_, rfl⟩
          rw [← hgL] at HLA ⊢
          clear hgL
          have HF := hid (HFIN.out wL gE adu nu capu hHeld.1 HRN.out HOE.out)
          try simp only [Act.put, List.setIfInBounds_toArray, List.set_cons_zero, List.set_cons_succ]
          refine wpAnyH_ready (rs := [26]) (by kernel_rfl) (by simp) ?_
          refine held_cons rfl (fun K hK => ?_) AllReadyH.nil
          refine step_append_full _ rfl (.tmp 11) (.tmp 36) 26 44 rfl (.agg #[.string ⟨#[]⟩, .int .i64 0, .int .i64 0, .slice none 0 0, .slice none 0 0, .slice none 0 0]) 6 104 Tryz.underlying26 info_Locale rfl (by decide) (by decide) w.heap.size gl 3 cs rfl (owns_below HO1.out hHeld.1) (.slice (some ⟨gL, 0, none⟩) 1 1) 1 [.string ⟨#[120]⟩, .int .i64 (-1), .int .i64 (d % 4), .slice (some ⟨gE, 0, none⟩) 2 2, .slice adu nu capu, .slice none 0 0] rfl HLA.out 4 rfl (by decide) (by decide) (Nat.le_trans hw1 hHeld.1.size) ?_
          intro capB wB h1 h2
          have HF := hid (HF.out capB wB h1 h2)
          have hHeld := hHeld.on h2 ((h2.cell (p := ⟨gS, kn, none⟩) (lt_of_cell hHeld.2.2.2.2.2)).trans hHeld.2.2.2.2.2)
          refine hK.out _ _ hHeld (fun _ => ?_)
          clear hK K h1 h2
          try simp only [Act.put, List.setIfInBounds_toArray, List.set_cons_zero, List.set_cons_succ]
          refine held_take (i := 27) (v := ?_) rfl (by kernel_rfl) (by kernel_rfl) (by kernel_rfl) (fun _ _ _ h => h) (by rfl) (fun W hW => ?_) hHeld ?_
          rotate_left
          · (obtain ⟨_, c1, c2, c3, c4, cx⟩ := hW; go_simp; try with_reducible rfl)
          try simp only [Act.put, List.setIfInBounds_toArray, List.set_cons_zero, List.set_cons_succ]
          refine wpAnyH_done (by kernel_rfl) ?_ _
          go_wp2
          go_ret
          exact HF.out
        refine held_cons rfl (fun K hK => ?_) AllReadyH.nil
        go_simp
        go_at_call 19
        refine (HW.out _ _ _ (by decide)).mono ?_
        rintro e wx ⟨rfl, hwx⟩
        rw [hwx]
        clear hwx wx
        rw [hkn]
        refine hK.out _ _ hHeld (fun _ => ?_)
        clear hK K
        try simp only [Act.put, List.setIfInBounds_toArray, List.set_cons_zero, List.set_cons_succ]
        refine wpAnyH_ready (rs := [7, 15]) (by kernel_rfl) (by simp) ?_
        refine held_cons rfl (fun K hK => ?_) ?_
        · skip
          go_simp
          have cS := HST.out wR
          have hHeld := hHeld.on (up_alloc wR (.cells #[.string ⟨#[111, 110, 101]⟩, .string ⟨#[120, 32, 121]⟩, .string ⟨#[195, 164]⟩, .string ⟨#[55, 117, 112]⟩, .string ⟨#[45]⟩] 9)) trivial
          have hHeld := hHeld.more (Y := fun W => W.cell? ⟨wR.heap.size, kn, none⟩ = some (.string (wordX kn))) cS
          refine hK.out _ _ (hHeld.less) (fun _ => ?_)
          clear hK K
          have HRN := hid (HRN.out.on (up_alloc wR (.cells #[.string ⟨#[111, 110, 101]⟩, .string ⟨#[120, 32, 121]⟩, .string ⟨#[195, 164]⟩, .string ⟨#[55, 117, 112]⟩, .string ⟨#[45]⟩] 9)))
          clear cS
          generalize wR.alloc (.cells #[.string ⟨#[111, 110, 101]⟩, .string ⟨#[120, 32, 121]⟩, .string ⟨#[195, 164]⟩, .string ⟨#[55, 117, 112]⟩, .string ⟨#[45]⟩] 9) = wS at *
          obtain ⟨gS, hgS⟩ : ∃ gS, gS = wR.heap.size := ⟨_, rfl⟩
          rw [← hgS] at hHeld ⊢
          clear hgS
          refine held_weaken (S' := HM w1 w.heap.size (.int .i64 d) (.int .i64 wd) (.int .i64 vl) (.slice adr nr capr) (fun W => W.cell? ⟨gS, kn, none⟩ = some (.string (wordX kn)))) (fun _ h => h.less) _ _ _ _ ?_
          try simp only [Act.put, List.setIfInBounds_toArray, List.set_cons_zero, List.set_cons_succ]
          refine held_take (i := 11) (v := ?_) rfl (by kernel_rfl) (by kernel_rfl) (by kernel_rfl) (fun _ _ _ h => h) (by rfl) (fun W hW => ?_) hHeld ?_
          rotate_left
          · (obtain ⟨_, c1, c2, c3, c4, cx⟩ := hW; go_simp; try with_reducible rfl)
          try simp only [Act.put, List.setIfInBounds_toArray, List.set_cons_zero, List.set_cons_succ]
          refine held_take (i := 12) (v := ?_) rfl (by kernel_rfl) (by kernel_rfl) (by kernel_rfl) (fun _ _ _ h => h) (by rfl) (fun W hW => ?_) hHeld ?_
          rotate_left
          · (obtain ⟨_, c1, c2, c3, c4, cx⟩ := hW; go_simp; try with_reducible rfl)
          try simp only [Act.put, List.setIfInBounds_toArray, List.set_cons_zero, List.set_cons_succ]
          refine wpAnyH_ready (rs := [15]) (by kernel_rfl) (by simp) ?_
          refine held_cons rfl (fun K hK => ?_) AllReadyH.nil
          go_simp
          go_at_call 19
          refine (HW.out _ _ _ (by decide)).mono ?_
          rintro e wx ⟨rfl, hwx⟩
          rw [hwx]
          clear hwx wx
          refine hK.out _ _ hHeld (fun _ => ?_)
          clear hK K
          try simp only [Act.put, List.setIfInBounds_toArray, List.set_cons_zero, List.set_cons_succ]
          refine held_take (i := 16) (v := ?_) rfl (by kernel_rfl) (by kernel_rfl) (by kernel_rfl) (fun _ _ _ h => h) (by rfl) (fun W hW => ?_) hHeld ?_
          rotate_left
          · (obtain ⟨_, c1, c2, c3, c4, cx⟩ := hW; go_simp; try with_reducible rfl)
          try simp only [Act.put, List.setIfInBounds_toArray, List.set_cons_zero, List.set_cons_succ]
          refine wpAnyH_ready (rs := [19]) (by kernel_rfl) (by simp) ?_
          refine held_cons rfl (fun K hK => ?_) AllReadyH.nil
          go_simp
          go_at_call 19
          refine (HW.out _ _ _ (by decide)).mono ?_
          rintro e wx ⟨rfl, hwx⟩
          rw [hwx]
          clear hwx wx
          refine hK.out _ _ hHeld (fun _ => ?_)
          clear hK K
          try simp only [Act.put, List.setIfInBounds_toArray, List.set_cons_zero, List.set_cons_succ]
          refine held_take (i := 20) (v := ?_) rfl (by kernel_rfl) (by kernel_rfl) (by kernel_rfl) (fun _ _ _ h => h) (by rfl) (fun W hW => ?_) hHeld ?_
          rotate_left
          · (obtain ⟨_, c1, c2, c3, c4, cx⟩ := hW; go_simp; try with_reducible rfl)
          try simp only [Act.put, List.setIfInBounds_toArray, List.set_cons_zero, List.set_cons_succ]
          refine held_take (i := 21) (v := ?_) rfl (by kernel_rfl) (by kernel_rfl) (by kernel_rfl) (fun _ _ _ h => h) (by rfl) (fun W hW => ?_) hHeld ?_
          rotate_left
          · (obtain ⟨_, c1, c2, c3, c4, cx⟩ := hW; go_simp; try with_reducible rfl)
          try simp only [Act.put, List.setIfInBounds_toArray, List.set_cons_zero, List.set_cons_succ]
          refine wpAnyH_ready (rs := [23]) (by kernel_rfl) (by simp) ?_
          refine held_cons rfl (fun K hK => ?_) AllReadyH.nil
          go_simp
          have HOE := hid (own_lit wS 46 3 2 wS.heap.size #[.string (wordX kn), .int .i64 (1 + vl % 3), .int .i64 (vl % 100 - 5), .string ⟨#[116, 119, 111]⟩, .int .i64 2, .int .i64 2] [.string (wordX kn), .int .i64 (1 + vl % 3), .int .i64 (vl % 100 - 5), .string ⟨#[116, 119, 111]⟩, .int .i64 2, .int .i64 2] rfl rfl rfl (by decide))
          have hHeld := hHeld.on (up_alloc wS (.cells #[.string (wordX kn), .int .i64 (1 + vl % 3), .int .i64 (vl % 100 - 5), .string ⟨#[116, 119, 111]⟩, .int .i64 2, .int .i64 2] 46)) (((up_alloc wS (.cells #[.string (wordX kn), .int .i64 (1 + vl % 3), .int .i64 (vl % 100 - 5), .string ⟨#[116, 119, 111]⟩, .int .i64 2, .int .i64 2] 46)).cell (p := ⟨gS, kn, none⟩) (lt_of_cell hHeld.2.2.2.2.2)).trans hHeld.2.2.2.2.2)
          have HRN := hid (HRN.out.on (up_alloc wS (.cells #[.string (wordX kn), .int .i64 (1 + vl % 3), .int .i64 (vl % 100 - 5), .string ⟨#[116, 119, 111]⟩, .int .i64 2, .int .i64 2] 46)))
          refine hK.out _ _ hHeld (fun _ => ?_)
          clear hK K
          generalize wS.alloc (.cells #[.string (wordX kn), .int .i64 (1 + vl % 3), .int .i64 (vl % 100 - 5), .string ⟨#[116, 119, 111]⟩, .int .i64 2, .int .i64 2] 46) = wE at *
          obtain ⟨gE, hgE⟩ : ∃ gE, gE = wS.heap.size := ⟨_, rfl⟩
          rw [← hgE] at HOE ⊢
          clear hgE
          try simp only [Act.put, List.setIfInBounds_toArray, List.set_cons_zero, List.set_cons_succ]
          refine held_take (i := 24) (v := ?_) rfl (by kernel_rfl) (by kernel_rfl) (by kernel_rfl) (fun _ _ _ h => h) (by rfl) (fun W hW => ?_) hHeld ?_
          rotate_left
          · (obtain ⟨_, c1, c2, c3, c4, cx⟩ := hW; go_simp; try with_reducible rfl)
          try simp only [Act.put, List.setIfInBounds_toArray, List.set_cons_zero, List.set_cons_succ]
          refine wpAnyH_ready (rs := [25]) (by kernel_rfl) (by simp) ?_
          refine held_cons rfl (fun K hK => ?_) AllReadyH.nil
          go_simp
          have HLA := hid (cells_lit wE 44 [.string ⟨#[120]⟩, .int .i64 (-1), .int .i64 (d % 4), .slice (some ⟨gE, 0, none⟩) 2 2, .slice adu nu capu, .slice none 0 0] #[.string ⟨#[120]⟩, .int .i64 (-1), .int .i64 (d % 4), .slice (some ⟨gE, 0, none⟩) 2 2, .slice adu nu capu, .slice none 0 0] rfl wE.heap.size 1 6 rfl rfl (by intro u hu; simp at hu; rcases hu with rfl | rfl | rfl | rfl | rfl | rfl <;> rfl))
          have hHeld := hHeld.on (up_alloc wE (.cells #[.string ⟨#[120]⟩, .int .i64 (-1), .int .i64 (d % 4), .slice (some ⟨gE, 0, none⟩) 2 2, .slice adu nu capu, .slice none 0 0] 44)) (((up_alloc wE (.cells #[.string ⟨#[120]⟩, .int .i64 (-1), .int .i64 (d % 4), .slice (some ⟨gE, 0, none⟩) 2 2, .slice adu nu capu, .slice none 0 0] 44)).cell (p := ⟨gS, kn, none⟩) (lt_of_cell hHeld.2.2.2.2.2)).trans hHeld.2.2.2.2.2)
          have HRN := hid (HRN.out.on (up_alloc wE (.cells #[.string ⟨#[120]⟩, .int .i64 (-1), .int .i64 (d % 4), .slice (some ⟨gE, 0, none⟩) 2 2, .slice adu nu capu, .slice none 0 0] 44)))
          have HOE := hid (owns_below HOE.out (up_alloc wE (.cells #[.string ⟨#[120]⟩, .int .i64 (-1), .int .i64 (d % 4), .slice (some ⟨gE, 0, none⟩) 2 2, .slice adu nu capu, .slice none 0 0] 44)))
          refine hK.out _ _ hHeld (fun _ => ?_)
          clear hK K
          generalize wE.alloc (.cells #[.string ⟨#[120]⟩, .int .i64 (-1), .int .i64 (d % 4), .slice (some ⟨gE, 0, none⟩) 2 2, .slice adu nu capu, .slice none 0 0] 44) = wL at *
          obtain ⟨gL, hgL⟩ : ∃ gL, gL = wE.heap.size := ⟨_, rfl⟩
          rw [← hgL] at HLA ⊢
          clear hgL
          have HF := hid (HFIN.out wL gE adu nu capu hHeld.1 HRN.out HOE.out)
          try simp only [Act.put, List.setIfInBounds_toArray, List.set_cons_zero, List.set_cons_succ]
          refine wpAnyH_ready (rs := [26]) (by kernel_rfl) (by simp) ?_
          refine held_cons rfl (fun K hK => ?_) AllReadyH.nil
          refine step_append_full _ rfl (.tmp 11) (.tmp 36) 26 44 rfl (.agg #[.string ⟨#[]⟩, .int .i64 0, .int .i64 0, .slice none 0 0, .slice none 0 0, .slice none 0 0]) 6 104 Tryz.underlying26 info_Locale rfl (by decide) (by decide) w.heap.size gl 3 cs rfl (owns_below HO1.out hHeld.1) (.slice (some ⟨gL, 0, none⟩) 1 1) 1 [.string ⟨#[120]⟩, .int .i64 (-1), .int .i64 (d % 4), .slice (some ⟨gE, 0, none⟩) 2 2, .slice adu nu capu, .slice none 0 0] rfl HLA.out 4 rfl (by decide) (by decide) (Nat.le_trans hw1 hHeld.1.size) ?_
          intro capB wB h1 h2
          have HF := hid (HF.out capB wB h1 h2)
          have hHeld := hHeld.on h2 ((h2.cell (p := ⟨gS, kn, none⟩) (lt_of_cell hHeld.2.2.2.2.2)).trans hHeld.2.2.2.2.2)
          refine hK.out _ _ hHeld (fun _ => ?_)
          clear hK K h1 h2
          try simp only [Act.put, List.setIfInBounds_toArray, List.set_cons_zero, List.set_cons_succ]
          refine held_take (i := 27) (v := ?_) rfl (by kernel_rfl) (by kernel_rfl) (by kernel_rfl) (fun _ _ _ h => h) (by rfl) (fun W hW => ?_) hHeld ?_
          rotate_left
          · (obtain ⟨_, c1, c2, c3, c4, cx⟩ := hW; go_simp; try with_reducible rfl)
          try simp only [Act.put, List.setIfInBounds_toArray, List.set_cons_zero, List.set_cons_succ]
          refine wpAnyH_done (by kernel_rfl) ?_ _
          go_wp2
          go_ret
          exact HF.out
        refine held_cons rfl (fun K hK => ?_) AllReadyH.nil
        go_simp
        go_at_call 19
        refine (HW.out _ _ _ (by decide)).mono ?_
        rintro e wx ⟨rfl, hwx⟩
        rw [hwx]
        clear hwx wx
        refine hK.out _ _ hHeld (fun _ => ?_)
        clear hK K
        try simp only [Act.put, List.setIfInBounds_toArray, List.set_cons_zero, List.set_cons_succ]
        refine held_take (i := 16) (v := ?_) rfl (by kernel_rfl) (by kernel_rfl) (by kernel_rfl) (fun _ _ _ h => h) (by rfl) (fun W hW => ?_) hHeld ?_
        rotate_left
        · (obtain ⟨_, c1, c2, c3, c4, cx⟩ := hW; go_simp; try with_reducible rfl)
        try simp only [Act.put, List.setIfInBounds_toArray, List.set_cons_zero, List.set_cons_succ]
        refine wpAnyH_ready (rs := [7, 19]) (by kernel_rfl) (by simp) ?_
        refine held_cons rfl (fun K hK => ?_) ?_
        · skip
          go_simp
          have cS := HST.out wR
          have hHeld := hHeld.on (up_alloc wR (.cells #[.string ⟨#[111, 110, 101]⟩, .string ⟨#[120, 32, 121]⟩, .string ⟨#[195, 164]⟩, .string ⟨#[55, 117, 112]⟩, .string ⟨#[45]⟩] 9)) trivial
          have hHeld := hHeld.more (Y := fun W => W.cell? ⟨wR.heap.size, kn, none⟩ = some (.string (wordX kn))) cS
          refine hK.out _ _ (hHeld.less) (fun _ => ?_)
          clear hK K
          have HRN := hid (HRN.out.on (up_alloc wR (.cells #[.string ⟨#[111, 110, 101]⟩, .string ⟨#[120, 32, 121]⟩, .string ⟨#[195, 164]⟩, .string ⟨#[55, 117, 112]⟩, .string ⟨#[45]⟩] 9)))
          clear cS
          generalize wR.alloc (.cells #[.string ⟨#[111, 110, 101]⟩, .string ⟨#[120, 32, 121]⟩, .string ⟨#[195, 164]⟩, .string ⟨#[55, 117, 112]⟩, .string ⟨#[45]⟩] 9) = wS at *
          obtain ⟨gS, hgS⟩ : ∃ gS, gS = wR.heap.size := ⟨_, rfl⟩
          rw [← hgS] at hHeld ⊢
          clear hgS
          refine held_weaken (S' := HM w1 w.heap.size (.int .i64 d) (.int .i64 wd) (.int .i64 vl) (.slice adr nr capr) (fun W => W.cell? ⟨gS, kn, none⟩ = some (.string (wordX kn)))) (fun _ h => h.less) _ _ _ _ ?_
          try simp only [Act.put, List.setIfInBounds_toArray, List.set_cons_zero, List.set_cons_succ]
          refine held_take (i := 11) (v := ?_) rfl (by kernel_rfl) (by kernel_rfl) (by kernel_rfl) (fun _ _ _ h => h) (by rfl) (fun W hW => ?_) hHeld ?_
          rotate_left
          · (obtain ⟨_, c1, c2, c3, c4, cx⟩ := hW; go_simp; try with_reducible rfl)
          try simp only [Act.put, List.setIfInBounds_toArray, List.set_cons_zero, List.set_cons_succ]
          refine held_take (i := 12) (v := ?_) rfl (by kernel_rfl) (by kernel_rfl) (by kernel_rfl) (fun _ _ _ h => h) (by rfl) (fun W hW => ?_) hHeld ?_
          rotate_left
          · (obtain ⟨_, c1, c2, c3, c4, cx⟩ := hW; go_simp; try with_reducible rfl)
          try simp only [Act.put, List.setIfInBounds_toArray, List.set_cons_zero, List.set_cons_succ]
          refine wpAnyH_ready (rs := [19]) (by kernel_rfl) (by simp) ?_
          refine held_cons rfl (fun K hK => ?_) AllReadyH.nil
          go_simp
          go_at_call 19
          refine (HW.out _ _ _ (by decide)).mono ?_
          rintro e wx ⟨rfl, hwx⟩
          rw [hwx]
          clear hwx wx
          refine hK.out _ _ hHeld (fun _ => ?_)
          clear hK K
          try simp only [Act.put, List.setIfInBounds_toArray, List.set_cons_zero, List.set_cons_succ]
          refine held_take (i := 20) (v := ?_) rfl (by kernel_rfl) (by kernel_rfl) (by kernel_rfl) (fun _ _ _ h => h) (by rfl) (fun W hW => ?_) hHeld ?_
          rotate_left
          · (obtain ⟨_, c1, c2, c3, c4, cx⟩ := hW; go_simp; try with_reducible rfl)
          try simp only [Act.put, List.setIfInBounds_toArray, List.set_cons_zero, List.set_cons_succ]
          refine held_take (i := 21) (v := ?_) rfl (by kernel_rfl) (by kernel_rfl) (by kernel_rfl) (fun _ _ _ h => h) (by rfl) (fun W hW => ?_) hHeld ?_
          rotate_left
          · (obtain ⟨_, c1, c2, c3, c4, cx⟩ := hW; go_simp; try with_reducible rfl)
          try simp only [Act.put, List.setIfInBounds_toArray, List.set_cons_zero, List.set_cons_succ]
          refine wpAnyH_ready (rs := [23]) (by kernel_rfl) (by simp) ?_
          refine held_cons rfl (fun K hK => ?_) AllReadyH.nil
          go_simp
          have HOE := hid (own_lit wS 46 3 2 wS.heap.size #[.string (wordX kn), .int .i64 (1 + vl % 3), .int .i64 (vl % 100 - 5), .string ⟨#[116, 119, 111]⟩, .int .i64 2, .int .i64 2] [.string (wordX kn), .int .i64 (1 + vl % 3), .int .i64 (vl % 100 - 5), .string ⟨#[116, 119, 111]⟩, .int .i64 2, .int .i64 2] rfl rfl rfl (by decide))
          have hHeld := hHeld.on (up_alloc wS (.cells #[.string (wordX kn), .int .i64 (1 + vl % 3), .int .i64 (vl % 100 - 5), .string ⟨#[116, 119, 111]⟩, .int .i64 2, .int .i64 2] 46)) (((up_alloc wS (.cells #[.string (wordX kn), .int .i64 (1 + vl % 3), .int .i64 (vl % 100 - 5), .string ⟨#[116, 119, 111]⟩, .int .i64 2, .int .i64 2] 46)).cell (p := ⟨gS, kn, none⟩) (lt_of_cell hHeld.2.2.2.2.2)).trans hHeld.2.2.2.2.2)
          have HRN := hid (HRN.out.on (up_alloc wS (.cells #[.string (wordX kn), .int .i64 (1 + vl % 3), .int .i64 (vl % 100 - 5), .string ⟨#[116, 119, 111]⟩, .int .i64 2, .int .i64 2] 46)))
          refine hK.out _ _ hHeld (fun _ => ?_)
          clear hK K
          generalize wS.alloc (.cells #[.string (wordX kn), .int .i64 (1 + vl % 3), .int .i64 (vl % 100 - 5), .string ⟨#[116, 119, 111]⟩, .int .i64 2, .int .i64 2] 46) = wE at *
          obtain ⟨gE, hgE⟩ : ∃ gE, gE = wS.heap.size := ⟨_, rfl⟩
          rw [← hgE] at HOE ⊢
          clear hgE
          try simp only [Act.put, List.setIfInBounds_toArray, List.set_cons_zero, List.set_cons_succ]
          refine held_take (i := 24) (v := ?_) rfl (by kernel_rfl) (by kernel_rfl) (by kernel_rfl) (fun _ _ _ h => h) (by rfl) (fun W hW => ?_) hHeld ?_
          rotate_left
          · (obtain ⟨_, c1, c2, c3, c4, cx⟩ := hW; go_simp; try with_reducible rfl)
          try simp only [Act.put, List.setIfInBounds_toArray, List.set_cons_zero, List.set_cons_succ]
          refine wpAnyH_ready (rs := [25]) (by kernel_rfl) (by simp) ?_
          refine held_cons rfl (fun K hK => ?_) AllReadyH.nil
          go_simp
          have HLA := hid (cells_lit wE 44 [.string ⟨#[120]⟩, .int .i64 (-1), .int .i64 (d % 4), .slice (some ⟨gE, 0, none⟩) 2 2, .slice adu nu capu, .slice none 0 0] #[.string ⟨#[120]⟩, .int .i64 (-1), .int .i64 (d % 4), .slice (some ⟨gE, 0, none⟩) 2 2, .slice adu nu capu, .slice none 0 0] rfl wE.heap.size 1 6 rfl rfl (by intro u hu; simp at hu; rcases hu with rfl | rfl | rfl | rfl | rfl | rfl <;> rfl))
          have hHeld := hHeld.on (up_alloc wE (.cells #[.string ⟨#[120]⟩, .int .i64 (-1), .int .i64 (d % 4), .slice (some ⟨gE, 0, none⟩) 2 2, .slice adu nu capu, .slice none 0 0] 44)) (((up_alloc wE (.cells #[.string ⟨#[120]⟩, .int .i64 (-1), .int .i64 (d % 4), .slice (some ⟨gE, 0, none⟩) 2 2, .slice adu nu capu, .slice none 0 0] 44)).cell (p := ⟨gS, kn, none⟩) (lt_of_cell hHeld.2.2.2.2.2)).trans hHeld.2.2.2.2.2)
          have HRN := hid (HRN.out.on (up_alloc wE (.cells #[.string ⟨#[120]⟩, .int .i64 (-1), .int .i64 (d % 4), .slice (some ⟨gE, 0, none⟩) 2 2, .slice adu nu capu, .slice none 0 0] 44)))
          have HOE := hid (owns_below HOE.out (up_alloc wE (.cells #[.string ⟨#[120]⟩, .int .i64 (-1), .int .i64 (d % 4), .slice (some ⟨gE, 0, none⟩) 2 2, .slice adu nu capu, .slice none 0 0] 44)))
          refine hK.out _ _ hHeld (fun _ => ?_)
          clear hK K
          generalize wE.alloc (.cells #[.string ⟨#[120]⟩, .int .i64 (-1), .int .i64 (d % 4), .slice (some ⟨gE, 0, none⟩) 2 2, .slice adu nu capu, .slice none 0 0] 44) = wL at *
          obtain ⟨gL, hgL⟩ : ∃ gL, gL = wE.heap.size := ⟨_, rfl⟩
          rw [← hgL] at HLA ⊢
          clear hgL
          have HF := hid (HFIN.out wL gE adu nu capu hHeld.1 HRN.out HOE.out)
          try simp only [Act.put, List.setIfInBounds_toArray, List.set_cons_zero, List.set_cons_succ]
          refine wpAnyH_ready (rs := [26]) (by kernel_rfl) (by simp) ?_
          refine held_cons rfl (fun K hK => ?_) AllReadyH.nil
          refine step_append_full _ rfl (.tmp 11) (.tmp 36) 26 44 rfl (.agg #[.string ⟨#[]⟩, .int .i64 0, .int .i64 0, .slice none 0 0, .slice none 0 0, .slice none 0 0]) 6 104 Tryz.underlying26 info_Locale rfl (by decide) (by decide) w.heap.size gl 3 cs rfl (owns_below HO1.out hHeld.1) (.slice (some ⟨gL, 0, none⟩) 1 1) 1 [.string ⟨#[120]⟩, .int .i64 (-1), .int .i64 (d % 4), .slice (some ⟨gE, 0, none⟩) 2 2, .slice adu nu capu, .slice none 0 0] rfl HLA.out 4 rfl (by decide) (by decide) (Nat.le_trans hw1 hHeld.1.size) ?_
          intro capB wB h1 h2
          have HF := hid (HF.out capB wB h1 h2)
          have hHeld := hHeld.on h2 ((h2.cell (p := ⟨gS, kn, none⟩) (lt_of_cell hHeld.2.2.2.2.2)).trans hHeld.2.2.2.2.2)
          refine hK.out _ _ hHeld (fun _ => ?_)
          clear hK K h1 h2
          try simp only [Act.put, List.setIfInBounds_toArray, List.set_cons_zero, List.set_cons_succ]
          refine held_take (i := 27) (v := ?_) rfl (by kernel_rfl) (by kernel_rfl) (by kernel_rfl) (fun _ _ _ h => h) (by rfl) (fun W hW => ?_) hHeld ?_
          rotate_left
          · (obtain ⟨_, c1, c2, c3, c4, cx⟩ := hW; go_simp; try with_reducible rfl)
          try simp only [Act.put, List.setIfInBounds_toArray, List.set_cons_zero, List.set_cons_succ]
          refine wpAnyH_done (by kernel_rfl) ?_ _
          go_wp2
          go_ret
          exact HF.out
        refine held_cons rfl (fun K hK => ?_) AllReadyH.nil
        go_simp
        go_at_call 19
        refine (HW.out _ _ _ (by decide)).mono ?_
        rintro e wx ⟨rfl, hwx⟩
        rw [hwx]
        clear hwx wx
        refine hK.out _ _ hHeld (fun _ => ?_)
        clear hK K
        try simp only [Act.put, List.setIfInBounds_toArray, List.set_cons_zero, List.set_cons_succ]
        refine held_take (i := 20) (v := ?_) rfl (by kernel_rfl) (by kernel_rfl) (by kernel_rfl) (fun _ _ _ h => h) (by rfl) (fun W hW => ?_) hHeld ?_
        rotate_left
        · (obtain ⟨_, c1, c2, c3, c4, cx⟩ := hW; go_simp; try with_reducible rfl)
        try simp only [Act.put, List.setIfInBounds_toArray, List.set_cons_zero, List.set_cons_succ]
        refine wpAnyH_ready (rs := [7]) (by kernel_rfl) (by simp) ?_
        refine held_cons rfl (fun K hK => ?_) AllReadyH.nil
        go_simp
        have cS := HST.out wR
        have hHeld := hHeld.on (up_alloc wR (.cells #[.string ⟨#[111, 110, 101]⟩, .string ⟨#[120, 32, 121]⟩, .string ⟨#[195, 164]⟩, .string ⟨#[55, 117, 112]⟩, .string ⟨#[45]⟩] 9)) trivial
        have hHeld := hHeld.more (Y := fun W => W.cell? ⟨wR.heap.size, kn, none⟩ = some (.string (wordX kn))) cS
        refine hK.out _ _ (hHeld.less) (fun _ => ?_)
        clear hK K
        have HRN := hid (HRN.out.on (up_alloc wR (.cells #[.string ⟨#[111, 110, 101]⟩, .string ⟨#[120, 32, 121]⟩, .string ⟨#[195, 164]⟩, .string ⟨#[55, 117, 112]⟩, .string ⟨#[45]⟩] 9)))
        clear cS
        generalize wR.alloc (.cells #[.string ⟨#[111, 110, 101]⟩, .string ⟨#[120, 32, 121]⟩, .string ⟨#[195, 164]⟩, .string ⟨#[55, 117, 112]⟩, .string ⟨#[45]⟩] 9) = wS at *
        obtain ⟨gS, hgS⟩ : ∃ gS, gS = wR.heap.size := ⟨_, rfl⟩
        rw [← hgS] at hHeld ⊢
        clear hgS
        refine held_weaken (S' := HM w1 w.heap.size (.int .i64 d) (.int .i64 wd) (.int .i64 vl) (.slice adr nr capr) (fun W => W.cell? ⟨gS, kn, none⟩ = some (.string (wordX kn)))) (fun _ h => h.less) _ _ _ _ ?_
        try simp only [Act.put, List.setIfInBounds_toArray, List.set_cons_zero, List.set_cons_succ]
        refine held_take (i := 11) (v := ?_) rfl (by kernel_rfl) (by kernel_rfl) (by kernel_rfl) (fun _ _ _ h => h) (by rfl) (fun W hW => ?_) hHeld ?_
        rotate_left
        · (obtain ⟨_, c1, c2, c3, c4, cx⟩ := hW; go_simp; try with_reducible rfl)
        try simp only [Act.put, List.setIfInBounds_toArray, List.set_cons_zero, List.set_cons_succ]
        refine held_take (i := 12) (v := ?_) rfl (by kernel_rfl) (by kernel_rfl) (by kernel_rfl) (fun _ _ _ h => h) (by rfl) (fun W hW => ?_) hHeld ?_
        rotate_left
        · (obtain ⟨_, c1, c2, c3, c4, cx⟩ := hW; go_simp; try with_reducible rfl)
        try simp only [Act.put, List.setIfInBounds_toArray, List.set_cons_zero, List.set_cons_succ]
        refine held_take (i := 21) (v := ?_) rfl (by kernel_rfl) (by kernel_rfl) (by kernel_rfl) (fun _ _ _ h => h) (by rfl) (fun W hW => ?_) hHeld ?_
        rotate_left
        · (obtain ⟨_, c1, c2, c3, c4, cx⟩ := hW; go_simp; try with_reducible rfl)
        try simp only [Act.put, List.setIfInBounds_toArray, List.set_cons_zero, List.set_cons_succ]
        refine wpAnyH_ready (rs := [23]) (by kernel_rfl) (by simp) ?_
        refine held_cons rfl (fun K hK => ?_) AllReadyH.nil
        go_simp
        have HOE := hid (own_lit wS 46 3 2 wS.heap.size #[.string (wordX kn), .int .i64 (1 + vl % 3), .int .i64 (vl % 100 - 5), .string ⟨#[116, 119, 111]⟩, .int .i64 2, .int .i64 2] [.string (wordX kn), .int .i64 (1 + vl % 3), .int .i64 (vl % 100 - 5), .string ⟨#[116, 119, 111]⟩, .int .i64 2, .int .i64 2] rfl rfl rfl (by decide))
        have hHeld := hHeld.on (up_alloc wS (.cells #[.string (wordX kn), .int .i64 (1 + vl % 3), .int .i64 (vl % 100 - 5), .string ⟨#[116, 119, 111]⟩, .int .i64 2, .int .i64 2] 46)) (((up_alloc wS (.cells #[.string (wordX kn), .int .i64 (1 + vl % 3), .int .i64 (vl % 100 - 5), .string ⟨#[116, 119, 111]⟩, .int .i64 2, .int .i64 2] 46)).cell (p := ⟨gS, kn, none⟩) (lt_of_cell hHeld.2.2.2.2.2)).trans hHeld.2.2.2.2.2)
        have HRN := hid (HRN.out.on (up_alloc wS (.cells #[.string (wordX kn), .int .i64 (1 + vl % 3), .int .i64 (vl % 100 - 5), .string ⟨#[116, 119, 111]⟩, .int .i64 2, .int .i64 2] 46)))
        refine hK.out _ _ hHeld (fun _ => ?_)
        clear hK K
        generalize wS.alloc (.cells #[.string (wordX kn), .int .i64 (1 + vl % 3), .int .i64 (vl % 100 - 5), .string ⟨#[116, 119, 111]⟩, .int .i64 2, .int .i64 2] 46) = wE at *
        obtain ⟨gE, hgE⟩ : ∃ gE, gE = wS.heap.size := ⟨_, rfl⟩
        rw [← hgE] at HOE ⊢
        clear hgE
        try simp only [Act.put, List.setIfInBounds_toArray, List.set_cons_zero, List.set_cons_succ]
        refine held_take (i := 24) (v := ?_) rfl (by kernel_rfl) (by kernel_rfl) (by kernel_rfl) (fun _ _ _ h => h) (by rfl) (fun W hW => ?_) hHeld ?_
        rotate_left
        · (obtain ⟨_, c1, c2, c3, c4, cx⟩ := hW; go_simp; try with_reducible rfl)
        try simp only [Act.put, List.setIfInBounds_toArray, List.set_cons_zero, List.set_cons_succ]
        refine wpAnyH_ready (rs := [25]) (by kernel_rfl) (by simp) ?_
        refine held_cons rfl (fun K hK => ?_) AllReadyH.nil
        go_simp
        have HLA := hid (cells_lit wE 44 [.string ⟨#[120]⟩, .int .i64 (-1), .int .i64 (d % 4), .slice (some ⟨gE, 0, none⟩) 2 2, .slice adu nu capu, .slice none 0 0] #[.string ⟨#[120]⟩, .int .i64 (-1), .int .i64 (d % 4), .slice (some ⟨gE, 0, none⟩) 2 2, .slice adu nu capu, .slice none 0 0] rfl wE.heap.size 1 6 rfl rfl (by intro u hu; simp at hu; rcases hu with rfl | rfl | rfl | rfl | rfl | rfl <;> rfl))
        have hHeld := hHeld.on (up_alloc wE (.cells #[.string ⟨#[120]⟩, .int .i64 (-1), .int .i64 (d % 4), .slice (some ⟨gE, 0, none⟩) 2 2, .slice adu nu capu, .slice none 0 0] 44)) (((up_alloc wE (.cells #[.string ⟨#[120]⟩, .int .i64 (-1), .int .i64 (d % 4), .slice (some ⟨gE, 0, none⟩) 2 2, .slice adu nu capu, .slice none 0 0] 44)).cell (p := ⟨gS, kn, none⟩) (lt_of_cell hHeld.2.2.2.2.2)).trans hHeld.2.2.2.2.2)
        have HRN := hid (HRN.out.on (up_alloc wE (.cells #[.string ⟨#[120]⟩, .int .i64 (-1), .int .i64 (d % 4), .slice (some ⟨gE, 0, none⟩) 2 2, .slice adu nu capu, .slice none 0 0] 44)))
        have HOE := hid (owns_below HOE.out (up_alloc wE (.cells #[.string ⟨#[120]⟩, .int .i64 (-1), .int .i64 (d % 4), .slice (some ⟨gE, 0, none⟩) 2 2, .slice adu nu capu, .slice none 0 0] 44)))
        refine hK.out _ _ hHeld (fun _ => ?_)
        clear hK K
        generalize wE.alloc (.cells #[.string ⟨#[120]⟩, .int .i64 (-1), .int .i64 (d % 4), .slice (some ⟨gE, 0, none⟩) 2 2, .slice adu nu capu, .slice none 0 0] 44) = wL at *
        obtain ⟨gL, hgL⟩ : ∃ gL, gL = wE.heap.size := ⟨_, rfl⟩
        rw [← hgL] at HLA ⊢
        clear hgL
        have HF := hid (HFIN.out wL gE adu nu capu hHeld.1 HRN.out HOE.out)
        try simp only [Act.put, List.setIfInBounds_toArray, List.set_cons_zero, List.set_cons_succ]
        refine wpAnyH_ready (rs := [26]) (by kernel_rfl) (by simp) ?_
        refine held_cons rfl (fun K hK => ?_) AllReadyH.nil
        refine step_append_full _ rfl (.tmp 11) (.tmp 36) 26 44 rfl (.agg #[.string ⟨#[]⟩, .int .i64 0, .int .i64 0, .slice none 0 0, .slice none 0 0, .slice none 0 0]) 6 104 Tryz.underlying26 info_Locale rfl (by decide) (by decide) w.heap.size gl 3 cs rfl (owns_below HO1.out hHeld.1) (.slice (some ⟨gL, 0, none⟩) 1 1) 1 [.string ⟨#[120]⟩, .int .i64 (-1), .int .i64 (d % 4), .slice (some ⟨gE, 0, none⟩) 2 2, .slice adu nu capu, .slice none 0 0] rfl HLA.out 4 rfl (by decide) (by decide) (Nat.le_trans hw1 hHeld.1.size) ?_
        intro capB wB h1 h2
        have HF := hid (HF.out capB wB h1 h2)
        have hHeld := hHeld.on h2 ((h2.cell (p := ⟨gS, kn, none⟩) (lt_of_cell hHeld.2.2.2.2.2)).trans hHeld.2.2.2.2.2)
        refine hK.out _ _ hHeld (fun _ => ?_)
        clear hK K h1 h2
        try simp only [Act.put, List.setIfInBounds_toArray, List.set_cons_zero, List.set_cons_succ]
        refine held_take (i := 27) (v := ?_) rfl (by kernel_rfl) (by kernel_rfl) (by kernel_rfl) (fun _ _ _ h => h) (by rfl) (fun W hW => ?_) hHeld ?_
        rotate_left
        · (obtain ⟨_, c1, c2, c3, c4, cx⟩ := hW; go_simp; try with_reducible rfl)
        try simp only [Act.put, List.setIfInBounds_toArray, List.set_cons_zero, List.set_cons_succ]
        refine wpAnyH_done (by kernel_rfl) ?_ _
        go_wp2
        go_ret
        exact HF.out
      refine held_cons rfl (fun K hK => ?_) AllReadyH.nil
      go_simp
      have cS := HST.out w0
      have hHeld := hHeld.on (up_alloc w0 (.cells #[.string ⟨#[111, 110, 101]⟩, .string ⟨#[120, 32, 121]⟩, .string ⟨#[195, 164]⟩, .string ⟨#[55, 117, 112]⟩, .string ⟨#[45]⟩] 9)) trivial
      have hHeld := hHeld.more (Y := fun W => W.cell? ⟨w0.heap.size, kn, none⟩ = some (.string (wordX kn))) cS
      refine hK.out _ _ (hHeld.less) (fun _ => ?_)
      clear hK K
      clear cS
      generalize w0.alloc (.cells #[.string ⟨#[111, 110, 101]⟩, .string ⟨#[120, 32, 121]⟩, .string ⟨#[195, 164]⟩, .string ⟨#[55, 117, 112]⟩, .string ⟨#[45]⟩] 9) = wS at *
      obtain ⟨gS, hgS⟩ : ∃ gS, gS = w0.heap.size := ⟨_, rfl⟩
      rw [← hgS] at hHeld ⊢
      clear hgS
      refine held_weaken (S' := HM w1 w.heap.size (.int .i64 d) (.int .i64 wd) (.int .i64 vl) (.slice adr nr capr) (fun W => W.cell? ⟨gS, kn, none⟩ = some (.string (wordX kn)))) (fun _ h => h.less) _ _ _ _ ?_
      try simp only [Act.put, List.setIfInBounds_toArray, List.set_cons_zero, List.set_cons_succ]
      refine wpAnyH_ready (rs := [6]) (by kernel_rfl) (by simp) ?_
      refine held_cons rfl (fun K hK => ?_) AllReadyH.nil
      go_simp
      go_at_call 32
      refine (HRL.out _ hHeld.1).mono ?_
      rintro e wR ⟨adu, nu, capu, rfl, hRN, ba⟩
      have HRN := hid hRN
      clear hRN
      have hHeld := hHeld.on ba ((ba.cell (p := ⟨gS, kn, none⟩) (lt_of_cell hHeld.2.2.2.2.2)).trans hHeld.2.2.2.2.2)
      refine hK.out _ _ hHeld (fun _ => ?_)
      clear hK K ba
      try simp only [Act.put, List.setIfInBounds_toArray, List.set_cons_zero, List.set_cons_succ]
      refine wpAnyH_ready (rs := [10]) (by kernel_rfl) (by simp) ?_
      refine held_cons rfl (fun K hK => ?_) AllReadyH.nil
      go_simp
      go_at_call 19
      refine (HW.out _ _ _ (by decide)).mono ?_
      rintro e wx ⟨rfl, hwx⟩
      rw [hwx]
      clear hwx wx
      rw [hkn]
      refine hK.out _ _ hHeld (fun _ => ?_)
      clear hK K
      try simp only [Act.put, List.setIfInBounds_toArray, List.set_cons_zero, List.set_cons_succ]
      refine held_take (i := 11) (v := ?_) rfl (by kernel_rfl) (by kernel_rfl) (by kernel_rfl) (fun _ _ _ h => h) (by rfl) (fun W hW => ?_) hHeld ?_
      rotate_left
      · (obtain ⟨_, c1, c2, c3, c4, cx⟩ := hW; go_simp; try with_reducible rfl)
      try simp only [Act.put, List.setIfInBounds_toArray, List.set_cons_zero, List.set_cons_succ]
      refine held_take (i := 12) (v := ?_) rfl (by kernel_rfl) (by kernel_rfl) (by kernel_rfl) (fun _ _ _ h => h) (by rfl) (fun W hW => ?_) hHeld ?_
      rotate_left
      · (obtain ⟨_, c1, c2, c3, c4, cx⟩ := hW; go_simp; try with_reducible rfl)
      try simp only [Act.put, List.setIfInBounds_toArray, List.set_cons_zero, List.set_cons_succ]
      refine wpAnyH_ready (rs := [15]) (by kernel_rfl) (by simp) ?_
      refine held_cons rfl (fun K hK => ?_) AllReadyH.nil
      go_simp
      go_at_call 19
      refine (HW.out _ _ _ (by decide)).mono ?_
      rintro e wx ⟨rfl, hwx⟩
      rw [hwx]
      clear hwx wx
      refine hK.out _ _ hHeld (fun _ => ?_)
      clear hK K
      try simp only [Act.put, List.setIfInBounds_toArray, List.set_cons_zero, List.set_cons_succ]
      refine held_take (i := 16) (v := ?_) rfl (by kernel_rfl) (by kernel_rfl) (by kernel_rfl) (fun _ _ _ h => h) (by rfl) (fun W hW => ?_) hHeld ?_
      rotate_left
      · (obtain ⟨_, c1, c2, c3, c4, cx⟩ := hW; go_simp; try with_reducible rfl)
      try simp only [Act.put, List.setIfInBounds_toArray, List.set_cons_zero, List.set_cons_succ]
      refine wpAnyH_ready (rs := [19]) (by kernel_rfl) (by simp) ?_
      refine held_cons rfl (fun K hK => ?_) AllReadyH.nil
      go_simp
      go_at_call 19
      refine (HW.out _ _ _ (by decide)).mono ?_
      rintro e wx ⟨rfl, hwx⟩
      rw [hwx]
      clear hwx wx
      refine hK.out _ _ hHeld (fun _ => ?_)
      clear hK K
      try simp only [Act.put, List.setIfInBounds_toArray, List.set_cons_zero, List.set_cons_succ]
      refine held_take (i := 20) (v := ?_) rfl (by kernel_rfl) (by kernel_rfl) (by kernel_rfl) (fun _ _ _ h => h) (by rfl) (fun W hW => ?_) hHeld ?_
      rotate_left
      · (obtain ⟨_, c1, c2, c3, c4, cx⟩ := hW; go_simp; try with_reducible rfl)
      try simp only [Act.put, List.setIfInBounds_toArray, List.set_cons_zero, List.set_cons_succ]
      refine held_take (i := 21) (v := ?_) rfl (by kernel_rfl) (by kernel_rfl) (by kernel_rfl) (fun _ _ _ h => h) (by rfl) (fun W hW => ?_) hHeld ?_
      rotate_left
      · (obtain ⟨_, c1, c2, c3, c4, cx⟩ := hW; go_simp; try with_reducible rfl)
      try simp only [Act.put, List.setIfInBounds_toArray, List.set_cons_zero, List.set_cons_succ]
      refine wpAnyH_ready (rs := [23]) (by kernel_rfl) (by simp) ?_
      refine held_cons rfl (fun K hK => ?_) AllReadyH.nil
      go_simp
      have HOE := hid (own_lit wR 46 3 2 wR.heap.size #[.string (wordX kn), .int .i64 (1 + vl % 3), .int .i64 (vl % 100 - 5), .string ⟨#[116, 119, 111]⟩, .int .i64 2, .int .i64 2] [.string (wordX kn), .int .i64 (1 + vl % 3), .int .i64 (vl % 100 - 5), .string ⟨#[116, 119, 111]⟩, .int .i64 2, .int .i64 2] rfl rfl rfl (by decide))
      have hHeld := hHeld.on (up_alloc wR (.cells #[.string (wordX kn), .int .i64 (1 + vl % 3), .int .i64 (vl % 100 - 5), .string ⟨#[116, 119, 111]⟩, .int .i64 2, .int .i64 2] 46)) (((up_alloc wR (.cells #[.string (wordX kn), .int .i64 (1 + vl % 3), .int .i64 (vl % 100 - 5), .string ⟨#[116, 119, 111]⟩, .int .i64 2, .int .i64 2] 46)).cell (p := ⟨gS, kn, none⟩) (lt_of_cell hHeld.2.2.2.2.2)).trans hHeld.2.2.2.2.2)
      have HRN := hid (HRN.out.on (up_alloc wR (.cells #[.string (wordX kn), .int .i64 (1 + vl % 3), .int .i64 (vl % 100 - 5), .string ⟨#[116, 119, 111]⟩, .int .i64 2, .int .i64 2] 46)))
      refine hK.out _ _ hHeld (fun _ => ?_)
      clear hK K
      generalize wR.alloc (.cells #[.string (wordX kn), .int .i64 (1 + vl % 3), .int .i64 (vl % 100 - 5), .string ⟨#[116, 119, 111]⟩, .int .i64 2, .int .i64 2] 46) = wE at *
      obtain ⟨gE, hgE⟩ : ∃ gE, gE = wR.heap.size := ⟨_, rfl⟩
      rw [← hgE] at HOE ⊢
      clear hgE
      try simp only [Act.put, List.setIfInBounds_toArray, List.set_cons_zero, List.set_cons_succ]
      refine held_take (i := 24) (v := ?_) rfl (by kernel_rfl) (by kernel_rfl) (by kernel_rfl) (fun _ _ _ h => h) (by rfl) (fun W hW => ?_) hHeld ?_
      rotate_left
      · (obtain ⟨_, c1, c2, c3, c4, cx⟩ := hW; go_simp; try with_reducible rfl)
      try simp only [Act.put, List.setIfInBounds_toArray, List.set_cons_zero, List.set_cons_succ]
      refine wpAnyH_ready (rs := [25]) (by kernel_rfl) (by simp) ?_
      refine held_cons rfl (fun K hK => ?_) AllReadyH.nil
      go_simp
      have HLA := hid (cells_lit wE 44 [.string ⟨#[120]⟩, .int .i64 (-1), .int .i64 (d % 4), .slice (some ⟨gE, 0, none⟩) 2 2, .slice adu nu capu, .slice none 0 0] #[.string ⟨#[120]⟩, .int .i64 (-1), .int .i64 (d % 4), .slice (some ⟨gE, 0, none⟩) 2 2, .slice adu nu capu, .slice none 0 0] rfl wE.heap.size 1 6 rfl rfl (by intro u hu; simp at hu; rcases hu with rfl | rfl | rfl | rfl | rfl | rfl <;> rfl))
      have hHeld := hHeld.on (up_alloc wE (.cells #[.string ⟨#[120]⟩, .int .i64 (-1), .int .i64 (d % 4), .slice (some ⟨gE, 0, none⟩) 2 2, .slice adu nu capu, .slice none 0 0] 44)) (((up_alloc wE (.cells #[.string ⟨#[120]⟩, .int .i64 (-1), .int .i64 (d % 4), .slice (some ⟨gE, 0, none⟩) 2 2, .slice adu nu capu, .slice none 0 0] 44)).cell (p := ⟨gS, kn, none⟩) (lt_of_cell hHeld.2.2.2.2.2)).trans hHeld.2.2.2.2.2)
      have HRN := hid (HRN.out.on (up_alloc wE (.cells #[.string ⟨#[120]⟩, .int .i64 (-1), .int .i64 (d % 4), .slice (some ⟨gE, 0, none⟩) 2 2, .slice adu nu capu, .slice none 0 0] 44)))
      have HOE := hid (owns_below HOE.out (up_alloc wE (.cells #[.string ⟨#[120]⟩, .int .i64 (-1), .int .i64 (d % 4), .slice (some ⟨gE, 0, none⟩) 2 2, .slice adu nu capu, .slice none 0 0] 44)))
      refine hK.out _ _ hHeld (fun _ => ?_)
      clear hK K
      generalize wE.alloc (.cells #[.string ⟨#[120]⟩, .int .i64 (-1), .int .i64 (d % 4), .slice (some ⟨gE, 0, none⟩) 2 2, .slice adu nu capu, .slice none 0 0] 44) = wL at *
      obtain ⟨gL, hgL⟩ : ∃ gL, gL = wE.heap.size := ⟨_, rfl⟩
      rw [← hgL] at HLA ⊢
      clear hgL
      have HF := hid (HFIN.out wL gE adu nu capu hHeld.1 HRN.out HOE.out)
      try simp only [Act.put, List.setIfInBounds_toArray, List.set_cons_zero, List.set_cons_succ]
      refine wpAnyH_ready (rs := [26]) (by kernel_rfl) (by simp) ?_
      refine held_cons rfl (fun K hK => ?_) AllReadyH.nil
      refine step_append_full _ rfl (.tmp 11) (.tmp 36) 26 44 rfl (.agg #[.string ⟨#[]⟩, .int .i64 0, .int .i64 0, .slice none 0 0, .slice none 0 0, .slice none 0 0]) 6 104 Tryz.underlying26 info_Locale rfl (by decide) (by decide) w.heap.size gl 3 cs rfl (owns_below HO1.out hHeld.1) (.slice (some ⟨gL, 0, none⟩) 1 1) 1 [.string ⟨#[120]⟩, .int .i64 (-1), .int .i64 (d % 4), .slice (some ⟨gE, 0, none⟩) 2 2, .slice adu nu capu, .slice none 0 0] rfl HLA.out 4 rfl (by decide) (by decide) (Nat.le_trans hw1 hHeld.1.size) ?_
      intro capB wB h1 h2
      have HF := hid (HF.out capB wB h1 h2)
      have hHeld := hHeld.on h2 ((h2.cell (p := ⟨gS, kn, none⟩) (lt_of_cell hHeld.2.2.2.2.2)).trans hHeld.2.2.2.2.2)
      refine hK.out _ _ hHeld (fun _ => ?_)
      clear hK K h1 h2
      try simp only [Act.put, List.setIfInBounds_toArray, List.set_cons_zero, List.set_cons_succ]
      refine held_take (i := 27) (v := ?_) rfl (by kernel_rfl) (by kernel_rfl) (by kernel_rfl) (fun _ _ _ h => h) (by rfl) (fun W hW => ?_) hHeld ?_
      rotate_left
      · (obtain ⟨_, c1, c2, c3, c4, cx⟩ := hW; go_simp; try with_reducible rfl)
      try simp only [Act.put, List.setIfInBounds_toArray, List.set_cons_zero, List.set_cons_succ]
      refine wpAnyH_done (by kernel_rfl) ?_ _
      go_wp2
      go_ret
      exact HF.out
    refine held_cons rfl (fun K hK => ?_) AllReadyH.nil
    go_simp
    have cS := HST.out w0
    have hHeld := hHeld.on (up_alloc w0 (.cells #[.string ⟨#[111, 110, 101]⟩, .string ⟨#[120, 32, 121]⟩, .string ⟨#[195, 164]⟩, .string ⟨#[55, 117, 112]⟩, .string ⟨#[45]⟩] 9)) trivial
    have hHeld := hHeld.more (Y := fun W => W.cell? ⟨w0.heap.size, kn, none⟩ = some (.string (wordX kn))) cS
    refine hK.out _ _ (hHeld.less) (fun _ => ?_)
    clear hK K
    clear cS
    generalize w0.alloc (.cells #[.string ⟨#[111, 110, 101]⟩, .string ⟨#[120, 32, 121]⟩, .string ⟨#[195, 164]⟩, .string ⟨#[55, 117, 112]⟩, .string ⟨#[45]⟩] 9) = wS at *
    obtain ⟨gS, hgS⟩ : ∃ gS, gS = w0.heap.size := ⟨_, rfl⟩
    rw [← hgS] at hHeld ⊢
    clear hgS
    refine held_weaken (S' := HM w1 w.heap.size (.int .i64 d) (.int .i64 wd) (.int .i64 vl) (.slice adr nr capr) (fun W => W.cell? ⟨gS, kn, none⟩ = some (.string (wordX kn)))) (fun _ h => h.less) _ _ _ _ ?_
    try simp only [Act.put, List.setIfInBounds_toArray, List.set_cons_zero, List.set_cons_succ]
    refine wpAnyH_ready (rs := [3]) (by kernel_rfl) (by simp) ?_
    refine held_cons rfl (fun K hK => ?_) AllReadyH.nil
    go_simp
    go_at_call 19
    refine (HW.out _ _ _ (by decide)).mono ?_
    rintro e wx ⟨rfl, hwx⟩
    rw [hwx]
    clear hwx wx
    refine hK.out _ _ hHeld (fun _ => ?_)
    clear hK K
    try simp only [Act.put, List.setIfInBounds_toArray, List.set_cons_zero, List.set_cons_succ]
    refine wpAnyH_ready (rs := [6]) (by kernel_rfl) (by simp) ?_
    refine held_cons rfl (fun K hK => ?_) AllReadyH.nil
    go_simp
    go_at_call 32
    refine (HRL.out _ hHeld.1).mono ?_
    rintro e wR ⟨adu, nu, capu, rfl, hRN, ba⟩
    have HRN := hid hRN
    clear hRN
    have hHeld := hHeld.on ba ((ba.cell (p := ⟨gS, kn, none⟩) (lt_of_cell hHeld.2.2.2.2.2)).trans hHeld.2.2.2.2.2)
    refine hK.out _ _ hHeld (fun _ => ?_)
    clear hK K ba
    try simp only [Act.put, List.setIfInBounds_toArray, List.set_cons_zero, List.set_cons_succ]
    refine wpAnyH_ready (rs := [10]) (by kernel_rfl) (by simp) ?_
    refine held_cons rfl (fun K hK => ?_) AllReadyH.nil
    go_simp
    go_at_call 19
    refine (HW.out _ _ _ (by decide)).mono ?_
    rintro e wx ⟨rfl, hwx⟩
    rw [hwx]
    clear hwx wx
    rw [hkn]
    refine hK.out _ _ hHeld (fun _ => ?_)
    clear hK K
    try simp only [Act.put, List.setIfInBounds_toArray, List.set_cons_zero, List.set_cons_succ]
    refine held_take (i := 11) (v := ?_) rfl (by kernel_rfl) (by kernel_rfl) (by kernel_rfl) (fun _ _ _ h => h) (by rfl) (fun W hW => ?_) hHeld ?_
    rotate_left
    · (obtain ⟨_, c1, c2, c3, c4, cx⟩ := hW; go_simp; try with_reducible rfl)
    try simp only [Act.put, List.setIfInBounds_toArray, List.set_cons_zero, List.set_cons_succ]
    refine held_take (i := 12) (v := ?_) rfl (by kernel_rfl) (by kernel_rfl) (by kernel_rfl) (fun _ _ _ h => h) (by rfl) (fun W hW => ?_) hHeld ?_
    rotate_left
    · (obtain ⟨_, c1, c2, c3, c4, cx⟩ := hW; go_simp; try with_reducible rfl)
    try simp only [Act.put, List.setIfInBounds_toArray, List.set_cons_zero, List.set_cons_succ]
    refine wpAnyH_ready (rs := [15]) (by kernel_rfl) (by simp) ?_
    refine held_cons rfl (fun K hK => ?_) AllReadyH.nil
    go_simp
    go_at_call 19
    refine (HW.out _ _ _ (by decide)).mono ?_
    rintro e wx ⟨rfl, hwx⟩
    rw [hwx]
    clear hwx wx
    refine hK.out _ _ hHeld (fun _ => ?_)
    clear hK K
    try simp only [Act.put, List.setIfInBounds_toArray, List.set_cons_zero, List.set_cons_succ]
    refine held_take (i := 16) (v := ?_) rfl (by kernel_rfl) (by kernel_rfl) (by kernel_rfl) (fun _ _ _ h => h) (by rfl) (fun W hW => ?_) hHeld ?_
    rotate_left
    · (obtain ⟨_, c1, c2, c3, c4, cx⟩ := hW; go_simp; try with_reducible rfl)
    try simp only [Act.put, List.setIfInBounds_toArray, List.set_cons_zero, List.set_cons_succ]
    refine wpAnyH_ready (rs := [19]) (by kernel_rfl) (by simp) ?_
    refine held_cons rfl (fun K hK => ?_) AllReadyH.nil
    go_simp
    go_at_call 19
    refine (HW.out _ _ _ (by decide)).mono ?_
    rintro e wx ⟨rfl, hwx⟩
    rw [hwx]
    clear hwx wx
    refine hK.out _ _ hHeld (fun _ => ?_)
    clear hK K
    try simp only [Act.put, List.setIfInBounds_toArray, List.set_cons_zero, List.set_cons_succ]
    refine held_take (i := 20) (v := ?_) rfl (by kernel_rfl) (by kernel_rfl) (by kernel_rfl) (fun _ _ _ h => h) (by rfl) (fun W hW => ?_) hHeld ?_
    rotate_left
    · (obtain ⟨_, c1, c2, c3, c4, cx⟩ := hW; go_simp; try with_reducible rfl)
    try simp only [Act.put, List.setIfInBounds_toArray, List.set_cons_zero, List.set_cons_succ]
    refine held_take (i := 21) (v := ?_) rfl (by kernel_rfl) (by kernel_rfl) (by kernel_rfl) (fun _ _ _ h => h) (by rfl) (fun W hW => ?_) hHeld ?_
    rotate_left
    · (obtain ⟨_, c1, c2, c3, c4, cx⟩ := hW; go_simp; try with_reducible rfl)
    try simp only [Act.put, List.setIfInBounds_toArray, List.set_cons_zero, List.set_cons_succ]
    refine wpAnyH_ready (rs := [23]) (by kernel_rfl) (by simp) ?_
    refine held_cons rfl (fun K hK => ?_) AllReadyH.nil
    go_simp
    have HOE := hid (own_lit wR 46 3 2 wR.heap.size #[.string (wordX kn), .int .i64 (1 + vl % 3), .int .i64 (vl % 100 - 5), .string ⟨#[116, 119, 111]⟩, .int .i64 2, .int .i64 2] [.string (wordX kn), .int .i64 (1 + vl % 3), .int .i64 (vl % 100 - 5), .string ⟨#[116, 119, 111]⟩, .int .i64 2, .int .i64 2] rfl rfl rfl (by decide))
    have hHeld := hHeld.on (up_alloc wR (.cells #[.string (wordX kn), .int .i64 (1 + vl % 3), .int .i64 (vl % 100 - 5), .string ⟨#[116, 119, 111]⟩, .int .i64 2, .int .i64 2] 46)) (((up_alloc wR (.cells #[.string (wordX kn), .int .i64 (1 + vl % 3), .int .i64 (vl % 100 - 5), .string ⟨#[116, 119, 111]⟩, .int .i64 2, .int .i64 2] 46)).cell (p := ⟨gS, kn, none⟩) (lt_of_cell hHeld.2.2.2.2.2)).trans hHeld.2.2.2.2.2)
    have HRN := hid (HRN.out.on (up_alloc wR (.cells #[.string (wordX kn), .int .i64 (1 + vl % 3), .int .i64 (vl % 100 - 5), .string ⟨#[116, 119, 111]⟩, .int .i64 2, .int .i64 2] 46)))
    refine hK.out _ _ hHeld (fun _ => ?_)
    clear hK K
    generalize wR.alloc (.cells #[.string (wordX kn), .int .i64 (1 + vl % 3), .int .i64 (vl % 100 - 5), .string ⟨#[116, 119, 111]⟩, .int .i64 2, .int .i64 2] 46) = wE at *
    obtain ⟨gE, hgE⟩ : ∃ gE, gE = wR.heap.size := ⟨_, rfl⟩
    rw [← hgE] at HOE ⊢
    clear hgE
    try simp only [Act.put, List.setIfInBounds_toArray, List.set_cons_zero, List.set_cons_succ]
    refine held_take (i := 24) (v := ?_) rfl (by kernel_rfl) (by kernel_rfl) (by kernel_rfl) (fun _ _ _ h => h) (by rfl) (fun W hW => ?_) hHeld ?_
    rotate_left
    · (obtain ⟨_, c1, c2, c3, c4, cx⟩ := hW; go_simp; try with_reducible rfl)
    try simp only [Act.put, List.setIfInBounds_toArray, List.set_cons_zero, List.set_cons_succ]
    refine wpAnyH_ready (rs := [25]) (by kernel_rfl) (by simp) ?_
    refine held_cons rfl (fun K hK => ?_) AllReadyH.nil
    go_simp
    have HLA := hid (cells_lit wE 44 [.string ⟨#[120]⟩, .int .i64 (-1), .int .i64 (d % 4), .slice (some ⟨gE, 0, none⟩) 2 2, .slice adu nu capu, .slice none 0 0] #[.string ⟨#[120]⟩, .int .i64 (-1), .int .i64 (d % 4), .slice (some ⟨gE, 0, none⟩) 2 2, .slice adu nu capu, .slice none 0 0] rfl wE.heap.size 1 6 rfl rfl (by intro u hu; simp at hu; rcases hu with rfl | rfl | rfl | rfl | rfl | rfl <;> rfl))
    have hHeld := hHeld.on (up_alloc wE (.cells #[.string ⟨#[120]⟩, .int .i64 (-1), .int .i64 (d % 4), .slice (some ⟨gE, 0, none⟩) 2 2, .slice adu nu capu, .slice none 0 0] 44)) (((up_alloc wE (.cells #[.string ⟨#[120]⟩, .int .i64 (-1), .int .i64 (d % 4), .slice (some ⟨gE, 0, none⟩) 2 2, .slice adu nu capu, .slice none 0 0] 44)).cell (p := ⟨gS, kn, none⟩) (lt_of_cell hHeld.2.2.2.2.2)).trans hHeld.2.2.2.2.2)
    have HRN := hid (HRN.out.on (up_alloc wE (.cells #[.string ⟨#[120]⟩, .int .i64 (-1), .int .i64 (d % 4), .slice (some ⟨gE, 0, none⟩) 2 2, .slice adu nu capu, .slice none 0 0] 44)))
    have HOE := hid (owns_below HOE.out (up_alloc wE (.cells #[.string ⟨#[120]⟩, .int .i64 (-1), .int .i64 (d % 4), .slice (some ⟨gE, 0, none⟩) 2 2, .slice adu nu capu, .slice none 0 0] 44)))
    refine hK.out _ _ hHeld (fun _ => ?_)
    clear hK K
    generalize wE.alloc (.cells #[.string ⟨#[120]⟩, .int .i64 (-1), .int .i64 (d % 4), .slice (some ⟨gE, 0, none⟩) 2 2, .slice adu nu capu, .slice none 0 0] 44) = wL at *
    obtain ⟨gL, hgL⟩ : ∃ gL, gL = wE.heap.size := ⟨_, rfl⟩
    rw [← hgL] at HLA ⊢
    clear hgL
    have HF := hid (HFIN.out wL gE adu nu capu hHeld.1 HRN.out HOE.out)
    try simp only [Act.put, List.setIfInBounds_toArray, List.set_cons_zero, List.set_cons_succ]
    refine wpAnyH_ready (rs := [26]) (by kernel_rfl) (by simp) ?_
    refine held_cons rfl (fun K hK => ?_) AllReadyH.nil
    refine step_append_full _ rfl (.tmp 11) (.tmp 36) 26 44 rfl (.agg #[.string ⟨#[]⟩, .int .i64 0, .int .i64 0, .slice none 0 0, .slice none 0 0, .slice none 0 0]) 6 104 Tryz.underlying26 info_Locale rfl (by decide) (by decide) w.heap.size gl 3 cs rfl (owns_below HO1.out hHeld.1) (.slice (some ⟨gL, 0, none⟩) 1 1) 1 [.string ⟨#[120]⟩, .int .i64 (-1), .int .i64 (d % 4), .slice (some ⟨gE, 0, none⟩) 2 2, .slice adu nu capu, .slice none 0 0] rfl HLA.out 4 rfl (by decide) (by decide) (Nat.le_trans hw1 hHeld.1.size) ?_
    intro capB wB h1 h2
    have HF := hid (HF.out capB wB h1 h2)
    have hHeld := hHeld.on h2 ((h2.cell (p := ⟨gS, kn, none⟩) (lt_of_cell hHeld.2.2.2.2.2)).trans hHeld.2.2.2.2.2)
    refine hK.out _ _ hHeld (fun _ => ?_)
    clear hK K h1 h2
    try simp only [Act.put, List.setIfInBounds_toArray, List.set_cons_zero, List.set_cons_succ]
    refine held_take (i := 27) (v := ?_) rfl (by kernel_rfl) (by kernel_rfl) (by kernel_rfl) (fun _ _ _ h => h) (by rfl) (fun W hW => ?_) hHeld ?_
    rotate_left
    · (obtain ⟨_, c1, c2, c3, c4, cx⟩ := hW; go_simp; try with_reducible rfl)
    try simp only [Act.put, List.setIfInBounds_toArray, List.set_cons_zero, List.set_cons_succ]
    refine wpAnyH_done (by kernel_rfl) ?_ _
    go_wp2
    go_ret
    exact HF.out
/-- What a shape makes, in memory. -/
theorem make_at (x : Shp) (rv : Value) (w : World) (h : RawsAt w rv x.raws) : Calls Tryz.prog 13 #[shapeV x.order x.digits x.word x.value rv x.more] w fun e w' => ∃ v, e = .returned v ∧ LocalesAt w' v (mkL x) ∧ Below w.heap.size w w' := by
  refine (make_any _ _ _ _ _ _ _ w h).mono ?_
  rintro e w' ⟨v, cs, rfl, ho, hc, hb⟩
  exact ⟨v, rfl, Locales_own ho hc.now (Nat.le_trans (rightL_length (mkL_right x)) (by decide)), hb⟩

end Go.Proofs.YtohgaknojkdohaaGreatDoor
