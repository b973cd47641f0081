/- Math, Shf, Num: these texts, one behind the other. -/
import Derived.Test.YtannndpamhgknaaGreatDoorXBl0
import Derived.Test.YtannndpamhgknaaGreatDoorXAc0
import Derived.Test.YtannndpamhgknaaGreatDoorXDe0
import Derived.Test.YtannndpamhgknaaGreatDoorXFo0
import Derived.Lib.Repeat
import Derived.Lib.IndexMore
import Derived.Lib.AtoiAll
import Derived.Shelf.Small.Wraps
import Derived.Shelf.Strings.Cut
import Derived.Shelf.Strings.Repeat
import Derived.Shelf.Strconv.AtoiAll
import Derived.Shelf.LaysC
import Derived.WalkSmall
import Derived.Lib.AtoiErrMem
import Derived.Test.YtannndpamhgknaaGreatDoorProg
import Derived.Laws.EntriesVeiled
import Derived.Laws.IdiomStrings
/- What a value's fields are, how numbers are written, what a style's parts are together: plain data; no program is spoken of. -/
namespace Go.Proofs.YtannndpamhgknaaGreatDoor
open Go.RowKit Gr Bl
open Go.Lib (decDigits nDigits)

/-- A number as it is written: a sign ahead or none, its digits. -/
structure Num where
  sg : List UInt8
  dg : List UInt8
/-- A number that a style may write; noughts ahead (0), behind (1), none (2). -/
structure Fld where
  num : Num
  way : Nat
def nilNum : Num := ⟨[], []⟩
def nilFld : Fld := ⟨nilNum, 0⟩
def nI (n : Int) : Num := ⟨De.Dc.sgn n, decDigits n.natAbs⟩
def numsF (f : List Int) : List Fld := f.map fun n => ⟨nI n, 0⟩
def wholeN (m : Int) (s : Nat) : Num := ⟨De.Dc.sgn m, decDigits (m.natAbs / 10 ^ s)⟩
def partN (m : Int) (s : Nat) : Num := ⟨[], if s = 0 then [] else De.Dc.pad (m.natAbs % 10 ^ s) s⟩
def decF (m : Int) (s : Nat) : List Fld := [⟨wholeN m s, 0⟩, ⟨partN m s, 1⟩]
def monF (c m : Int) : List Fld := [⟨nI c, 0⟩, ⟨wholeN m (c % 10).toNat, 0⟩, ⟨partN m (c % 10).toNat, 2⟩]
def durF (s : Int) : List Fld := numsF [s, s / 3600, s % 3600 / 60, s % 60]
/-- The fields of a value. -/
def fieldsV (k : Int) (f : List Int) : List Fld :=
  if k = 7 then decF (f.getD 0 0) (f.getD 1 0).toNat
  else if k = 8 then monF (f.getD 0 0) (f.getD 1 0)
  else if k = 9 then durF (f.getD 0 0)
  else numsF f
def nghts (d : List UInt8) (w : Nat) : List UInt8 := List.replicate (w - d.length) 48
def writtenF (x : Fld) (w : Nat) : List UInt8 :=
  if x.way = 0 then x.num.sg ++ nghts x.num.dg w ++ x.num.dg
  else if x.way = 1 then x.num.sg ++ x.num.dg ++ nghts x.num.dg w
  else x.num.sg ++ x.num.dg
def valueN (x : Num) : Int := if x.sg = [] then De.Dc.worth 0 x.dg else - De.Dc.worth 0 x.dg
/-- One sign of a number, in the digits of a language. -/
def shown1 (ds : Int) (c : UInt8) : List UInt8 := if c = 45 then [45] else Lib.encodeRune (Fo.nought ds + ((c.toNat : Int) - 48))
def shownL (ds : Int) (t : List UInt8) : List UInt8 := t.flatMap (shown1 ds)
def wordIs (cls n : Int) (e : Entry) : Bool := decide (e.cls = cls) && decide (e.val = n)
def wordL (lex : List Entry) (cls n : Int) : Option (List UInt8) := (lex.find? (wordIs cls n)).map (·.text.data.toList)
/-- A part, written, or none. -/
def partL (ds : Int) (lex : List Entry) (fs : List Fld) (p : Part) : Option (List UInt8) :=
  if p.kind = 0 then some p.text.data.toList
  else if p.field < 0 ∨ (fs.length : Int) ≤ p.field then none
  else if p.kind = 1 then some (shownL ds (writtenF (fs.getD p.field.toNat nilFld) p.width.toNat))
  else if p.kind = 2 then wordL lex p.cls (valueN (fs.getD p.field.toNat nilFld).num)
  else none
def partsL (ds : Int) (lex : List Entry) (fs : List Fld) : List Part → Option (List UInt8)
  | [] => some []
  | p :: ps => (partL ds lex fs p).bind fun a => (partsL ds lex fs ps).map fun b => a ++ b
/-- A value, written in a style: the text, or why there is none. -/
def writeL (ds : Int) (lex : List Entry) (styles : List Style) (i : Int) (k : Int) (f : List Int) : List UInt8 × Int :=
  if i < 0 ∨ (styles.length : Int) ≤ i then ([], 7)
  else if (styles.getD i.toNat nilStyle).kind ≠ k then ([], 7)
  else if Ac.rightB ⟨k, f⟩ = false then ([], 6)
  else match partsL ds lex (fieldsV k f) (styles.getD i.toNat nilStyle).parts with
    | none => ([], 7)
    | some t => if 256 < t.length then ([], 6) else (t, 0)
/-- The places of the styles of a kind. -/
def stylesL (k : Int) (styles : List Style) : List Int := ((List.range styles.length).filter fun i : Nat => decide ((styles.getD i nilStyle).kind = k)).map fun i : Nat => (i : Int)

/-! ### digits -/
def Dig (l : List UInt8) : Prop := ∀ c ∈ l, 48 ≤ c.toNat ∧ c.toNat ≤ 57
theorem Dig.pad : ∀ (k n : Nat), Dig (De.Dc.pad n k)
  | 0, _ => fun c h => by simp [De.Dc.pad] at h
  | k + 1, n => fun c h => by
    rw [De.Dc.pad, List.mem_append] at h
    rcases h with h | h
    · exact Dig.pad k _ c h
    · rw [List.mem_singleton] at h
      subst h
      rw [De.Dc.dig]; omega
theorem Dig.dec (n : Nat) : Dig (decDigits n) := by rw [De.Dc.dec_pad]; exact Dig.pad _ _
theorem Dig.part (m : Int) (s : Nat) : Dig (partN m s).dg := by
  unfold partN
  dsimp only
  split
  · intro c h; simp at h
  · exact Dig.pad _ _
theorem sg_of (m : Int) : De.Dc.sgn m = [] ∨ De.Dc.sgn m = [45] := by unfold De.Dc.sgn; split <;> simp
/-- One that may be written: its digits are some, not too many, worth no more than an int holds. -/
structure NumOk (x : Num) : Prop where
  sg : x.sg = [] ∨ x.sg = [45]
  dg : Dig x.dg
  len : x.dg.length ≤ 20
  worth : De.Dc.worth 0 x.dg ≤ 1000000000000000000
theorem dec_len (n : Nat) (h : n ≤ 1000000000000000000) : (decDigits n).length ≤ 19 := by
  rw [De.Dc.dec_pad, De.Dc.pad_length]
  by_cases h1 : nDigits n ≤ 19
  · exact h1
  · rcases De.Dc.nDigits_low n 19 (by omega) with h2 | h2
    · omega
    · have : (10 : Nat) ^ 19 = 10000000000000000000 := by decide
      omega
theorem nI_ok (n : Int) (h0 : -1000000000000000000 ≤ n) (h1 : n ≤ 1000000000000000000) : NumOk (nI n) := by
  refine ⟨sg_of n, Dig.dec _, ?_, ?_⟩
  · have := dec_len n.natAbs (by omega)
    show (decDigits n.natAbs).length ≤ 20
    omega
  · show De.Dc.worth 0 (decDigits n.natAbs) ≤ _
    rw [De.Dc.worth_dec]; omega
theorem ten_pos (s : Nat) : 0 < 10 ^ s := Nat.pow_pos (by decide)
theorem wholeN_ok (m : Int) (s : Nat) (h0 : -1000000000000000000 ≤ m) (h1 : m ≤ 1000000000000000000) : NumOk (wholeN m s) := by
  have hd : m.natAbs / 10 ^ s ≤ m.natAbs := Nat.div_le_self _ _
  refine ⟨sg_of m, Dig.dec _, ?_, ?_⟩
  · have := dec_len (m.natAbs / 10 ^ s) (by omega)
    show (decDigits (m.natAbs / 10 ^ s)).length ≤ 20
    omega
  · show De.Dc.worth 0 (decDigits (m.natAbs / 10 ^ s)) ≤ _
    rw [De.Dc.worth_dec]; omega
theorem partN_len (m : Int) (s : Nat) : (partN m s).dg.length = s := by
  unfold partN
  dsimp only
  split
  · rename_i h; rw [h]; rfl
  · rw [De.Dc.pad_length]
theorem partN_worth (m : Int) (s : Nat) : De.Dc.worth 0 (partN m s).dg = ((m.natAbs % 10 ^ s : Nat) : Int) := by
  unfold partN
  dsimp only
  split
  · rename_i h; rw [h]; simp [De.Dc.worth, Nat.mod_one]
  · rw [De.Dc.worth_pad, Nat.mod_mod]; omega
theorem partN_ok (m : Int) (s : Nat) (hs : s ≤ 18) (h0 : -1000000000000000000 ≤ m) (h1 : m ≤ 1000000000000000000) : NumOk (partN m s) := by
  refine ⟨.inl rfl, Dig.part m s, ?_, ?_⟩
  · rw [partN_len]; omega
  · rw [partN_worth]
    have := Nat.mod_le m.natAbs (10 ^ s)
    omega
def FldOk (x : Fld) : Prop := NumOk x.num
def i18 (n : Int) : Prop := -999999999999999999 ≤ n ∧ n ≤ 999999999999999999
theorem numsF_ok (f : List Int) (h : ∀ n ∈ f, i18 n) : ∀ x ∈ numsF f, FldOk x := by
  intro x hx
  obtain ⟨n, hn, rfl⟩ := List.mem_map.1 hx
  have := h n hn
  unfold i18 at this
  exact nI_ok n (by omega) (by omega)

/-! ### texts taken apart -/
def numOf (t : List UInt8) : Num := if Lib.hasPrefix t [45] then ⟨[45], t.drop 1⟩ else ⟨[], t⟩
theorem pre_dig {l : List UInt8} (h : Dig l) : Lib.hasPrefix l [45] = false := by
  unfold Lib.hasPrefix
  cases l with
  | nil => rfl
  | cons c r =>
    have := h c (by simp)
    have hc : ((45 : UInt8) == c) = false := by
      rw [beq_eq_false_iff_ne]; intro e; subst e; revert this; decide
    simp [List.isPrefixOf, hc]
theorem numOf_of {s l : List UInt8} (hs : s = [] ∨ s = [45]) (h : Dig l) : numOf (s ++ l) = ⟨s, l⟩ := by
  rcases hs with rfl | rfl
  · unfold numOf; rw [List.nil_append, if_neg (by rw [pre_dig h]; decide)]
  · unfold numOf
    rw [if_pos (by simp [Lib.hasPrefix, List.isPrefixOf])]; rfl
theorem itoa_eq (n : Int) : Lib.itoa n = De.Dc.sgn n ++ decDigits n.natAbs := by
  unfold Lib.itoa De.Dc.sgn
  split
  · rfl
  · rw [List.nil_append]; congr 1; omega
theorem numOf_itoa (n : Int) : numOf (Lib.itoa n) = nI n := by rw [itoa_eq, numOf_of (sg_of n) (Dig.dec _)]; rfl
theorem parse_dig : ∀ (l : List UInt8) (a : Nat), Dig l → De.Dc.worth (a : Int) l ≤ 1000000000000000000 → Lib.parseUint10 a l = .ok (De.Dc.worth (a : Int) l).toNat
  | [], a, _, _ => by simp [Lib.parseUint10, De.Dc.worth]
  | c :: r, a, hd, hw => by
    have hc := hd c (by simp)
    have hr : Dig r := fun x hx => hd x (List.mem_cons_of_mem _ hx)
    rw [De.Dc.worth, if_pos hc] at hw ⊢
    have e : (10 * (a : Int) + ((c.toNat : Int) - 48)) = ((a * 10 + (c.toNat - 48) : Nat) : Int) := by omega
    rw [e] at hw ⊢
    have hm := De.Dc.worth_mono r ((a * 10 + (c.toNat - 48) : Nat) : Int) (Int.natCast_nonneg _)
    rw [Lib.parseUint10, if_pos hc, if_neg (by omega), if_neg (by omega)]
    exact parse_dig r _ hr hw
theorem atoi_num (x : Num) (h : NumOk x) : Lib.atoiAll (x.sg ++ [48] ++ x.dg) = .ok (valueN x) := by
  have hw : De.Dc.worth ((0 : Nat) : Int) (48 :: x.dg) = De.Dc.worth 0 x.dg := by
    rw [De.Dc.worth, if_pos (by decide)]; rfl
  have hd : Dig (48 :: x.dg) := fun c hc => by
    rcases List.mem_cons.1 hc with rfl | hc
    · decide
    · exact h.dg c hc
  have hp := parse_dig (48 :: x.dg) 0 hd (by rw [hw]; exact h.worth)
  rw [hw] at hp
  have h0 := De.Dc.worth_mono x.dg 0 (Int.le_refl _)
  have hl := h.worth
  have hm : Lib.parseMag (48 :: x.dg) = .ok (De.Dc.worth 0 x.dg).toNat := by
    unfold Lib.parseMag; rw [if_neg (by simp), hp]
  unfold valueN
  rcases h.sg with e | e
  · rw [e, if_pos rfl]
    show Lib.atoiAll (48 :: x.dg) = _
    unfold Lib.atoiAll
    dsimp only
    rw [if_neg (by decide), hm]
    dsimp only
    rw [if_neg (by omega), if_neg (by simp), if_neg (by decide)]
    congr 1; omega
  · rw [e, if_neg (by simp)]
    show Lib.atoiAll (45 :: 48 :: x.dg) = _
    unfold Lib.atoiAll
    dsimp only
    rw [if_pos (by decide), hm]
    dsimp only
    rw [if_neg (by simp), if_neg (by omega), if_pos (by decide)]
    congr 1; omega
end Go.Proofs.YtannndpamhgknaaGreatDoor

/- The library's contracts of strings.CutPrefix, Cut, Repeat and of strconv.Atoi at this program, in plain words. -/
namespace Go.Proofs.YtannndpamhgknaaGreatDoor
open Go.Shelf Go.Proofs Go.RowKit
def sh_lays103_ren : Go.Shelf.Ren := ⟨fun | 103 => 114 | 210 => 130 | 206 => 145 | n => n, fun | 9 => 9 | 4 => 4 | 24 => 83 | 3 => 3 | n => n, fun | n => n⟩
theorem sh_lays103 : Go.Proofs.Lays.n103 Tryz.prog sh_lays103_ren := {
  mixed := by kernel_rfl
  f103 := Tryz.func114.trans (congrArg some (by kernel_rfl))
  f206 := Tryz.func145.trans (congrArg some (by kernel_rfl))
  f210 := Tryz.func130.trans (congrArg some (by kernel_rfl))
  t3 := Tryz.underlying3
  a3 := Tryz.isAgg3
  z3 := Tryz.sizeOf3
  v3 := Tryz.zeroValue3
  t4 := Tryz.underlying4
  a4 := Tryz.isAgg4
  z4 := Tryz.sizeOf4
  v4 := Tryz.zeroValue4
  t9 := Tryz.underlying9
  a9 := Tryz.isAgg9
  z9 := Tryz.sizeOf9
  v9 := Tryz.zeroValue9
  t24 := Tryz.underlying83
  a24 := Tryz.isAgg83
  z24 := Tryz.sizeOf83
  v24 := Tryz.zeroValue83 }
open Go.RowKit in
/-- strings.CutPrefix: "CutPrefix returns s without the provided leading prefix string and reports whether it found the prefix. If s doesn't start with prefix, CutPrefix returns s, false. If prefix is the empty string, CutPrefix returns s, true.": IT RETURNS '(Lib.trimPrefix s p, Lib.hasPrefix s p)'; the world is as it was. (LAID: no walk: one application.) -/
theorem sh_strings_CutPrefix (s p : ByteArray) (w : World) :
    Calls Tryz.prog 114 #[.string s, .string p] w fun e w' => e = .returned (.tuple #[.string ⟨(Lib.trimPrefix s.data.toList p.data.toList).toArray⟩, .bool (Lib.hasPrefix s.data.toList p.data.toList)]) ∧ w' = w := Any.strings_CutPrefix sh_lays103 s p w
def sh_lays145_ren : Go.Shelf.Ren := ⟨fun | 145 => 117 | 220 => 133 | 219 => 156 | 217 => 169 | 225 => 170 | 224 => 171 | 267 => 172 | 266 => 179 | 314 => 180 | n => n, fun | 9 => 9 | 4 => 4 | 59 => 153 | 3 => 3 | 5 => 5 | 46 => 112 | 146 => 196 | 51 => 193 | n => n, fun | 1 => 5 | n => n⟩
theorem sh_lays145 : Go.Proofs.Lays.n145 Tryz.prog sh_lays145_ren := {
  mixed := by kernel_rfl
  f145 := Tryz.func117.trans (congrArg some (by kernel_rfl))
  f217 := Tryz.func169.trans (congrArg some (by kernel_rfl))
  f219 := Tryz.func156.trans (congrArg some (by kernel_rfl))
  f220 := Tryz.func133.trans (congrArg some (by kernel_rfl))
  f224 := Tryz.func171.trans (congrArg some (by kernel_rfl))
  f225 := Tryz.func170.trans (congrArg some (by kernel_rfl))
  f266 := Tryz.func179.trans (congrArg some (by kernel_rfl))
  f267 := Tryz.func172.trans (congrArg some (by kernel_rfl))
  f314 := Tryz.func180.trans (congrArg some (by kernel_rfl))
  t3 := Tryz.underlying3
  a3 := Tryz.isAgg3
  z3 := Tryz.sizeOf3
  v3 := Tryz.zeroValue3
  t4 := Tryz.underlying4
  a4 := Tryz.isAgg4
  z4 := Tryz.sizeOf4
  v4 := Tryz.zeroValue4
  t5 := Tryz.underlying5
  a5 := Tryz.isAgg5
  z5 := Tryz.sizeOf5
  v5 := Tryz.zeroValue5
  t9 := Tryz.underlying9
  a9 := Tryz.isAgg9
  z9 := Tryz.sizeOf9
  v9 := Tryz.zeroValue9
  t46 := Tryz.underlying112
  a46 := Tryz.isAgg112
  z46 := Tryz.sizeOf112
  v46 := Tryz.zeroValue112
  t51 := Tryz.underlying193
  a51 := Tryz.isAgg193
  z51 := Tryz.sizeOf193
  v51 := Tryz.zeroValue193
  t59 := Tryz.underlying153
  a59 := Tryz.isAgg153
  z59 := Tryz.sizeOf153
  v59 := Tryz.zeroValue153
  t146 := Tryz.underlying196
  a146 := Tryz.isAgg196
  z146 := Tryz.sizeOf196
  v146 := Tryz.zeroValue196
  g1 := by kernel_rfl }
open Go.RowKit Go.Lib in
/-- strings.Cut: "Cut slices s around the first instance of sep, returning the text before and after sep. The found result reports whether sep appears in s. If sep does not appear in s, cut returns s, "", false.": IT RETURNS 'Lib.cut s sep'; the world is as it was but for the count of draws. (LAID: no walk: one application.) -/
theorem sh_strings_Cut (s sep : ByteArray) (m : Int) (w : World) (hs : s.size < 4294967281) (hm : w.cell? ⟨5, 0, none⟩ = some (.int .i64 m)) :
    Calls Tryz.prog 117 #[.string s, .string sep] w fun e w' => e = .returned (.tuple #[.string ⟨(Lib.cut s.data.toList sep.data.toList).1.toArray⟩, .string ⟨(Lib.cut s.data.toList sep.data.toList).2.1.toArray⟩, .bool (Lib.cut s.data.toList sep.data.toList).2.2]) ∧ ∃ n, w' = w.drewN n := Any.strings_Cut sh_lays145 s sep m w hs hm
def sh_laysM145_ren : Go.Shelf.Ren := ⟨fun | 145 => 117 | 220 => 133 | 219 => 156 | 217 => 169 | 225 => 170 | 224 => 171 | 267 => 172 | 266 => 179 | 314 => 180 | n => n, fun | 9 => 9 | 4 => 4 | 59 => 153 | 3 => 3 | 5 => 5 | 46 => 112 | 146 => 196 | 51 => 193 | n => n, fun | 1 => 5 | n => n⟩
theorem sh_laysM145 : Go.Proofs.LaysM.n145 Tryz.prog sh_laysM145_ren := {
  mixed := by kernel_rfl
  f145 := Tryz.func117.trans (congrArg some (by kernel_rfl))
  f217 := Tryz.func169.trans (congrArg some (by kernel_rfl))
  f219 := Tryz.func156.trans (congrArg some (by kernel_rfl))
  f220 := Tryz.func133.trans (congrArg some (by kernel_rfl))
  f224 := Tryz.func171.trans (congrArg some (by kernel_rfl))
  f225 := Tryz.func170.trans (congrArg some (by kernel_rfl))
  f266 := Tryz.func179.trans (congrArg some (by kernel_rfl))
  f267 := Tryz.func172.trans (congrArg some (by kernel_rfl))
  f314 := Tryz.func180.trans (congrArg some (by kernel_rfl))
  t3 := Tryz.underlying3
  a3 := Tryz.isAgg3
  z3 := Tryz.sizeOf3
  v3 := Tryz.zeroValue3
  t4 := Tryz.underlying4
  a4 := Tryz.isAgg4
  z4 := Tryz.sizeOf4
  v4 := Tryz.zeroValue4
  t5 := Tryz.underlying5
  a5 := Tryz.isAgg5
  z5 := Tryz.sizeOf5
  v5 := Tryz.zeroValue5
  t9 := Tryz.underlying9
  a9 := Tryz.isAgg9
  z9 := Tryz.sizeOf9
  v9 := Tryz.zeroValue9
  t46 := Tryz.underlying112
  a46 := Tryz.isAgg112
  z46 := Tryz.sizeOf112
  v46 := Tryz.zeroValue112
  t51 := Tryz.underlying193
  a51 := Tryz.isAgg193
  z51 := Tryz.sizeOf193
  v51 := Tryz.zeroValue193
  t59 := Tryz.underlying153
  a59 := Tryz.isAgg153
  z59 := Tryz.sizeOf153
  v59 := Tryz.zeroValue153
  t146 := Tryz.underlying196
  a146 := Tryz.isAgg196
  z146 := Tryz.sizeOf196
  v146 := Tryz.zeroValue196
  g1 := by kernel_rfl
  i3 := by kernel_rfl
  i4 := by kernel_rfl
  i5 := by kernel_rfl
  i9 := by kernel_rfl
  i46 := by kernel_rfl
  i51 := by kernel_rfl
  i59 := by kernel_rfl
  i146 := by kernel_rfl
  m1 := by kernel_rfl
  s1_3 := fun w h => Go.Proofs.cell_of_shapedOpen_int (zero := #[.int .i64 0]) (t := 3) h (of_decide_eq_true (by kernel_rfl)) (by kernel_rfl) rfl (by kernel_rfl) (by kernel_rfl) Tryz.underlying3 }
def sh_lays105_ren : Go.Shelf.Ren := ⟨fun | 105 => 132 | 212 => 150 | 99 => 151 | 165 => 152 | 166 => 153 | 170 => 154 | 169 => 155 | 263 => 165 | 264 => 166 | 206 => 145 | 240 => 167 | 241 => 168 | 276 => 177 | 277 => 178 | n => n, fun | 9 => 9 | 3 => 3 | 4 => 4 | 20 => 20 | 0 => 0 | 46 => 112 | 109 => 178 | 5 => 5 | 72 => 182 | 76 => 137 | 51 => 193 | 146 => 196 | 53 => 173 | 148 => 198 | 70 => 180 | 37 => 79 | 75 => 136 | 127 => 200 | 164 => 207 | 80 => 184 | n => n, fun | n => n⟩
theorem sh_lays105 : Go.Proofs.Lays.n105 Tryz.prog sh_lays105_ren := {
  mixed := by kernel_rfl
  f99 := Tryz.func151.trans (congrArg some (by kernel_rfl))
  f105 := Tryz.func132.trans (congrArg some (by kernel_rfl))
  f165 := Tryz.func152.trans (congrArg some (by kernel_rfl))
  f166 := Tryz.func153.trans (congrArg some (by kernel_rfl))
  f169 := Tryz.func155.trans (congrArg some (by kernel_rfl))
  f170 := Tryz.func154.trans (congrArg some (by kernel_rfl))
  f206 := Tryz.func145.trans (congrArg some (by kernel_rfl))
  f212 := Tryz.func150.trans (congrArg some (by kernel_rfl))
  f240 := Tryz.func167.trans (congrArg some (by kernel_rfl))
  f241 := Tryz.func168.trans (congrArg some (by kernel_rfl))
  f263 := Tryz.func165.trans (congrArg some (by kernel_rfl))
  f264 := Tryz.func166.trans (congrArg some (by kernel_rfl))
  f276 := Tryz.func177.trans (congrArg some (by kernel_rfl))
  f277 := Tryz.func178.trans (congrArg some (by kernel_rfl))
  t0 := Tryz.underlying0
  a0 := Tryz.isAgg0
  z0 := Tryz.sizeOf0
  v0 := Tryz.zeroValue0
  t3 := Tryz.underlying3
  a3 := Tryz.isAgg3
  z3 := Tryz.sizeOf3
  v3 := Tryz.zeroValue3
  t4 := Tryz.underlying4
  a4 := Tryz.isAgg4
  z4 := Tryz.sizeOf4
  v4 := Tryz.zeroValue4
  t5 := Tryz.underlying5
  a5 := Tryz.isAgg5
  z5 := Tryz.sizeOf5
  v5 := Tryz.zeroValue5
  t9 := Tryz.underlying9
  a9 := Tryz.isAgg9
  z9 := Tryz.sizeOf9
  v9 := Tryz.zeroValue9
  t20 := Tryz.underlying20
  a20 := Tryz.isAgg20
  z20 := Tryz.sizeOf20
  v20 := Tryz.zeroValue20
  t37 := Tryz.underlying79
  a37 := Tryz.isAgg79
  z37 := Tryz.sizeOf79
  v37 := Tryz.zeroValue79
  t46 := Tryz.underlying112
  a46 := Tryz.isAgg112
  z46 := Tryz.sizeOf112
  v46 := Tryz.zeroValue112
  t51 := Tryz.underlying193
  a51 := Tryz.isAgg193
  z51 := Tryz.sizeOf193
  v51 := Tryz.zeroValue193
  t53 := Tryz.underlying173
  a53 := Tryz.isAgg173
  z53 := Tryz.sizeOf173
  v53 := Tryz.zeroValue173
  t70 := Tryz.underlying180
  a70 := Tryz.isAgg180
  z70 := Tryz.sizeOf180
  v70 := Tryz.zeroValue180
  t72 := Tryz.underlying182
  a72 := Tryz.isAgg182
  z72 := Tryz.sizeOf182
  v72 := Tryz.zeroValue182
  t75 := Tryz.underlying136
  a75 := Tryz.isAgg136
  z75 := Tryz.sizeOf136
  v75 := Tryz.zeroValue136
  t76 := Tryz.underlying137
  a76 := Tryz.isAgg137
  z76 := Tryz.sizeOf137
  v76 := Tryz.zeroValue137
  t109 := Tryz.underlying178
  a109 := Tryz.isAgg178
  z109 := Tryz.sizeOf178
  v109 := Tryz.zeroValue178
  t127 := Tryz.underlying200
  a127 := Tryz.isAgg200
  z127 := Tryz.sizeOf200
  v127 := Tryz.zeroValue200
  t146 := Tryz.underlying196
  a146 := Tryz.isAgg196
  z146 := Tryz.sizeOf196
  v146 := Tryz.zeroValue196
  t148 := Tryz.underlying198
  a148 := Tryz.isAgg198
  z148 := Tryz.sizeOf198
  v148 := Tryz.zeroValue198
  t164 := Tryz.underlying207
  a164 := Tryz.isAgg207
  z164 := Tryz.sizeOf207
  v164 := Tryz.zeroValue207 }
theorem sh_Builder_Extra_105 : Builder.Extra Tryz.prog sh_lays105_ren := {
  sizeBuilder := by kernel_rfl
  liesBuilder := by kernel_rfl
  t5 := Tryz.underlying5
  a5 := Tryz.isAgg5
  z5 := Tryz.sizeOf5
  v5 := Tryz.zeroValue5
  infoByte := by kernel_rfl
  cellsByte := by kernel_rfl
  sizeByte := by kernel_rfl
  neB5 := by decide }
open Go.RowKit Go.Lib in
/-- THE MAIN CASE: at least two copies of a string that is not empty. (LAID: no walk: one application.) -/
theorem sh_strings_Repeat (s : ByteArray) (c : Nat) (w : World) (hc : c ≤ 9223372036854775807) (hlen : s.size * c ≤ 140737488355328) :
    Calls Tryz.prog 132 #[.string s, .int .i64 c] w fun e w' => e = .returned (.string ⟨(Lib.repeatL s.data.toList c).toArray⟩) ∧ Below w.heap.size w w' := Any.strings_Repeat sh_lays105 sh_Builder_Extra_105 s c w hc hlen
def sh_laysC172_ren : Go.Shelf.Ren := ⟨fun | 172 => 92 | 244 => 119 | 245 => 120 | 247 => 135 | 279 => 136 | 280 => 137 | 281 => 138 | 282 => 139 | 287 => 157 | 316 => 158 | 171 => 84 | 205 => 159 | 321 => 173 | 322 => 174 | 243 => 115 | 246 => 131 | 283 => 146 | 284 => 147 | 285 => 148 | 286 => 149 | 129 => 161 | 317 => 160 | 318 => 162 | 319 => 163 | 320 => 164 | 337 => 175 | 338 => 176 | n => n, fun | 9 => 9 | 3 => 3 | 75 => 136 | 76 => 137 | 4 => 4 | 5 => 5 | 167 => 164 | 37 => 79 | 0 => 0 | 85 => 165 | 2 => 2 | 168 => 167 | 53 => 173 | 175 => 186 | 46 => 112 | 210 => 189 | 127 => 200 | 145 => 205 | 143 => 203 | 21 => 21 | 171 => 172 | 173 => 176 | 212 => 192 | 51 => 193 | 20 => 20 | 213 => 194 | 232 => 211 | 233 => 212 | 80 => 184 | n => n, fun | 15 => 2 | 16 => 3 | 17 => 4 | 18 => 6 | 19 => 7 | n => n⟩
theorem sh_laysC172 : Go.Proofs.LaysC.n172 Tryz.prog sh_laysC172_ren := {
  mixed := by kernel_rfl
  f129 := Tryz.func161.trans (congrArg some (by kernel_rfl))
  f171 := Tryz.func84.trans (congrArg some (by kernel_rfl))
  f172 := Tryz.func92.trans (congrArg some (by kernel_rfl))
  f205 := Tryz.func159.trans (congrArg some (by kernel_rfl))
  f243 := Tryz.func115.trans (congrArg some (by kernel_rfl))
  f244 := Tryz.func119.trans (congrArg some (by kernel_rfl))
  f245 := Tryz.func120.trans (congrArg some (by kernel_rfl))
  f246 := Tryz.func131.trans (congrArg some (by kernel_rfl))
  f247 := Tryz.func135.trans (congrArg some (by kernel_rfl))
  f279 := Tryz.func136.trans (congrArg some (by kernel_rfl))
  f280 := Tryz.func137.trans (congrArg some (by kernel_rfl))
  f281 := Tryz.func138.trans (congrArg some (by kernel_rfl))
  f282 := Tryz.func139.trans (congrArg some (by kernel_rfl))
  f283 := Tryz.func146.trans (congrArg some (by kernel_rfl))
  f284 := Tryz.func147.trans (congrArg some (by kernel_rfl))
  f285 := Tryz.func148.trans (congrArg some (by kernel_rfl))
  f286 := Tryz.func149.trans (congrArg some (by kernel_rfl))
  f287 := Tryz.func157.trans (congrArg some (by kernel_rfl))
  f316 := Tryz.func158.trans (congrArg some (by kernel_rfl))
  f317 := Tryz.func160.trans (congrArg some (by kernel_rfl))
  f318 := Tryz.func162.trans (congrArg some (by kernel_rfl))
  f319 := Tryz.func163.trans (congrArg some (by kernel_rfl))
  f320 := Tryz.func164.trans (congrArg some (by kernel_rfl))
  f321 := Tryz.func173.trans (congrArg some (by kernel_rfl))
  f322 := Tryz.func174.trans (congrArg some (by kernel_rfl))
  f337 := Tryz.func175.trans (congrArg some (by kernel_rfl))
  f338 := Tryz.func176.trans (congrArg some (by kernel_rfl))
  t0 := Tryz.underlying0
  a0 := Tryz.isAgg0
  z0 := Tryz.sizeOf0
  v0 := Tryz.zeroValue0
  t2 := Tryz.underlying2
  a2 := Tryz.isAgg2
  z2 := Tryz.sizeOf2
  v2 := Tryz.zeroValue2
  t3 := Tryz.underlying3
  a3 := Tryz.isAgg3
  z3 := Tryz.sizeOf3
  v3 := Tryz.zeroValue3
  t4 := Tryz.underlying4
  a4 := Tryz.isAgg4
  z4 := Tryz.sizeOf4
  v4 := Tryz.zeroValue4
  t5 := Tryz.underlying5
  a5 := Tryz.isAgg5
  z5 := Tryz.sizeOf5
  v5 := Tryz.zeroValue5
  t9 := Tryz.underlying9
  a9 := Tryz.isAgg9
  z9 := Tryz.sizeOf9
  v9 := Tryz.zeroValue9
  t20 := Tryz.underlying20
  a20 := Tryz.isAgg20
  z20 := Tryz.sizeOf20
  v20 := Tryz.zeroValue20
  t21 := Tryz.underlying21
  a21 := Tryz.isAgg21
  z21 := Tryz.sizeOf21
  v21 := Tryz.zeroValue21
  t37 := Tryz.underlying79
  a37 := Tryz.isAgg79
  z37 := Tryz.sizeOf79
  v37 := Tryz.zeroValue79
  t46 := Tryz.underlying112
  a46 := Tryz.isAgg112
  z46 := Tryz.sizeOf112
  v46 := Tryz.zeroValue112
  t51 := Tryz.underlying193
  a51 := Tryz.isAgg193
  z51 := Tryz.sizeOf193
  v51 := Tryz.zeroValue193
  t53 := Tryz.underlying173
  a53 := Tryz.isAgg173
  z53 := Tryz.sizeOf173
  v53 := Tryz.zeroValue173
  t75 := Tryz.underlying136
  a75 := Tryz.isAgg136
  z75 := Tryz.sizeOf136
  v75 := Tryz.zeroValue136
  t76 := Tryz.underlying137
  a76 := Tryz.isAgg137
  z76 := Tryz.sizeOf137
  v76 := Tryz.zeroValue137
  t85 := Tryz.underlying165
  a85 := Tryz.isAgg165
  z85 := Tryz.sizeOf165
  v85 := Tryz.zeroValue165
  t127 := Tryz.underlying200
  a127 := Tryz.isAgg200
  z127 := Tryz.sizeOf200
  v127 := Tryz.zeroValue200
  t143 := Tryz.underlying203
  a143 := Tryz.isAgg203
  z143 := Tryz.sizeOf203
  v143 := Tryz.zeroValue203
  t145 := Tryz.underlying205
  a145 := Tryz.isAgg205
  z145 := Tryz.sizeOf205
  v145 := Tryz.zeroValue205
  t167 := Tryz.underlying164
  a167 := Tryz.isAgg164
  z167 := Tryz.sizeOf164
  v167 := Tryz.zeroValue164
  t168 := Tryz.underlying167
  a168 := Tryz.isAgg167
  z168 := Tryz.sizeOf167
  v168 := Tryz.zeroValue167
  t171 := Tryz.underlying172
  a171 := Tryz.isAgg172
  z171 := Tryz.sizeOf172
  v171 := Tryz.zeroValue172
  t173 := Tryz.underlying176
  a173 := Tryz.isAgg176
  z173 := Tryz.sizeOf176
  v173 := Tryz.zeroValue176
  t175 := Tryz.underlying186
  a175 := Tryz.isAgg186
  z175 := Tryz.sizeOf186
  v175 := Tryz.zeroValue186
  t210 := Tryz.underlying189
  a210 := Tryz.isAgg189
  z210 := Tryz.sizeOf189
  v210 := Tryz.zeroValue189
  t212 := Tryz.underlying192
  a212 := Tryz.isAgg192
  z212 := Tryz.sizeOf192
  v212 := Tryz.zeroValue192
  t213 := Tryz.underlying194
  a213 := Tryz.isAgg194
  z213 := Tryz.sizeOf194
  t232 := Tryz.underlying211
  a232 := Tryz.isAgg211
  z232 := Tryz.sizeOf211
  v232 := Tryz.zeroValue211
  t233 := Tryz.underlying212
  a233 := Tryz.isAgg212
  z233 := Tryz.sizeOf212
  v233 := Tryz.zeroValue212
  g15 := by kernel_rfl
  g16 := by kernel_rfl
  g17 := by kernel_rfl
  g18 := by kernel_rfl
  g19 := by kernel_rfl
  t80 := Tryz.underlying184
  a80 := Tryz.isAgg184
  z80 := Tryz.sizeOf184
  v80 := Tryz.zeroValue184
  i0 := by kernel_rfl
  i2 := by kernel_rfl
  i3 := by kernel_rfl
  i4 := by kernel_rfl
  i5 := by kernel_rfl
  i9 := by kernel_rfl
  i20 := by kernel_rfl
  i21 := by kernel_rfl
  i37 := by kernel_rfl
  i46 := by kernel_rfl
  i51 := by kernel_rfl
  i53 := by kernel_rfl
  i75 := by kernel_rfl
  i76 := by kernel_rfl
  i80 := by kernel_rfl
  i85 := by kernel_rfl
  i127 := by kernel_rfl
  i143 := by kernel_rfl
  i145 := by kernel_rfl
  i167 := by kernel_rfl
  i168 := by kernel_rfl
  i171 := by kernel_rfl
  i173 := by kernel_rfl
  i175 := by kernel_rfl
  i210 := by kernel_rfl
  i212 := by kernel_rfl
  i232 := by kernel_rfl
  i233 := by kernel_rfl
  m15 := by kernel_rfl
  m16 := by kernel_rfl
  m17 := by kernel_rfl
  m18 := by kernel_rfl
  m19 := by kernel_rfl
  c0 := by kernel_rfl
  c2 := by kernel_rfl
  c3 := by kernel_rfl
  c4 := by kernel_rfl
  c5 := by kernel_rfl
  c9 := by kernel_rfl
  c20 := by kernel_rfl
  c21 := by kernel_rfl
  c37 := by kernel_rfl
  c46 := by kernel_rfl
  c51 := by kernel_rfl
  c53 := by kernel_rfl
  c75 := by kernel_rfl
  c76 := by kernel_rfl
  c80 := by kernel_rfl
  c85 := by kernel_rfl
  c127 := by kernel_rfl
  c143 := by kernel_rfl
  c145 := by kernel_rfl
  c167 := by kernel_rfl
  c168 := by kernel_rfl
  c171 := by kernel_rfl
  c173 := by kernel_rfl
  c175 := by kernel_rfl
  c210 := by kernel_rfl
  c212 := by kernel_rfl
  c213 := by kernel_rfl
  c232 := by kernel_rfl
  c233 := by kernel_rfl }
open Go.RowKit in
/-- strconv.Atoi, AT EVERY STRING THAT SPELLS AN int ('Lib.atoiAll .. = .ok v'; of whatever length: leading zeros count): v, AND NO ERROR. The world: as it was, or with the one new row that '[]byte(..)' lays. (LAID: no walk: one application.) -/
theorem sh_strconv_Atoi_ok (s : ByteArray) (hmax : s.size ≤ 9223372036854775806) (v : Int) (h : Lib.atoiAll s.data.toList = .ok v) (w : World) :
    Calls Tryz.prog 92 #[.string s] w fun e w' => e = .returned (.tuple #[.int .i64 v, .nilIface]) ∧ (w' = w ∨ ∃ t, w' = Lib.bytesWorld w 5 t) := Any.strconv_Atoi_ok sh_laysC172 s hmax v h w
open Go.RowKit in
/-- strconv.Atoi, AT EVERY STRING THAT IS NO DECIMAL NUMERAL ('.syntax'): 0, AND AN ERROR THAT IS NOT nil: a *NumError in a new block N: {Func: "Atoi", Num: s's bytes, Err: what the variable ErrSyntax holds}. Of what was there nothing has turned. (LAID: no walk: one application.) -/
theorem cutPrefix_any (s p : List UInt8) (w : World) : Calls Tryz.prog 114 #[.string ⟨s.toArray⟩, .string ⟨p.toArray⟩] w fun e w' => e = .returned (.tuple #[.string ⟨(Lib.trimPrefix s p).toArray⟩, .bool (Lib.hasPrefix s p)]) ∧ w' = w := sh_strings_CutPrefix ⟨s.toArray⟩ ⟨p.toArray⟩ w
theorem cut_any (s p : List UInt8) (m : Int) (w : World) (hs : s.length ≤ 1000) (hm : w.cell? ⟨5, 0, none⟩ = some (.int .i64 m)) : Calls Tryz.prog 117 #[.string ⟨s.toArray⟩, .string ⟨p.toArray⟩] w fun e w' => e = .returned (.tuple #[.string ⟨(Lib.cut s p).1.toArray⟩, .string ⟨(Lib.cut s p).2.1.toArray⟩, .bool (Lib.cut s p).2.2]) ∧ Below w.heap.size w w' := by
  refine (sh_strings_Cut ⟨s.toArray⟩ ⟨p.toArray⟩ m w ?_ hm).mono fun e w' h => ⟨h.1, ?_⟩
  · show s.toArray.size < _
    simp; omega
  · obtain ⟨n, rfl⟩ := h.2
    exact below_drewN (Below.refl _ _) n
theorem repeat_any (s : List UInt8) (c : Nat) (w : World) (hs : s.length ≤ 1000) (hc : c ≤ 1000) : Calls Tryz.prog 132 #[.string ⟨s.toArray⟩, .int .i64 c] w fun e w' => e = .returned (.string ⟨(Lib.repeatL s c).toArray⟩) ∧ Below w.heap.size w w' := by
  refine sh_strings_Repeat ⟨s.toArray⟩ c w (by omega) ?_
  have h : (ByteArray.mk s.toArray).size = s.length := by
    show s.toArray.size = _
    simp
  rw [h]
  have := Nat.mul_le_mul hs hc
  omega
theorem atoi_any (s : List UInt8) (v : Int) (w : World) (hs : s.length ≤ 1000) (h : Lib.atoiAll s = .ok v) : Calls Tryz.prog 92 #[.string ⟨s.toArray⟩] w fun e w' => e = .returned (.tuple #[.int .i64 v, .nilIface]) ∧ Below w.heap.size w w' := by
  refine (sh_strconv_Atoi_ok ⟨s.toArray⟩ ?_ v h w).mono fun e w' h => ⟨h.1, ?_⟩
  · show s.toArray.size ≤ _
    simp; omega
  · rcases h.2 with rfl | ⟨t, rfl⟩
    · exact Below.refl _ _
    · exact Lib.bytesWorld_below w _ _
/-- What the shape of a world says of the library's variable that Cut reads. -/
theorem maxlen_of {w : World} (h : w.ShapedOpen Tryz.prog) : ∃ m, w.cell? ⟨5, 0, none⟩ = some (.int .i64 m) := sh_laysM145.s1_3 w h
end Go.Proofs.YtannndpamhgknaaGreatDoor

/- Numbers as they are written: what package render's small methods answer. -/
namespace Go.Proofs.YtannndpamhgknaaGreatDoor
open Go.RowKit Gr Bl

def strV (l : List UInt8) : Value := .string ⟨l.toArray⟩
def numV (x : Num) : Value := .agg #[.string ⟨x.sg.toArray⟩, .string ⟨x.dg.toArray⟩]
theorem app_mk (x y : List UInt8) : (ByteArray.mk x.toArray ++ ByteArray.mk y.toArray) = ByteArray.mk (x ++ y).toArray := ByteArray.mk_append_mk x y
theorem size_mk (L : List UInt8) : (ByteArray.mk L.toArray).size = L.length := by
  show L.toArray.size = L.length
  simp

set_option maxRecDepth 8000 in
theorem numeralOf_any (s : List UInt8) (w : World) : Calls Tryz.prog 83 #[.string ⟨s.toArray⟩] w fun e w' => e = .returned (numV (numOf s)) ∧ Below w.heap.size w w' := by
  have HC := hid (fun w => cutPrefix_any s [45] w)
  cases hp : Lib.hasPrefix s [45] with
  | true =>
    have e : numOf s = ⟨[45], s.drop 1⟩ := by unfold numOf; rw [hp]; rfl
    have e2 : Lib.trimPrefix s [45] = s.drop 1 := by unfold Lib.trimPrefix; rw [hp]; rfl
    rw [e]
    rw [hp, e2] at HC
    unfold numV
    dsimp only
    clear e e2 hp
    generalize s.drop 1 = r at *
    go_enter Tryz.func83, Tryz.ntmps83
    go_wp2_with fail
    refine (HC.out _).mono ?_
    rintro e w1 ⟨rfl, rfl⟩
    go_wp2
    exact bodyPost_ret (v := .agg #[.string ⟨#[45]⟩, .string ⟨r.toArray⟩]) (results_cell_row rfl _ _ w.heap.size 102 _ (0, 0) _ rfl (row_new w _) Tryz.underlying102 rfl (by kernel_rfl)) rfl ⟨rfl, up_alloc w _⟩
  | false =>
    have e : numOf s = ⟨[], s⟩ := by unfold numOf; rw [hp]; rfl
    have e2 : Lib.trimPrefix s [45] = s := by unfold Lib.trimPrefix; rw [hp]; rfl
    rw [e]
    rw [hp, e2] at HC
    unfold numV
    dsimp only
    clear e e2 hp
    go_enter Tryz.func83, Tryz.ntmps83
    go_wp2_with fail
    refine (HC.out _).mono ?_
    rintro e w1 ⟨rfl, rfl⟩
    go_wp2
    exact bodyPost_ret (v := .agg #[.string ⟨#[]⟩, .string ⟨s.toArray⟩]) (results_cell_row rfl _ _ w.heap.size 102 _ (0, 0) _ rfl (row_new w _) Tryz.underlying102 rfl (by kernel_rfl)) rfl ⟨rfl, up_alloc w _⟩

/-- What a numeral's digits lack up to a width. -/
theorem rep_nghts (d : List UInt8) (wd : Nat) : Lib.repeatL [48] (wd - d.length) = nghts d wd := by
  unfold nghts
  generalize wd - d.length = k
  induction k with
  | zero => rfl
  | succ k ih => rw [Lib.repeatL, ih, List.replicate_succ]; rfl
set_option maxRecDepth 8000 in
theorem noughts_any (x : Num) (wd : Nat) (w : World) (hx : x.dg.length ≤ 20) (hw : wd ≤ 200) : Calls Tryz.prog 116 #[numV x, .int .i64 wd] w fun e w' => e = .returned (.string ⟨(nghts x.dg wd).toArray⟩) ∧ Below w.heap.size w w' := by
  obtain ⟨sg, dg⟩ := x
  have hsz : (ByteArray.mk dg.toArray).size = dg.length := size_mk dg
  have HR := hid (fun w => repeat_any [48] (wd - dg.length) w (by decide) (by omega))
  rw [rep_nghts] at HR
  unfold numV
  dsimp only at *
  generalize nghts dg wd = r at *
  have e1 : (max (dg.length : Int) (min (wd : Int) 257)) - (dg.length : Int) = ((wd - dg.length : Nat) : Int) := by omega
  have HU := hid (up_alloc w (.cells #[.string ⟨sg.toArray⟩, .string ⟨dg.toArray⟩] 102))
  go_enter Tryz.func116, Tryz.ntmps116
  go_wp2_with fail
  refine (HR.out _).mono ?_
  rintro e w1 ⟨rfl, hb⟩
  have HB := hid (up_trans HU.out hb)
  clear hb
  go_wp2
  go_ret
  exact ⟨rfl, HB.out⟩

set_option maxRecDepth 8000 in
theorem ahead_any (x : Num) (wd : Nat) (w : World) (hx : x.dg.length ≤ 20) (hw : wd ≤ 200) (hs : x.sg.length ≤ 1) : Calls Tryz.prog 85 #[numV x, .int .i64 wd] w fun e w' => e = .returned (.string ⟨(x.sg ++ nghts x.dg wd ++ x.dg).toArray⟩) ∧ Below w.heap.size w w' := by
  have HR := hid (fun w => noughts_any x wd w hx hw)
  have hn : (nghts x.dg wd).length ≤ 200 := by unfold nghts; rw [List.length_replicate]; omega
  obtain ⟨sg, dg⟩ := x
  unfold numV at *
  dsimp only at *
  generalize nghts dg wd = r at *
  have s1 := size_mk sg
  have s2 := size_mk dg
  have s3 := size_mk r
  have HU := hid (up_alloc w (.cells #[.string ⟨sg.toArray⟩, .string ⟨dg.toArray⟩] 102))
  go_enter Tryz.func85, Tryz.ntmps85
  go_wp2
  refine Ci.wp_region_ext2 (by kernel_rfl) (by kernel_rfl) (fun hne hcell => ?_)
  repeat (go_big_quiet_step ((go_at_call 116; exact (HR.out _).mono (fun e w' h => ⟨h.1, Ci.Ext.to _ h.2⟩))))
  refine wpQuiet_nil ?_
  rintro _ ⟨s, rfl⟩
  go_wp2
  go_ret
  exact ⟨rfl, up_trans HU.out s.below⟩

set_option maxRecDepth 8000 in
theorem behind_any (x : Num) (wd : Nat) (w : World) (hx : x.dg.length ≤ 20) (hw : wd ≤ 200) (hs : x.sg.length ≤ 1) : Calls Tryz.prog 87 #[numV x, .int .i64 wd] w fun e w' => e = .returned (.string ⟨(x.sg ++ x.dg ++ nghts x.dg wd).toArray⟩) ∧ Below w.heap.size w w' := by
  have HR := hid (fun w => noughts_any x wd w hx hw)
  have hn : (nghts x.dg wd).length ≤ 200 := by unfold nghts; rw [List.length_replicate]; omega
  obtain ⟨sg, dg⟩ := x
  unfold numV at *
  dsimp only at *
  generalize nghts dg wd = r at *
  have s1 := size_mk sg
  have s2 := size_mk dg
  have s3 := size_mk r
  have HU := hid (up_alloc w (.cells #[.string ⟨sg.toArray⟩, .string ⟨dg.toArray⟩] 102))
  go_enter Tryz.func87, Tryz.ntmps87
  go_wp2
  refine Ci.wp_region_ext2 (by kernel_rfl) (by kernel_rfl) (fun hne hcell => ?_)
  repeat (go_big_quiet_step ((go_at_call 116; exact (HR.out _).mono (fun e w' h => ⟨h.1, Ci.Ext.to _ h.2⟩))))
  refine wpQuiet_nil ?_
  rintro _ ⟨s, rfl⟩
  go_wp2
  go_ret
  exact ⟨rfl, up_trans HU.out s.below⟩

set_option maxRecDepth 8000 in
theorem alone_any (x : Num) (wd : Int) (w : World) (hx : x.dg.length ≤ 20) (hs : x.sg.length ≤ 1) : Calls Tryz.prog 88 #[numV x, .int .i64 wd] w fun e w' => e = .returned (.string ⟨(x.sg ++ x.dg).toArray⟩) ∧ Below w.heap.size w w' := by
  obtain ⟨sg, dg⟩ := x
  unfold numV
  dsimp only at *
  have s1 := size_mk sg
  have s2 := size_mk dg
  have HU := hid (up_alloc w (.cells #[.string ⟨sg.toArray⟩, .string ⟨dg.toArray⟩] 102))
  go_enter Tryz.func88, Tryz.ntmps88
  go_wp2
  go_ret
  exact ⟨rfl, HU.out⟩

set_option maxRecDepth 8000 in
theorem number_any (x : Num) (w : World) (hx : NumOk x) : Calls Tryz.prog 64 #[numV x] w fun e w' => e = .returned (.int .i64 (valueN x)) ∧ Below w.heap.size w w' := by
  have ha := atoi_num x hx
  have hl := hx.len
  have hsg : x.sg.length ≤ 1 := by rcases hx.sg with h | h <;> rw [h] <;> decide
  generalize valueN x = v at *
  obtain ⟨sg, dg⟩ := x
  unfold numV
  dsimp only at *
  have s1 := size_mk sg
  have s2 := size_mk dg
  have HR := hid (fun (L : List UInt8) (hL : L = sg ++ [48] ++ dg) w => atoi_any L v w (by subst hL; simp; omega) (by rw [hL]; exact ha))
  have HU := hid (up_alloc w (.cells #[.string ⟨sg.toArray⟩, .string ⟨dg.toArray⟩] 102))
  clear ha hx
  go_enter Tryz.func64, Tryz.ntmps64
  go_wp2_with fail
  refine (HR.out _ (by simp) _).mono ?_
  rintro e w1 ⟨rfl, hb⟩
  have HB := hid (up_trans HU.out hb)
  clear hb
  go_wp2
  go_ret
  exact ⟨rfl, HB.out⟩
end Go.Proofs.YtannndpamhgknaaGreatDoor
