/- BlMath, BlMem, BlPart, BlRdM, BlRd, BlWord, BlTaken, BlChain, BlRight: these texts, one behind the other. -/
import Derived.Test.YtannndpamhgknaaGreatDoorGrMath
import Derived.Test.YtannndpamhgknaaGreatDoorXFo0
import Derived.Test.YtannndpamhgknaaGreatDoorProg
import Derived.Test.YtannndpamhgknaaGreatDoorGrRules
import Derived.Test.YtannndpamhgknaaGreatDoorGrRowN
import Derived.Laws.BitsLemmas
import Derived.Laws.IdiomStrings
import Derived.Deep.QuietTactic
import Derived.Test.YtannndpamhgknaaGreatDoorGrGrow4
import Derived.Test.YtannndpamhgknaaGreatDoorGrGram
/- Languages as plain data, and what their bounds say of them. -/
namespace Go.Proofs.YtannndpamhgknaaGreatDoor.Bl
open Go.RowKit Gr

structure Entry where
  text : ByteArray
  cls : Int
  val : Int
structure Part where
  kind : Int
  text : ByteArray
  field : Int
  width : Int
  cls : Int
structure Style where
  kind : Int
  parts : List Part
structure Locale where
  id : ByteArray
  parent : Int
  digits : Int
  lex : List Entry
  rules : List Rule
  styles : List Style

def idSign (b : Int) : Bool := inB b 97 122 || (inB b 48 57 || decide (b = 45))
def idOk (s : ByteArray) : Bool := inB (s.size : Int) 1 12 && s.data.toList.all fun b => idSign (b.toNat : Int)
def clsOk (n : Int) : Bool := inB n 1 49
def fieldOk (n : Int) : Bool := inB n 0 5
def wordOk (s : ByteArray) : Bool := inB (s.size : Int) 1 20 && (decide (Fo.textOf s.data.toList = s.data.toList) && (decide (s.data.toList.head? ≠ some 32) && decide (s.data.toList.getLast? ≠ some 32)))
def entryOk (e : Entry) : Bool := wordOk e.text && (clsOk e.cls && inB e.val (-1000000000) 1000000000)
def partOk (p : Part) : Bool :=
  if p.kind = 0 then decide (p.text.size ≤ 20) && (decide (p.field = 0) && (decide (p.width = 0) && decide (p.cls = 0)))
  else if p.kind = 1 then fieldOk p.field && (inB p.width 0 9 && (decide (p.text.size = 0) && decide (p.cls = 0)))
  else if p.kind = 2 then fieldOk p.field && (clsOk p.cls && (decide (p.text.size = 0) && decide (p.width = 0)))
  else false
def styleOk (s : Style) : Bool := inB s.kind 4 10 && (inB (s.parts.length : Int) 1 12 && s.parts.all partOk)
def nilLocale : Locale := ⟨⟨#[]⟩, 0, 0, [], [], []⟩
/-- Where a locale's Parents are, itself first. -/
def chainUp (ls : List Locale) : Nat → Int → List Int
  | 0, _ => []
  | fuel + 1, i => if i < 0 then [] else i :: chainUp ls fuel (ls.getD i.toNat nilLocale).parent
def chainOf (ls : List Locale) (i : Nat) : List Int := (chainUp ls (i + 1) (i : Int)).reverse
def rulesOf (ls : List Locale) (i : Nat) : List Rule := (chainOf ls i).flatMap fun k => (ls.getD k.toNat nilLocale).rules
def takenAt (ls : List Locale) (i : Nat) : Bool := (ls.take i).any fun x => decide (x.id = (ls.getD i nilLocale).id)
def rightAt (ls : List Locale) (i : Nat) : Bool :=
  let x := ls.getD i nilLocale
  idOk x.id && (!takenAt ls i && (inB x.parent (-1) ((i : Int) - 1) && (inB x.digits 0 3 && (decide (x.lex.length ≤ 30) && (x.lex.all entryOk && (decide (x.styles.length ≤ 20) && (x.styles.all styleOk && check (rulesOf ls i))))))))
def rightL (ls : List Locale) : Bool := decide (ls.length ≤ 10) && (List.range ls.length).all (rightAt ls)

end Go.Proofs.YtannndpamhgknaaGreatDoor.Bl

/- How locales, and what they hold, lie in memory. -/
namespace Go.Proofs.YtannndpamhgknaaGreatDoor.Bl
open Go.RowKit Gr

/-- A slice of rules that has no room where it is nil. -/
def RulesOk (w : World) (v : Value) (rs : List Rule) : Prop := RulesAt w v rs ∧ ∀ n c, v = .slice none n c → c = 0
theorem RulesOk.on {w w' : World} {v : Value} {rs : List Rule} (h : RulesOk w v rs) (hb : Below w.heap.size w w') : RulesOk w' v rs := ⟨h.1.on hb, h.2⟩
theorem RulesOk.nil (w : World) : RulesOk w (.slice none 0 0) [] := ⟨⟨none, 0, rfl, by simp, fun j hj => by simp at hj⟩, fun n c e => by injection e with _ _ e; exact e.symm⟩
theorem RulesOk.shape {w : World} {v : Value} {rs : List Rule} (h : RulesOk w v rs) : ∃ ad cap, v = .slice ad rs.length cap ∧ rs.length ≤ 1000000 := by
  obtain ⟨⟨ad, cap, h1, h0, _⟩, _⟩ := h
  exact ⟨ad, cap, h1, h0⟩

/-- The 3 cells of one. -/
def EntryIn (w : World) (g o : Nat) (x : Entry) : Prop := w.cell? ⟨g, o, none⟩ = some (.string x.text) ∧ w.cell? ⟨g, o + 1, none⟩ = some (.int .i64 x.cls) ∧ w.cell? ⟨g, o + 2, none⟩ = some (.int .i64 x.val)
theorem EntryIn.on {w w' : World} {g o : Nat} {x : Entry} (h : EntryIn w g o x) (hb : Below w.heap.size w w') : EntryIn w' g o x := by
  obtain ⟨h0, h1, h2⟩ := h
  exact ⟨(hb.cell (lt_of_cell h0)).trans h0, (hb.cell (lt_of_cell h1)).trans h1, (hb.cell (lt_of_cell h2)).trans h2⟩
def nilEntry : Entry := ⟨⟨#[]⟩, 0, 0⟩
/-- A slice of them. -/
def EntriesAt (w : World) (v : Value) (xs : List Entry) : Prop :=
  ∃ (ad : Option Addr) (cap : Nat), v = .slice ad xs.length cap ∧ xs.length ≤ 1000000 ∧ ((ad = none → cap = 0) ∧ xs.length ≤ cap) ∧ ∀ j, j < xs.length → ∃ g o, ad = some ⟨g, o, none⟩ ∧ EntryIn w g (o + j * 3) (xs.getD j nilEntry)
theorem EntriesAt.on {w w' : World} {v : Value} {xs : List Entry} (h : EntriesAt w v xs) (hb : Below w.heap.size w w') : EntriesAt w' v xs := by
  obtain ⟨ad, cap, h1, h0, hn, h2⟩ := h
  refine ⟨ad, cap, h1, h0, hn, fun j hj => ?_⟩
  obtain ⟨g, o, h3, h4⟩ := h2 j hj
  exact ⟨g, o, h3, h4.on hb⟩
theorem EntriesAt.nil (w : World) : EntriesAt w (.slice none 0 0) [] := ⟨none, 0, rfl, by simp, ⟨fun _ => rfl, by simp⟩, fun j hj => by simp at hj⟩
theorem EntriesAt.shape {w : World} {v : Value} {xs : List Entry} (h : EntriesAt w v xs) : ∃ ad cap, v = .slice ad xs.length cap ∧ xs.length ≤ 1000000 := by
  obtain ⟨ad, cap, h1, h0, _⟩ := h
  exact ⟨ad, cap, h1, h0⟩
theorem EntriesAt.none_cap {w : World} {v : Value} {xs : List Entry} (h : EntriesAt w v xs) : ∀ n c, v = .slice none n c → c = 0 := by
  obtain ⟨ad, cap, rfl, _, hn, _⟩ := h
  intro n c e
  injection e with e1 e2 e3
  rw [← e3]
  exact hn.1 e1
theorem Entry_at {xs : List Entry} {j : Nat} (h : j < xs.length) : xs[j]? = some (xs.getD j nilEntry) := by
  rw [List.getD_eq_getElem?_getD, List.getElem?_eq_getElem h]; rfl

/-- The 5 cells of one. -/
def PartIn (w : World) (g o : Nat) (x : Part) : Prop := w.cell? ⟨g, o, none⟩ = some (.int .i64 x.kind) ∧ w.cell? ⟨g, o + 1, none⟩ = some (.string x.text) ∧ w.cell? ⟨g, o + 2, none⟩ = some (.int .i64 x.field) ∧ w.cell? ⟨g, o + 3, none⟩ = some (.int .i64 x.width) ∧ w.cell? ⟨g, o + 4, none⟩ = some (.int .i64 x.cls)
theorem PartIn.on {w w' : World} {g o : Nat} {x : Part} (h : PartIn w g o x) (hb : Below w.heap.size w w') : PartIn w' g o x := by
  obtain ⟨h0, h1, h2, h3, h4⟩ := h
  exact ⟨(hb.cell (lt_of_cell h0)).trans h0, (hb.cell (lt_of_cell h1)).trans h1, (hb.cell (lt_of_cell h2)).trans h2, (hb.cell (lt_of_cell h3)).trans h3, (hb.cell (lt_of_cell h4)).trans h4⟩
def nilPart : Part := ⟨0, ⟨#[]⟩, 0, 0, 0⟩
/-- A slice of them. -/
def PartsAt (w : World) (v : Value) (xs : List Part) : Prop :=
  ∃ (ad : Option Addr) (cap : Nat), v = .slice ad xs.length cap ∧ xs.length ≤ 1000000 ∧ ((ad = none → cap = 0) ∧ xs.length ≤ cap) ∧ ∀ j, j < xs.length → ∃ g o, ad = some ⟨g, o, none⟩ ∧ PartIn w g (o + j * 5) (xs.getD j nilPart)
theorem PartsAt.on {w w' : World} {v : Value} {xs : List Part} (h : PartsAt w v xs) (hb : Below w.heap.size w w') : PartsAt w' v xs := by
  obtain ⟨ad, cap, h1, h0, hn, h2⟩ := h
  refine ⟨ad, cap, h1, h0, hn, fun j hj => ?_⟩
  obtain ⟨g, o, h3, h4⟩ := h2 j hj
  exact ⟨g, o, h3, h4.on hb⟩
theorem PartsAt.nil (w : World) : PartsAt w (.slice none 0 0) [] := ⟨none, 0, rfl, by simp, ⟨fun _ => rfl, by simp⟩, fun j hj => by simp at hj⟩
theorem PartsAt.shape {w : World} {v : Value} {xs : List Part} (h : PartsAt w v xs) : ∃ ad cap, v = .slice ad xs.length cap ∧ xs.length ≤ 1000000 := by
  obtain ⟨ad, cap, h1, h0, _⟩ := h
  exact ⟨ad, cap, h1, h0⟩
theorem PartsAt.none_cap {w : World} {v : Value} {xs : List Part} (h : PartsAt w v xs) : ∀ n c, v = .slice none n c → c = 0 := by
  obtain ⟨ad, cap, rfl, _, hn, _⟩ := h
  intro n c e
  injection e with e1 e2 e3
  rw [← e3]
  exact hn.1 e1
theorem Part_at {xs : List Part} {j : Nat} (h : j < xs.length) : xs[j]? = some (xs.getD j nilPart) := by
  rw [List.getD_eq_getElem?_getD, List.getElem?_eq_getElem h]; rfl

/-- The 2 cells of one. -/
def StyleIn (w : World) (g o : Nat) (x : Style) : Prop := ∃ v0, w.cell? ⟨g, o, none⟩ = some (.int .i64 x.kind) ∧ w.cell? ⟨g, o + 1, none⟩ = some (v0) ∧ PartsAt w v0 x.parts
theorem StyleIn.on {w w' : World} {g o : Nat} {x : Style} (h : StyleIn w g o x) (hb : Below w.heap.size w w') : StyleIn w' g o x := by
  obtain ⟨v0, h0, h1, a0⟩ := h
  exact ⟨v0, (hb.cell (lt_of_cell h0)).trans h0, (hb.cell (lt_of_cell h1)).trans h1, a0.on hb⟩
def nilStyle : Style := ⟨0, []⟩
/-- A slice of them. -/
def StylesAt (w : World) (v : Value) (xs : List Style) : Prop :=
  ∃ (ad : Option Addr) (cap : Nat), v = .slice ad xs.length cap ∧ xs.length ≤ 1000000 ∧ ((ad = none → cap = 0) ∧ xs.length ≤ cap) ∧ ∀ j, j < xs.length → ∃ g o, ad = some ⟨g, o, none⟩ ∧ StyleIn w g (o + j * 2) (xs.getD j nilStyle)
theorem StylesAt.on {w w' : World} {v : Value} {xs : List Style} (h : StylesAt w v xs) (hb : Below w.heap.size w w') : StylesAt w' v xs := by
  obtain ⟨ad, cap, h1, h0, hn, h2⟩ := h
  refine ⟨ad, cap, h1, h0, hn, fun j hj => ?_⟩
  obtain ⟨g, o, h3, h4⟩ := h2 j hj
  exact ⟨g, o, h3, h4.on hb⟩
theorem StylesAt.nil (w : World) : StylesAt w (.slice none 0 0) [] := ⟨none, 0, rfl, by simp, ⟨fun _ => rfl, by simp⟩, fun j hj => by simp at hj⟩
theorem StylesAt.shape {w : World} {v : Value} {xs : List Style} (h : StylesAt w v xs) : ∃ ad cap, v = .slice ad xs.length cap ∧ xs.length ≤ 1000000 := by
  obtain ⟨ad, cap, h1, h0, _⟩ := h
  exact ⟨ad, cap, h1, h0⟩
theorem StylesAt.none_cap {w : World} {v : Value} {xs : List Style} (h : StylesAt w v xs) : ∀ n c, v = .slice none n c → c = 0 := by
  obtain ⟨ad, cap, rfl, _, hn, _⟩ := h
  intro n c e
  injection e with e1 e2 e3
  rw [← e3]
  exact hn.1 e1
theorem Style_at {xs : List Style} {j : Nat} (h : j < xs.length) : xs[j]? = some (xs.getD j nilStyle) := by
  rw [List.getD_eq_getElem?_getD, List.getElem?_eq_getElem h]; rfl

/-- The 6 cells of one. -/
def LocaleIn (w : World) (g o : Nat) (x : Locale) : Prop := ∃ v0 v1 v2, w.cell? ⟨g, o, none⟩ = some (.string x.id) ∧ w.cell? ⟨g, o + 1, none⟩ = some (.int .i64 x.parent) ∧ w.cell? ⟨g, o + 2, none⟩ = some (.int .i64 x.digits) ∧ w.cell? ⟨g, o + 3, none⟩ = some (v0) ∧ w.cell? ⟨g, o + 4, none⟩ = some (v1) ∧ w.cell? ⟨g, o + 5, none⟩ = some (v2) ∧ EntriesAt w v0 x.lex ∧ RulesOk w v1 x.rules ∧ StylesAt w v2 x.styles
theorem LocaleIn.on {w w' : World} {g o : Nat} {x : Locale} (h : LocaleIn w g o x) (hb : Below w.heap.size w w') : LocaleIn w' g o x := by
  obtain ⟨v0, v1, v2, h0, h1, h2, h3, h4, h5, a0, a1, a2⟩ := h
  exact ⟨v0, v1, v2, (hb.cell (lt_of_cell h0)).trans h0, (hb.cell (lt_of_cell h1)).trans h1, (hb.cell (lt_of_cell h2)).trans h2, (hb.cell (lt_of_cell h3)).trans h3, (hb.cell (lt_of_cell h4)).trans h4, (hb.cell (lt_of_cell h5)).trans h5, a0.on hb, a1.on hb, a2.on hb⟩
/-- A slice of them. -/
def LocalesAt (w : World) (v : Value) (xs : List Locale) : Prop :=
  ∃ (ad : Option Addr) (cap : Nat), v = .slice ad xs.length cap ∧ xs.length ≤ 1000000 ∧ ((ad = none → cap = 0) ∧ xs.length ≤ cap) ∧ ∀ j, j < xs.length → ∃ g o, ad = some ⟨g, o, none⟩ ∧ LocaleIn w g (o + j * 6) (xs.getD j nilLocale)
theorem LocalesAt.on {w w' : World} {v : Value} {xs : List Locale} (h : LocalesAt w v xs) (hb : Below w.heap.size w w') : LocalesAt w' v xs := by
  obtain ⟨ad, cap, h1, h0, hn, h2⟩ := h
  refine ⟨ad, cap, h1, h0, hn, fun j hj => ?_⟩
  obtain ⟨g, o, h3, h4⟩ := h2 j hj
  exact ⟨g, o, h3, h4.on hb⟩
theorem LocalesAt.nil (w : World) : LocalesAt w (.slice none 0 0) [] := ⟨none, 0, rfl, by simp, ⟨fun _ => rfl, by simp⟩, fun j hj => by simp at hj⟩
theorem LocalesAt.shape {w : World} {v : Value} {xs : List Locale} (h : LocalesAt w v xs) : ∃ ad cap, v = .slice ad xs.length cap ∧ xs.length ≤ 1000000 := by
  obtain ⟨ad, cap, h1, h0, _⟩ := h
  exact ⟨ad, cap, h1, h0⟩
theorem LocalesAt.none_cap {w : World} {v : Value} {xs : List Locale} (h : LocalesAt w v xs) : ∀ n c, v = .slice none n c → c = 0 := by
  obtain ⟨ad, cap, rfl, _, hn, _⟩ := h
  intro n c e
  injection e with e1 e2 e3
  rw [← e3]
  exact hn.1 e1
theorem Locale_at {xs : List Locale} {j : Nat} (h : j < xs.length) : xs[j]? = some (xs.getD j nilLocale) := by
  rw [List.getD_eq_getElem?_getD, List.getElem?_eq_getElem h]; rfl

def entryV (x : Entry) : Value := .agg #[.string x.text, .int .i64 x.cls, .int .i64 x.val]
def partV (x : Part) : Value := .agg #[.int .i64 x.kind, .string x.text, .int .i64 x.field, .int .i64 x.width, .int .i64 x.cls]
def styleV (x : Style) (v0 : Value) : Value := .agg #[.int .i64 x.kind, v0]
def localeV (x : Locale) (v0 v1 v2 : Value) : Value := .agg #[.string x.id, .int .i64 x.parent, .int .i64 x.digits, v0, v1, v2]
/-- A locale's three rows. -/
def LocaleAt (w : World) (x : Locale) (v0 v1 v2 : Value) : Prop := EntriesAt w v0 x.lex ∧ RulesOk w v1 x.rules ∧ StylesAt w v2 x.styles
theorem LocaleAt.on {w w' : World} {x : Locale} {v0 v1 v2 : Value} (h : LocaleAt w x v0 v1 v2) (hb : Below w.heap.size w w') : LocaleAt w' x v0 v1 v2 := ⟨h.1.on hb, h.2.1.on hb, h.2.2.on hb⟩

end Go.Proofs.YtannndpamhgknaaGreatDoor.Bl

/- What package blob answers of one part of a style. -/
namespace Go.Proofs.YtannndpamhgknaaGreatDoor.Bl
open Go.RowKit Gr

theorem loop_eq (bs : ByteArray) : ∀ (n i : Nat) (r : List UInt8), bs.size - i = n → ByteArray.toList.loop bs i r = r.reverse ++ bs.data.toList.drop i
  | 0, i, r, h => by
    unfold ByteArray.toList.loop
    rw [if_neg (by omega), List.drop_eq_nil_of_le (by have : bs.data.toList.length = bs.size := rfl
                                                      omega)]
    simp
  | n + 1, i, r, h => by
    have hl : i < bs.data.toList.length := by
      have : bs.data.toList.length = bs.size := rfl
      omega
    unfold ByteArray.toList.loop
    rw [if_pos (by omega), loop_eq bs n (i + 1) _ (by omega), List.drop_eq_getElem_cons hl]
    have : bs.get! i = bs.data.toList[i] := by
      obtain ⟨a⟩ := bs
      show a[i]! = _
      rw [getElem!_pos a i (by simpa using hl)]
      simp
    rw [this]
    simp
theorem toList_data (s : ByteArray) : s.toList = s.data.toList := by
  have := loop_eq s _ 0 [] rfl
  simpa [ByteArray.toList] using this
theorem toList_inj {s t : ByteArray} (h : ¬ t = s) : ¬ t.toList = s.toList := fun e => h (by
  rw [toList_data, toList_data] at e
  obtain ⟨⟨a⟩⟩ := s
  obtain ⟨⟨b⟩⟩ := t
  simpa using e)
end Go.Proofs.YtannndpamhgknaaGreatDoor.Bl

/- What is read: plain functions of the bytes that are left; rows that a call made, told from a block on. -/
namespace Go.Proofs.YtannndpamhgknaaGreatDoor.Bl
open Go.RowKit Gr

/-- All numbers are bytes. -/
def Byt (l : List Int) : Prop := ∀ z ∈ l, 0 ≤ z ∧ z < 256
/-- The bytes themselves. -/
def bytesL (l : List Int) : List UInt8 := l.map fun z => z.toNat.toUInt8
abbrev Rdr (α : Type) := List Int → Option (α × List Int)
def accB (l : List Int) : Int := l.foldl (fun a b => a * 256 + b) 0
def pNum : Rdr Int := fun bs => if 8 ≤ bs.length then some (wrap64 (accB (bs.take 8)), bs.drop 8) else none
def pCount (most : Int) : Rdr Nat := fun bs => (pNum bs).bind fun x => if inB x.1 0 most = true then some (x.1.toNat, x.2) else none
def textB (l : List Int) : ByteArray := ⟨(bytesL l).toArray⟩
def pText (most : Int) : Rdr ByteArray := fun bs => (pCount most bs).bind fun x => if x.1 ≤ x.2.length then some (textB (x.2.take x.1), x.2.drop x.1) else none
def pMany {α : Type} (p : Rdr α) : Nat → Rdr (List α)
  | 0, bs => some ([], bs)
  | n + 1, bs => (p bs).bind fun x => (pMany p n x.2).bind fun y => some (x.1 :: y.1, y.2)
def pList {α : Type} (most : Int) (p : Rdr α) : Rdr (List α) := fun bs => (pCount most bs).bind fun x => pMany p x.1 x.2
def pEntry : Rdr Entry := fun bs => (pText 20 bs).bind fun a => (pNum a.2).bind fun b => (pNum b.2).bind fun c => some (⟨a.1, b.1, c.1⟩, c.2)
def pRule : Rdr Rule := fun bs => (pNum bs).bind fun a => (pList 6 pNum a.2).bind fun b => (pNum b.2).bind fun c => (pList 6 pNum c.2).bind fun d => (pNum d.2).bind fun e => some (⟨a.1, b.1, c.1, d.1, e.1⟩, e.2)
def pPart : Rdr Part := fun bs => (pNum bs).bind fun a => (pText 20 a.2).bind fun b => (pNum b.2).bind fun c => (pNum c.2).bind fun d => (pNum d.2).bind fun e => some (⟨a.1, b.1, c.1, d.1, e.1⟩, e.2)
def pStyle : Rdr Style := fun bs => (pNum bs).bind fun a => (pList 12 pPart a.2).bind fun b => some (⟨a.1, b.1⟩, b.2)
def pLocale : Rdr Locale := fun bs => (pText 12 bs).bind fun a => (pNum a.2).bind fun b => (pNum b.2).bind fun c => (pList 30 pEntry c.2).bind fun d => (pList 60 pRule d.2).bind fun e => (pList 20 pStyle e.2).bind fun f => some (⟨a.1, b.1, c.1, d.1, e.1, f.1⟩, f.2)
def pLocales : Rdr (List Locale) := pList 10 pLocale
/-- What Decode answers. -/
def parsed (bs : List Int) : Option (List Locale) := (pLocales bs).bind fun x => if x.2 = [] then some x.1 else none
def decL (bs : List Int) : Option (List Locale) := (parsed bs).bind fun ls => if rightL ls = true then some ls else none

/-- From block B on nothing of w is another in w'. -/
structure Up (B : Nat) (w w' : World) : Prop where
  size : w.heap.size ≤ w'.heap.size
  block : ∀ k, B ≤ k → k < w.heap.size → w'.heap[k]? = w.heap[k]?
theorem Up.refl (B : Nat) (w : World) : Up B w w := ⟨Nat.le_refl _, fun _ _ _ => rfl⟩
theorem Up.trans {B : Nat} {a b c : World} (h : Up B a b) (k : Up B b c) : Up B a c := ⟨Nat.le_trans h.size k.size, fun i h1 h2 => (k.block i h1 (Nat.lt_of_lt_of_le h2 h.size)).trans (h.block i h1 h2)⟩
theorem Up.mono {B B' : Nat} {w w' : World} (h : Up B w w') (hb : B ≤ B') : Up B' w w' := ⟨h.size, fun k h1 h2 => h.block k (Nat.le_trans hb h1) h2⟩
theorem Up.cell {B : Nat} {w w' : World} (h : Up B w w') {a : Addr} {v : Value} (ha : w.cell? a = some v) (hb : B ≤ a.block) : w'.cell? a = some v := by
  rw [← ha]
  unfold World.cell?
  rw [h.block a.block hb (lt_of_cell ha)]
theorem grown_on {g : Nat} {w w1 w2 : World} (h : w.grownBy w1 (some g)) (k : w1.grownBy w2 (some g)) : w.grownBy w2 (some g) := ⟨k.os.trans h.os, k.tape.trans h.tape, k.output.trans h.output, Nat.le_trans h.size k.size, fun i h1 h2 => (k.block i (Nat.lt_of_lt_of_le h1 h.size) h2).trans (h.block i h1 h2)⟩
end Go.Proofs.YtannndpamhgknaaGreatDoor.Bl

/- What is read: package blob's reader: bytes, numbers, counts, texts. -/
namespace Go.Proofs.YtannndpamhgknaaGreatDoor.Bl
open Go.RowKit Gr

theorem set_by (w : World) (g j : Nat) (u : Value) : w.grownBy (w.setCell ⟨g, j, none⟩ u) (some g) := ⟨rfl, rfl, rfl, by simp [World.setCell], fun k _ hk => Below.heap_setCell _ _ _ _ (fun e => hk (by rw [e]))⟩
end Go.Proofs.YtannndpamhgknaaGreatDoor.Bl

/- What package blob answers of words, entries, names. -/
namespace Go.Proofs.YtannndpamhgknaaGreatDoor.Bl
open Go.RowKit Gr

/-- A slice of bytes, in numbers. -/
def Bytes (w : World) (v : Value) (xs : List Int) : Prop :=
  ∃ (ad : Option Addr) (cap : Nat), v = .slice ad xs.length cap ∧ xs.length ≤ maxLen ∧ ∀ j, j < xs.length → ∃ a, ad = some a ∧ w.cell? (a.add j) = some (.int .u8 (xs.getD j 0))
theorem Bytes.on {w w' : World} {v : Value} {xs : List Int} (h : Bytes w v xs) (hb : Below w.heap.size w w') : Bytes w' v xs := by
  obtain ⟨ad, cap, h1, h0, h2⟩ := h
  refine ⟨ad, cap, h1, h0, fun j hj => ?_⟩
  obtain ⟨a, h3, h4⟩ := h2 j hj
  exact ⟨a, h3, (hb.cell (lt_of_cell h4)).trans h4⟩
/-- A string's bytes, in numbers. -/
def nums (s : ByteArray) : List Int := s.data.toList.map fun b => (b.toNat : Int)
theorem nums_length (s : ByteArray) : (nums s).length = s.size := by simp [nums]
end Go.Proofs.YtannndpamhgknaaGreatDoor.Bl

/- Whether a locale's name is taken by one ahead of it. -/
namespace Go.Proofs.YtannndpamhgknaaGreatDoor.Bl
open Go.RowKit Gr

theorem LocalesAt.take {w : World} {ad : Option Addr} {n cap : Nat} {ls : List Locale} (h : LocalesAt w (.slice ad n cap) ls) (i : Nat) (hi : i ≤ ls.length) : LocalesAt w (.slice ad i cap) (ls.take i) := by
  obtain ⟨ad', cap', e, hm, hn, hc⟩ := h
  injection e with e1 e2 e3
  subst e1 e2 e3
  have hl : (ls.take i).length = i := by simp; omega
  refine ⟨ad, cap, by rw [hl], by omega, ⟨hn.1, by omega⟩, fun j hj => ?_⟩
  obtain ⟨g, o, e, hx⟩ := hc j (by omega)
  refine ⟨g, o, e, ?_⟩
  have : (ls.take i).getD j nilLocale = ls.getD j nilLocale := by
    rw [List.getD_eq_getElem?_getD, List.getD_eq_getElem?_getD, List.getElem?_take, if_pos (by omega)]
  rw [this]
  exact hx
end Go.Proofs.YtannndpamhgknaaGreatDoor.Bl

/- Where a locale's Parents are, the farthest first: what package blob's 'chain' answers. -/
namespace Go.Proofs.YtannndpamhgknaaGreatDoor.Bl
open Go.RowKit Gr

/-- Each Parent, from a locale down, is ahead. -/
def Par (ls : List Locale) (i : Nat) : Prop := ∀ j, j ≤ i → -1 ≤ (ls.getD j nilLocale).parent ∧ (ls.getD j nilLocale).parent < (j : Int)
theorem chainUp_length (ls : List Locale) : ∀ (f : Nat) (a : Int), (chainUp ls f a).length ≤ f
  | 0, a => by simp [chainUp]
  | f + 1, a => by
    unfold chainUp
    split
    · simp
    · have := chainUp_length ls f (ls.getD a.toNat nilLocale).parent
      rw [List.length_cons]
      omega
theorem chainUp_neg (ls : List Locale) (f : Nat) (a : Int) (h : a < 0) : chainUp ls f a = [] := by
  cases f with
  | zero => rfl
  | succ f => unfold chainUp; rw [if_pos h]
theorem chainUp_nat (ls : List Locale) (f k : Nat) : chainUp ls (f + 1) (k : Int) = (k : Int) :: chainUp ls f (ls.getD k nilLocale).parent := by
  conv => lhs; unfold chainUp
  rw [if_neg (by omega)]
  simp
theorem chainUp_mem (ls : List Locale) (i : Nat) (hp : Par ls i) : ∀ (f : Nat) (a : Int), a ≤ i → ∀ k ∈ chainUp ls f a, 0 ≤ k ∧ k ≤ i
  | 0, a, _, k, hk => by simp [chainUp] at hk
  | f + 1, a, ha, k, hk => by
    unfold chainUp at hk
    split at hk
    · simp at hk
    · rename_i h0
      rcases List.mem_cons.1 hk with rfl | hk
      · omega
      · have := hp a.toNat (by omega)
        exact chainUp_mem ls i hp f _ (by omega) k hk

end Go.Proofs.YtannndpamhgknaaGreatDoor.Bl

/- Whether locales may be: what package blob's 'rules', 'isRight', 'Right' answer. -/
namespace Go.Proofs.YtannndpamhgknaaGreatDoor.Bl
open Go.RowKit Gr

/-- Locales that are not too great for any count. -/
def Small (ls : List Locale) : Prop := ∀ x ∈ ls, x.rules.length ≤ 10000 ∧ x.lex.length ≤ 10000 ∧ x.styles.length ≤ 10000 ∧ x.id.size ≤ 1000000
theorem Small.at {ls : List Locale} (h : Small ls) (k : Nat) : (ls.getD k nilLocale).rules.length ≤ 10000 ∧ (ls.getD k nilLocale).lex.length ≤ 10000 ∧ (ls.getD k nilLocale).styles.length ≤ 10000 ∧ (ls.getD k nilLocale).id.size ≤ 1000000 := by
  rw [List.getD_eq_getElem?_getD]
  cases hk : ls[k]? with
  | none => exact ⟨by decide, by decide, by decide, by decide⟩
  | some x => exact h x (List.mem_of_getElem? hk)
def rulesUp (ls : List Locale) (l : List Int) : List Rule := l.flatMap fun k => (ls.getD k.toNat nilLocale).rules
theorem rulesUp_length (ls : List Locale) (hS : Small ls) : ∀ l : List Int, (rulesUp ls l).length ≤ 10000 * l.length
  | [] => by simp [rulesUp]
  | k :: l => by
    have h1 := (hS.at k.toNat).1
    have h2 := rulesUp_length ls hS l
    have h3 : rulesUp ls (k :: l) = (ls.getD k.toNat nilLocale).rules ++ rulesUp ls l := rfl
    rw [h3, List.length_append, List.length_cons]
    omega
theorem rulesNew_ok {w : World} {B : Nat} {v : Value} {rs : List Rule} (h : RulesNew w B v rs) (hl : rs.length ≤ 1000000) : RulesOk w v rs := ⟨h.rules hl, h.none_cap⟩
theorem chainOf_length (ls : List Locale) (i : Nat) : (chainOf ls i).length ≤ i + 1 := by
  unfold chainOf
  rw [List.length_reverse]
  exact chainUp_length _ _ _
theorem chainOf_mem (ls : List Locale) (i : Nat) (hp : Par ls i) {k : Int} (h : k ∈ chainOf ls i) : 0 ≤ k ∧ k ≤ i := by
  unfold chainOf at h
  exact chainUp_mem ls i hp _ _ (by omega) k (List.mem_reverse.1 h)

/-- All Parents are ahead. -/
def ParAll (ls : List Locale) : Prop := ∀ j, j < ls.length → -1 ≤ (ls.getD j nilLocale).parent ∧ (ls.getD j nilLocale).parent < (j : Int)
theorem rightAt_parent {ls : List Locale} {i : Nat} (h : rightAt ls i = true) : -1 ≤ (ls.getD i nilLocale).parent ∧ (ls.getD i nilLocale).parent < (i : Int) := by
  unfold rightAt at h
  simp only [Bool.and_eq_true] at h
  have := inB_iff.1 h.2.2.1
  omega
theorem rightL_at {ls : List Locale} (h : rightL ls = true) {i : Nat} (hi : i < ls.length) : rightAt ls i = true := by
  unfold rightL at h
  simp only [Bool.and_eq_true, List.all_eq_true, List.mem_range] at h
  exact h.2 i hi
theorem rightL_length {ls : List Locale} (h : rightL ls = true) : ls.length ≤ 10 := by
  unfold rightL at h
  simp only [Bool.and_eq_true, decide_eq_true_eq] at h
  exact h.1
theorem rightL_par {ls : List Locale} (h : rightL ls = true) : ParAll ls := fun _ hj => rightAt_parent (rightL_at h hj)

end Go.Proofs.YtannndpamhgknaaGreatDoor.Bl
