/- Languages as plain data, and what their bounds say of them. -/
import Derived.Test.YtohgaknojkdohaaGreatDoorGrMath
import Derived.Test.YtohgaknojkdohaaGreatDoorFoMath
namespace Go.Proofs.YtohgaknojkdohaaGreatDoor
open Go.RowKit Gr

structure Entry where
  text : ByteArray
  cls : Int
  val : Int
structure Part where
  kind : Int
  text : ByteArray
  field : Int
  width : Int
  cls : Int
structure Style where
  kind : Int
  parts : List Part
structure Locale where
  id : ByteArray
  parent : Int
  digits : Int
  lex : List Entry
  rules : List Rule
  styles : List Style

def idSign (b : Int) : Bool := inB b 97 122 || (inB b 48 57 || decide (b = 45))
def idOk (s : ByteArray) : Bool := inB (s.size : Int) 1 12 && s.data.toList.all fun b => idSign (b.toNat : Int)
def clsOk (n : Int) : Bool := inB n 1 49
def fieldOk (n : Int) : Bool := inB n 0 5
def wordOk (s : ByteArray) : Bool := inB (s.size : Int) 1 20 && (decide (Fo.textOf s.data.toList = s.data.toList) && (decide (s.data.toList.head? ≠ some 32) && decide (s.data.toList.getLast? ≠ some 32)))
def entryOk (e : Entry) : Bool := wordOk e.text && (clsOk e.cls && inB e.val (-1000000000) 1000000000)
def partOk (p : Part) : Bool :=
  if p.kind = 0 then decide (p.text.size ≤ 20) && (decide (p.field = 0) && (decide (p.width = 0) && decide (p.cls = 0)))
  else if p.kind = 1 then fieldOk p.field && (inB p.width 0 9 && (decide (p.text.size = 0) && decide (p.cls = 0)))
  else if p.kind = 2 then fieldOk p.field && (clsOk p.cls && (decide (p.text.size = 0) && decide (p.width = 0)))
  else false
def styleOk (s : Style) : Bool := inB s.kind 4 10 && (inB (s.parts.length : Int) 1 12 && s.parts.all partOk)
def nilLocale : Locale := ⟨⟨#[]⟩, 0, 0, [], [], []⟩
/-- Where a locale's Parents are, itself first. -/
def chainUp (ls : List Locale) : Nat → Int → List Int
  | 0, _ => []
  | fuel + 1, i => if i < 0 then [] else i :: chainUp ls fuel (ls.getD i.toNat nilLocale).parent
def chainOf (ls : List Locale) (i : Nat) : List Int := (chainUp ls (i + 1) (i : Int)).reverse
def rulesOf (ls : List Locale) (i : Nat) : List Rule := (chainOf ls i).flatMap fun k => (ls.getD k.toNat nilLocale).rules
def takenAt (ls : List Locale) (i : Nat) : Bool := (ls.take i).any fun x => decide (x.id = (ls.getD i nilLocale).id)
def rightAt (ls : List Locale) (i : Nat) : Bool :=
  let x := ls.getD i nilLocale
  idOk x.id && (!takenAt ls i && (inB x.parent (-1) ((i : Int) - 1) && (inB x.digits 0 3 && (decide (x.lex.length ≤ 30) && (x.lex.all entryOk && (decide (x.styles.length ≤ 20) && (x.styles.all styleOk && check (rulesOf ls i))))))))
def rightL (ls : List Locale) : Bool := decide (ls.length ≤ 10) && (List.range ls.length).all (rightAt ls)

end Go.Proofs.YtohgaknojkdohaaGreatDoor
