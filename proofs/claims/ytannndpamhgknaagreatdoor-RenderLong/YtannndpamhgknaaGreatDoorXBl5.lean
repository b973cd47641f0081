/- What was written is read as it was: plain mathematics of encLocales and decL. -/
import Derived.Test.YtannndpamhgknaaGreatDoorXBl2
namespace Go.Proofs.YtannndpamhgknaaGreatDoor.Bl
open Go.RowKit Gr

def I64 (n : Int) : Prop := -9223372036854775808 ≤ n ∧ n ≤ 9223372036854775807
def OkEntry (x : Entry) : Prop := x.text.size ≤ 20 ∧ I64 x.cls ∧ I64 x.val
def OkPart (x : Part) : Prop := I64 x.kind ∧ x.text.size ≤ 20 ∧ I64 x.field ∧ I64 x.width ∧ I64 x.cls
def OkStyle (x : Style) : Prop := I64 x.kind ∧ x.parts.length ≤ 12 ∧ ∀ y ∈ x.parts, OkPart y
def OkRule (x : Rule) : Prop := I64 x.lhs ∧ (x.rhs.length ≤ 6 ∧ ∀ n ∈ x.rhs, I64 n) ∧ I64 x.op ∧ (x.p.length ≤ 6 ∧ ∀ n ∈ x.p, I64 n) ∧ I64 x.cost
def OkLocale (x : Locale) : Prop := x.id.size ≤ 12 ∧ I64 x.parent ∧ I64 x.digits ∧ (x.lex.length ≤ 30 ∧ ∀ y ∈ x.lex, OkEntry y) ∧ (x.rules.length ≤ 60 ∧ ∀ y ∈ x.rules, OkRule y) ∧ (x.styles.length ≤ 20 ∧ ∀ y ∈ x.styles, OkStyle y)
end Go.Proofs.YtannndpamhgknaaGreatDoor.Bl
