/-
  NARROWER THAN 'FOR EVERY INPUT', by the rows' own cells (each row's printed sentence says how): GramRight: laid · GramChecks: laid · GramRounds: laid · GramMany: laid · GramReach: laid · GramOrder: laid · GramFewer: laid · GramUnits: laid · GramActs: laid · GramOwn: laid.
  DERIVED. THE GIVEN ROWS OF THIS SEAT. 10 by the template 'for every input the law returns true; each argument reads behind the call as it read before'; 0 by the template 'total and deterministic' (their statements: YtgpkgkmjppphgaaDoorTotals.lean).
  GIVEN WITH THE SEED: the statements are not yours to turn. If you find one false, say at which input.
  Laid BY PROGRAM, IN A SANDBOX (cutbox-rows.mjs): the forced cells as the released guide's own fill.sh prints them over the translation e3b5d31fd773d921… (all of the seat's roots in one cut). By AI agents, Wed Nov 11 2026. No macro, syntax, notation, axiom, sorry.
-/
import Derived.Test.YtgpkgkmjppphgaaDoorChecked
import GoSem.Claim
import GoSem.ClaimJoined
import GoSem.ClaimMapViews
import Derived.JoinedTies
import Derived.KernelRfl
namespace Go.Proofs.YtgpkgkmjppphgaaDoor
/- THE CELL 'sum', in the pinned program and in every row, IS THE sha256 OF THE DUMP (.gsa) THAT YtgpkgkmjppphgaaDoorProg.lean LOADS. Nothing in Lean hashes anything: it is a label: what it is worth is what the hold of that sum in a sandbox is worth. -/
noncomputable def Tryd.pinned : Pinned := { name := "ytgpkgkmjppphgaadoor", sum := "e3b5d31fd773d921a4f312597c4e090346373eca8c8a1729b2825d40aef90ee8", checked := Tryd.checked }
namespace Rows
def none {H : Type} : Left H := { results := [], args := [] }

/- WHAT THE LISTED PACKAGE-LEVEL VARIABLES READ AS WHEN THE CALL BEGINS. Each datum BY PROGRAM (the guide's laid-datum.mjs) off the statement by which the dump's own 'gosem.cut.vars' lays the variable. In a bare row this is a premise. The card (YtgpkgkmjppphgaaDoorCards.lean) ties it to the program's text. -/
def laid_interlocutor_gram_places {H : Type} : DataW H := .agg [.agg [.lit (.int .i64 1), .lit (.int .i64 1)], .agg [.lit (.int .i64 3), .lit (.int .i64 3)], .agg [.lit (.int .i64 2), .lit (.int .i64 2)], .agg [.lit (.int .i64 2), .lit (.int .i64 3)], .agg [.lit (.int .i64 2), .lit (.int .i64 3)], .agg [.lit (.int .i64 2), .lit (.int .i64 2)], .agg [.lit (.int .i64 3), .lit (.int .i64 3)], .agg [.lit (.int .i64 1), .lit (.int .i64 1)], .agg [.lit (.int .i64 1), .lit (.int .i64 1)], .agg [.lit (.int .i64 2), .lit (.int .i64 2)], .agg [.lit (.int .i64 1), .lit (.int .i64 6)], .agg [.lit (.int .i64 1), .lit (.int .i64 1)], .agg [.lit (.int .i64 2), .lit (.int .i64 2)], .agg [.lit (.int .i64 2), .lit (.int .i64 2)], .agg [.lit (.int .i64 2), .lit (.int .i64 2)], .agg [.lit (.int .i64 2), .lit (.int .i64 2)]]

/-- 'interlocutorlaw4.GramRight': WHATEVER THE INPUT: true; the input reads as it did. -/
def gramRightSpec : ChangeSpec := { name := "gramRight", fn := fun _ => fun
  | [d1, d2, d3, d4] => { results := [.lit (.bool true)], args := [d1, d2, d3, d4] }
  | _ => none }
def gramRightRow : OpenClaim := { program := "ytgpkgkmjppphgaadoor", sum := "e3b5d31fd773d921a4f312597c4e090346373eca8c8a1729b2825d40aef90ee8", func := "interlocutor/interlocutorlaw4.GramRight", spec := "gramRight", unfollowed := true, recurses := true, named := ["interlocutor/gram.places"], apart := false, laid := [("interlocutor/gram.places", laid_interlocutor_gram_places)] }
def GramRightSaid : Prop := gramRightRow.holds Tryd.pinned (OpenSpec.ofChange gramRightSpec)

/-- ITS FALSE NEIGHBOUR: 'it returns false'. Refute it at one input. -/
def gramRightWrong : ChangeSpec := { name := "gramRight", fn := fun _ => fun
  | [d1, d2, d3, d4] => { results := [.lit (.bool false)], args := [d1, d2, d3, d4] }
  | _ => none }
def GramRightWrongFalsely : Prop := gramRightRow.holds Tryd.pinned (OpenSpec.ofChange gramRightWrong)

/-- 'interlocutorlaw4.GramChecks': WHATEVER THE INPUT: true; the input reads as it did. -/
def gramChecksSpec : ChangeSpec := { name := "gramChecks", fn := fun _ => fun
  | [d1, d2, d3] => { results := [.lit (.bool true)], args := [d1, d2, d3] }
  | _ => none }
def gramChecksRow : OpenClaim := { program := "ytgpkgkmjppphgaadoor", sum := "e3b5d31fd773d921a4f312597c4e090346373eca8c8a1729b2825d40aef90ee8", func := "interlocutor/interlocutorlaw4.GramChecks", spec := "gramChecks", unfollowed := true, recurses := true, named := ["interlocutor/gram.places"], apart := false, laid := [("interlocutor/gram.places", laid_interlocutor_gram_places)] }
def GramChecksSaid : Prop := gramChecksRow.holds Tryd.pinned (OpenSpec.ofChange gramChecksSpec)

/-- ITS FALSE NEIGHBOUR: 'it returns false'. Refute it at one input. -/
def gramChecksWrong : ChangeSpec := { name := "gramChecks", fn := fun _ => fun
  | [d1, d2, d3] => { results := [.lit (.bool false)], args := [d1, d2, d3] }
  | _ => none }
def GramChecksWrongFalsely : Prop := gramChecksRow.holds Tryd.pinned (OpenSpec.ofChange gramChecksWrong)

/-- 'interlocutorlaw4.GramRounds': WHATEVER THE INPUT: true; the input reads as it did. -/
def gramRoundsSpec : ChangeSpec := { name := "gramRounds", fn := fun _ => fun
  | [d1, d2, d3] => { results := [.lit (.bool true)], args := [d1, d2, d3] }
  | _ => none }
def gramRoundsRow : OpenClaim := { program := "ytgpkgkmjppphgaadoor", sum := "e3b5d31fd773d921a4f312597c4e090346373eca8c8a1729b2825d40aef90ee8", func := "interlocutor/interlocutorlaw4.GramRounds", spec := "gramRounds", unfollowed := true, recurses := true, named := ["interlocutor/gram.places"], apart := false, laid := [("interlocutor/gram.places", laid_interlocutor_gram_places)] }
def GramRoundsSaid : Prop := gramRoundsRow.holds Tryd.pinned (OpenSpec.ofChange gramRoundsSpec)

/-- ITS FALSE NEIGHBOUR: 'it returns false'. Refute it at one input. -/
def gramRoundsWrong : ChangeSpec := { name := "gramRounds", fn := fun _ => fun
  | [d1, d2, d3] => { results := [.lit (.bool false)], args := [d1, d2, d3] }
  | _ => none }
def GramRoundsWrongFalsely : Prop := gramRoundsRow.holds Tryd.pinned (OpenSpec.ofChange gramRoundsWrong)

/-- 'interlocutorlaw4.GramMany': WHATEVER THE INPUT: true; the input reads as it did. -/
def gramManySpec : ChangeSpec := { name := "gramMany", fn := fun _ => fun
  | [d] => { results := [.lit (.bool true)], args := [d] }
  | _ => none }
def gramManyRow : OpenClaim := { program := "ytgpkgkmjppphgaadoor", sum := "e3b5d31fd773d921a4f312597c4e090346373eca8c8a1729b2825d40aef90ee8", func := "interlocutor/interlocutorlaw4.GramMany", spec := "gramMany", unfollowed := true, recurses := true, named := ["interlocutor/gram.places"], apart := false, laid := [("interlocutor/gram.places", laid_interlocutor_gram_places)] }
def GramManySaid : Prop := gramManyRow.holds Tryd.pinned (OpenSpec.ofChange gramManySpec)

/-- ITS FALSE NEIGHBOUR: 'it returns false'. Refute it at one input. -/
def gramManyWrong : ChangeSpec := { name := "gramMany", fn := fun _ => fun
  | [d] => { results := [.lit (.bool false)], args := [d] }
  | _ => none }
def GramManyWrongFalsely : Prop := gramManyRow.holds Tryd.pinned (OpenSpec.ofChange gramManyWrong)

/-- 'interlocutorlaw4.GramReach': WHATEVER THE INPUT: true; the input reads as it did. -/
def gramReachSpec : ChangeSpec := { name := "gramReach", fn := fun _ => fun
  | [d1, d2] => { results := [.lit (.bool true)], args := [d1, d2] }
  | _ => none }
def gramReachRow : OpenClaim := { program := "ytgpkgkmjppphgaadoor", sum := "e3b5d31fd773d921a4f312597c4e090346373eca8c8a1729b2825d40aef90ee8", func := "interlocutor/interlocutorlaw4.GramReach", spec := "gramReach", unfollowed := true, recurses := true, named := ["interlocutor/gram.places"], apart := false, laid := [("interlocutor/gram.places", laid_interlocutor_gram_places)] }
def GramReachSaid : Prop := gramReachRow.holds Tryd.pinned (OpenSpec.ofChange gramReachSpec)

/-- ITS FALSE NEIGHBOUR: 'it returns false'. Refute it at one input. -/
def gramReachWrong : ChangeSpec := { name := "gramReach", fn := fun _ => fun
  | [d1, d2] => { results := [.lit (.bool false)], args := [d1, d2] }
  | _ => none }
def GramReachWrongFalsely : Prop := gramReachRow.holds Tryd.pinned (OpenSpec.ofChange gramReachWrong)

/-- 'interlocutorlaw4.GramOrder': WHATEVER THE INPUT: true; the input reads as it did. -/
def gramOrderSpec : ChangeSpec := { name := "gramOrder", fn := fun _ => fun
  | [d1, d2, d3] => { results := [.lit (.bool true)], args := [d1, d2, d3] }
  | _ => none }
def gramOrderRow : OpenClaim := { program := "ytgpkgkmjppphgaadoor", sum := "e3b5d31fd773d921a4f312597c4e090346373eca8c8a1729b2825d40aef90ee8", func := "interlocutor/interlocutorlaw4.GramOrder", spec := "gramOrder", unfollowed := true, recurses := true, named := ["interlocutor/gram.places"], apart := false, laid := [("interlocutor/gram.places", laid_interlocutor_gram_places)] }
def GramOrderSaid : Prop := gramOrderRow.holds Tryd.pinned (OpenSpec.ofChange gramOrderSpec)

/-- ITS FALSE NEIGHBOUR: 'it returns false'. Refute it at one input. -/
def gramOrderWrong : ChangeSpec := { name := "gramOrder", fn := fun _ => fun
  | [d1, d2, d3] => { results := [.lit (.bool false)], args := [d1, d2, d3] }
  | _ => none }
def GramOrderWrongFalsely : Prop := gramOrderRow.holds Tryd.pinned (OpenSpec.ofChange gramOrderWrong)

/-- 'interlocutorlaw4.GramFewer': WHATEVER THE INPUT: true; the input reads as it did. -/
def gramFewerSpec : ChangeSpec := { name := "gramFewer", fn := fun _ => fun
  | [d1, d2, d3] => { results := [.lit (.bool true)], args := [d1, d2, d3] }
  | _ => none }
def gramFewerRow : OpenClaim := { program := "ytgpkgkmjppphgaadoor", sum := "e3b5d31fd773d921a4f312597c4e090346373eca8c8a1729b2825d40aef90ee8", func := "interlocutor/interlocutorlaw4.GramFewer", spec := "gramFewer", unfollowed := true, recurses := true, named := ["interlocutor/gram.places"], apart := false, laid := [("interlocutor/gram.places", laid_interlocutor_gram_places)] }
def GramFewerSaid : Prop := gramFewerRow.holds Tryd.pinned (OpenSpec.ofChange gramFewerSpec)

/-- ITS FALSE NEIGHBOUR: 'it returns false'. Refute it at one input. -/
def gramFewerWrong : ChangeSpec := { name := "gramFewer", fn := fun _ => fun
  | [d1, d2, d3] => { results := [.lit (.bool false)], args := [d1, d2, d3] }
  | _ => none }
def GramFewerWrongFalsely : Prop := gramFewerRow.holds Tryd.pinned (OpenSpec.ofChange gramFewerWrong)

/-- 'interlocutorlaw4.GramUnits': WHATEVER THE INPUT: true; the input reads as it did. -/
def gramUnitsSpec : ChangeSpec := { name := "gramUnits", fn := fun _ => fun
  | [d1, d2] => { results := [.lit (.bool true)], args := [d1, d2] }
  | _ => none }
def gramUnitsRow : OpenClaim := { program := "ytgpkgkmjppphgaadoor", sum := "e3b5d31fd773d921a4f312597c4e090346373eca8c8a1729b2825d40aef90ee8", func := "interlocutor/interlocutorlaw4.GramUnits", spec := "gramUnits", unfollowed := true, recurses := true, named := ["interlocutor/gram.places"], apart := false, laid := [("interlocutor/gram.places", laid_interlocutor_gram_places)] }
def GramUnitsSaid : Prop := gramUnitsRow.holds Tryd.pinned (OpenSpec.ofChange gramUnitsSpec)

/-- ITS FALSE NEIGHBOUR: 'it returns false'. Refute it at one input. -/
def gramUnitsWrong : ChangeSpec := { name := "gramUnits", fn := fun _ => fun
  | [d1, d2] => { results := [.lit (.bool false)], args := [d1, d2] }
  | _ => none }
def GramUnitsWrongFalsely : Prop := gramUnitsRow.holds Tryd.pinned (OpenSpec.ofChange gramUnitsWrong)

/-- 'interlocutorlaw4.GramActs': WHATEVER THE INPUT: true; the input reads as it did. -/
def gramActsSpec : ChangeSpec := { name := "gramActs", fn := fun _ => fun
  | [d1, d2, d3] => { results := [.lit (.bool true)], args := [d1, d2, d3] }
  | _ => none }
def gramActsRow : OpenClaim := { program := "ytgpkgkmjppphgaadoor", sum := "e3b5d31fd773d921a4f312597c4e090346373eca8c8a1729b2825d40aef90ee8", func := "interlocutor/interlocutorlaw4.GramActs", spec := "gramActs", unfollowed := true, recurses := true, named := ["interlocutor/gram.places"], apart := false, laid := [("interlocutor/gram.places", laid_interlocutor_gram_places)] }
def GramActsSaid : Prop := gramActsRow.holds Tryd.pinned (OpenSpec.ofChange gramActsSpec)

/-- ITS FALSE NEIGHBOUR: 'it returns false'. Refute it at one input. -/
def gramActsWrong : ChangeSpec := { name := "gramActs", fn := fun _ => fun
  | [d1, d2, d3] => { results := [.lit (.bool false)], args := [d1, d2, d3] }
  | _ => none }
def GramActsWrongFalsely : Prop := gramActsRow.holds Tryd.pinned (OpenSpec.ofChange gramActsWrong)

/-- 'interlocutorlaw4.GramOwn': WHATEVER THE INPUT: true; the input reads as it did. -/
def gramOwnSpec : ChangeSpec := { name := "gramOwn", fn := fun _ => fun
  | [d1, d2, d3] => { results := [.lit (.bool true)], args := [d1, d2, d3] }
  | _ => none }
def gramOwnRow : OpenClaim := { program := "ytgpkgkmjppphgaadoor", sum := "e3b5d31fd773d921a4f312597c4e090346373eca8c8a1729b2825d40aef90ee8", func := "interlocutor/interlocutorlaw4.GramOwn", spec := "gramOwn", unfollowed := true, recurses := true, named := ["interlocutor/gram.places"], apart := false, laid := [("interlocutor/gram.places", laid_interlocutor_gram_places)] }
def GramOwnSaid : Prop := gramOwnRow.holds Tryd.pinned (OpenSpec.ofChange gramOwnSpec)

/-- ITS FALSE NEIGHBOUR: 'it returns false'. Refute it at one input. -/
def gramOwnWrong : ChangeSpec := { name := "gramOwn", fn := fun _ => fun
  | [d1, d2, d3] => { results := [.lit (.bool false)], args := [d1, d2, d3] }
  | _ => none }
def GramOwnWrongFalsely : Prop := gramOwnRow.holds Tryd.pinned (OpenSpec.ofChange gramOwnWrong)

/- THE SECOND FORM. 'bulk': how many values and letters a reading holds, each counted each time it is reached (what is shared counts as often as it is met; a slice's spare places count too). A statement '..UptoSaid' is the law's where the arguments, and the package variables that the reading takes, are together of bulk at most 1048576: NARROWER than '..Said'. Prove '..Said' where nothing that the law and all that it calls make is longer than what came in: it says more and counts as full. Else prove '..UptoSaid'. A law counts once. -/
mutual
def uptoBulk {H : Type} : DataW H → Nat
  | .lit (.string bytes) => bytes.length + 1
  | .lit _ => 1
  | .nil => 1
  | .ptr d => uptoBulk d + 1
  | .slice elems spare => uptoBulkAll elems + uptoBulkAll spare + 1
  | .agg parts => uptoBulkAll parts + 1
  | .iface _ d => uptoBulk d + 1
  | .map entries => uptoBulkEntries entries + 1
  | .held _ => 1
def uptoBulkAll {H : Type} : List (DataW H) → Nat
  | [] => 0
  | d :: r => uptoBulk d + uptoBulkAll r
def uptoBulkEntries {H : Type} : List (Lit × DataW H) → Nat
  | [] => 0
  | x :: r => uptoBulkEntry x + uptoBulkEntries r
def uptoBulkEntry {H : Type} : Lit × DataW H → Nat
  | (.string bytes, d) => bytes.length + uptoBulk d + 1
  | (_, d) => uptoBulk d + 1
 end
def uptoSmall : (H : Type) → List (DataW H) → Bool := fun _ ds => decide (uptoBulkAll ds ≤ 1048576)
def OpenSpec.upto (s : _root_.Go.ChangeSpec) : _root_.Go.OpenSpec := { _root_.Go.OpenSpec.ofChange s with cond := some uptoSmall }

/-- 'interlocutorlaw4.GramRight', WHERE WHAT IT READS IS OF BULK AT MOST 1048576: true; the input reads as it did. -/
def gramRightUptoRow : OpenClaim := { program := "ytgpkgkmjppphgaadoor", sum := "e3b5d31fd773d921a4f312597c4e090346373eca8c8a1729b2825d40aef90ee8", func := "interlocutor/interlocutorlaw4.GramRight", spec := "gramRight", unfollowed := true, recurses := true, named := ["interlocutor/gram.places"], apart := false, laid := [("interlocutor/gram.places", laid_interlocutor_gram_places)], narrowed := true }
def GramRightUptoSaid : Prop := gramRightUptoRow.holds Tryd.pinned (OpenSpec.upto gramRightSpec)

/-- 'interlocutorlaw4.GramChecks', WHERE WHAT IT READS IS OF BULK AT MOST 1048576: true; the input reads as it did. -/
def gramChecksUptoRow : OpenClaim := { program := "ytgpkgkmjppphgaadoor", sum := "e3b5d31fd773d921a4f312597c4e090346373eca8c8a1729b2825d40aef90ee8", func := "interlocutor/interlocutorlaw4.GramChecks", spec := "gramChecks", unfollowed := true, recurses := true, named := ["interlocutor/gram.places"], apart := false, laid := [("interlocutor/gram.places", laid_interlocutor_gram_places)], narrowed := true }
def GramChecksUptoSaid : Prop := gramChecksUptoRow.holds Tryd.pinned (OpenSpec.upto gramChecksSpec)

/-- 'interlocutorlaw4.GramRounds', WHERE WHAT IT READS IS OF BULK AT MOST 1048576: true; the input reads as it did. -/
def gramRoundsUptoRow : OpenClaim := { program := "ytgpkgkmjppphgaadoor", sum := "e3b5d31fd773d921a4f312597c4e090346373eca8c8a1729b2825d40aef90ee8", func := "interlocutor/interlocutorlaw4.GramRounds", spec := "gramRounds", unfollowed := true, recurses := true, named := ["interlocutor/gram.places"], apart := false, laid := [("interlocutor/gram.places", laid_interlocutor_gram_places)], narrowed := true }
def GramRoundsUptoSaid : Prop := gramRoundsUptoRow.holds Tryd.pinned (OpenSpec.upto gramRoundsSpec)

/-- 'interlocutorlaw4.GramMany', WHERE WHAT IT READS IS OF BULK AT MOST 1048576: true; the input reads as it did. -/
def gramManyUptoRow : OpenClaim := { program := "ytgpkgkmjppphgaadoor", sum := "e3b5d31fd773d921a4f312597c4e090346373eca8c8a1729b2825d40aef90ee8", func := "interlocutor/interlocutorlaw4.GramMany", spec := "gramMany", unfollowed := true, recurses := true, named := ["interlocutor/gram.places"], apart := false, laid := [("interlocutor/gram.places", laid_interlocutor_gram_places)], narrowed := true }
def GramManyUptoSaid : Prop := gramManyUptoRow.holds Tryd.pinned (OpenSpec.upto gramManySpec)

/-- 'interlocutorlaw4.GramReach', WHERE WHAT IT READS IS OF BULK AT MOST 1048576: true; the input reads as it did. -/
def gramReachUptoRow : OpenClaim := { program := "ytgpkgkmjppphgaadoor", sum := "e3b5d31fd773d921a4f312597c4e090346373eca8c8a1729b2825d40aef90ee8", func := "interlocutor/interlocutorlaw4.GramReach", spec := "gramReach", unfollowed := true, recurses := true, named := ["interlocutor/gram.places"], apart := false, laid := [("interlocutor/gram.places", laid_interlocutor_gram_places)], narrowed := true }
def GramReachUptoSaid : Prop := gramReachUptoRow.holds Tryd.pinned (OpenSpec.upto gramReachSpec)

/-- 'interlocutorlaw4.GramOrder', WHERE WHAT IT READS IS OF BULK AT MOST 1048576: true; the input reads as it did. -/
def gramOrderUptoRow : OpenClaim := { program := "ytgpkgkmjppphgaadoor", sum := "e3b5d31fd773d921a4f312597c4e090346373eca8c8a1729b2825d40aef90ee8", func := "interlocutor/interlocutorlaw4.GramOrder", spec := "gramOrder", unfollowed := true, recurses := true, named := ["interlocutor/gram.places"], apart := false, laid := [("interlocutor/gram.places", laid_interlocutor_gram_places)], narrowed := true }
def GramOrderUptoSaid : Prop := gramOrderUptoRow.holds Tryd.pinned (OpenSpec.upto gramOrderSpec)

/-- 'interlocutorlaw4.GramFewer', WHERE WHAT IT READS IS OF BULK AT MOST 1048576: true; the input reads as it did. -/
def gramFewerUptoRow : OpenClaim := { program := "ytgpkgkmjppphgaadoor", sum := "e3b5d31fd773d921a4f312597c4e090346373eca8c8a1729b2825d40aef90ee8", func := "interlocutor/interlocutorlaw4.GramFewer", spec := "gramFewer", unfollowed := true, recurses := true, named := ["interlocutor/gram.places"], apart := false, laid := [("interlocutor/gram.places", laid_interlocutor_gram_places)], narrowed := true }
def GramFewerUptoSaid : Prop := gramFewerUptoRow.holds Tryd.pinned (OpenSpec.upto gramFewerSpec)

/-- 'interlocutorlaw4.GramUnits', WHERE WHAT IT READS IS OF BULK AT MOST 1048576: true; the input reads as it did. -/
def gramUnitsUptoRow : OpenClaim := { program := "ytgpkgkmjppphgaadoor", sum := "e3b5d31fd773d921a4f312597c4e090346373eca8c8a1729b2825d40aef90ee8", func := "interlocutor/interlocutorlaw4.GramUnits", spec := "gramUnits", unfollowed := true, recurses := true, named := ["interlocutor/gram.places"], apart := false, laid := [("interlocutor/gram.places", laid_interlocutor_gram_places)], narrowed := true }
def GramUnitsUptoSaid : Prop := gramUnitsUptoRow.holds Tryd.pinned (OpenSpec.upto gramUnitsSpec)

/-- 'interlocutorlaw4.GramActs', WHERE WHAT IT READS IS OF BULK AT MOST 1048576: true; the input reads as it did. -/
def gramActsUptoRow : OpenClaim := { program := "ytgpkgkmjppphgaadoor", sum := "e3b5d31fd773d921a4f312597c4e090346373eca8c8a1729b2825d40aef90ee8", func := "interlocutor/interlocutorlaw4.GramActs", spec := "gramActs", unfollowed := true, recurses := true, named := ["interlocutor/gram.places"], apart := false, laid := [("interlocutor/gram.places", laid_interlocutor_gram_places)], narrowed := true }
def GramActsUptoSaid : Prop := gramActsUptoRow.holds Tryd.pinned (OpenSpec.upto gramActsSpec)

/-- 'interlocutorlaw4.GramOwn', WHERE WHAT IT READS IS OF BULK AT MOST 1048576: true; the input reads as it did. -/
def gramOwnUptoRow : OpenClaim := { program := "ytgpkgkmjppphgaadoor", sum := "e3b5d31fd773d921a4f312597c4e090346373eca8c8a1729b2825d40aef90ee8", func := "interlocutor/interlocutorlaw4.GramOwn", spec := "gramOwn", unfollowed := true, recurses := true, named := ["interlocutor/gram.places"], apart := false, laid := [("interlocutor/gram.places", laid_interlocutor_gram_places)], narrowed := true }
def GramOwnUptoSaid : Prop := gramOwnUptoRow.holds Tryd.pinned (OpenSpec.upto gramOwnSpec)

end Rows
end Go.Proofs.YtgpkgkmjppphgaaDoor
