/-
  NARROWER THAN 'FOR EVERY INPUT', by the rows' own cells (each row's printed sentence says how): ActDoes: laid · ActFits: laid · ActMoney: laid.
  DERIVED. THE GIVEN ROWS OF THIS SEAT. 3 by the template 'for every input the law returns true; each argument reads behind the call as it read before'; 0 by the template 'total and deterministic' (their statements: YtengcdodoblabaaGreatDoorTotals.lean).
  GIVEN WITH THE SEED: the statements are not yours to turn. If you find one false, say at which input.
  Laid BY PROGRAM, IN A SANDBOX (cutbox-rows.mjs): the forced cells as the released guide's own fill.sh prints them over the translation 004b35d70d161e14… (all of the seat's roots in one cut). By AI agents, Wed Nov 11 2026. No macro, syntax, notation, axiom, sorry.
-/
import Derived.Test.YtengcdodoblabaaGreatDoorChecked
import GoSem.Claim
import GoSem.ClaimJoined
import GoSem.ClaimMapViews
import Derived.JoinedTies
import Derived.KernelRfl
namespace Go.Proofs.YtengcdodoblabaaGreatDoor
/- THE CELL 'sum', in the pinned program and in every row, IS THE sha256 OF THE DUMP (.gsa) THAT YtengcdodoblabaaGreatDoorProg.lean LOADS. Nothing in Lean hashes anything: it is a label: what it is worth is what the hold of that sum in a sandbox is worth. -/
noncomputable def Tryz.pinned : Pinned := { name := "ytengcdodoblabaagreatdoor", sum := "004b35d70d161e14f4a137ad356fc37fa85ee262ddff777516fe1bd0d6070093", checked := Tryz.checked }
namespace Rows
def none {H : Type} : Left H := { results := [], args := [] }

/- WHAT THE LISTED PACKAGE-LEVEL VARIABLES READ AS WHEN THE CALL BEGINS. Each datum BY PROGRAM (the guide's laid-datum.mjs) off the statement by which the dump's own 'gosem.cut.vars' lays the variable. In a bare row this is a premise. The card (YtengcdodoblabaaGreatDoorCards.lean) ties it to the program's text. -/
def laid_interlocutor_act_fields {H : Type} : DataW H := .agg [.lit (.int .i64 0), .lit (.int .i64 2), .lit (.int .i64 1), .lit (.int .i64 0), .lit (.int .i64 3), .lit (.int .i64 3), .lit (.int .i64 6), .lit (.int .i64 2), .lit (.int .i64 2), .lit (.int .i64 1), .lit (.int .i64 6)]
def laid_interlocutor_act_errNone {H : Type} : DataW H := .iface "*errors.errorString" (.ptr (.agg [.lit (.string [110, 111, 110, 101])]))

/-- 'interlocutorlaw8.ActDoes': WHATEVER THE INPUT: true; the input reads as it did. -/
def actDoesSpec : ChangeSpec := { name := "actDoes", fn := fun _ => fun
  | [d1, d2, d3, d4] => { results := [.lit (.bool true)], args := [d1, d2, d3, d4] }
  | _ => none }
def actDoesRow : OpenClaim := { program := "ytengcdodoblabaagreatdoor", sum := "004b35d70d161e14f4a137ad356fc37fa85ee262ddff777516fe1bd0d6070093", func := "interlocutor/interlocutorlaw8.ActDoes", spec := "actDoes", unfollowed := true, recurses := true, named := ["interlocutor/act.errNone", "interlocutor/act.fields"], apart := false, laid := [("interlocutor/act.fields", laid_interlocutor_act_fields), ("interlocutor/act.errNone", laid_interlocutor_act_errNone)] }
def ActDoesSaid : Prop := actDoesRow.holds Tryz.pinned (OpenSpec.ofChange actDoesSpec)

/-- ITS FALSE NEIGHBOUR: 'it returns false'. Refute it at one input. -/
def actDoesWrong : ChangeSpec := { name := "actDoes", fn := fun _ => fun
  | [d1, d2, d3, d4] => { results := [.lit (.bool false)], args := [d1, d2, d3, d4] }
  | _ => none }
def ActDoesWrongFalsely : Prop := actDoesRow.holds Tryz.pinned (OpenSpec.ofChange actDoesWrong)

/-- 'interlocutorlaw8.ActFits': WHATEVER THE INPUT: true; the input reads as it did. -/
def actFitsSpec : ChangeSpec := { name := "actFits", fn := fun _ => fun
  | [d1, d2, d3, d4, d5] => { results := [.lit (.bool true)], args := [d1, d2, d3, d4, d5] }
  | _ => none }
def actFitsRow : OpenClaim := { program := "ytengcdodoblabaagreatdoor", sum := "004b35d70d161e14f4a137ad356fc37fa85ee262ddff777516fe1bd0d6070093", func := "interlocutor/interlocutorlaw8.ActFits", spec := "actFits", unfollowed := true, recurses := true, named := ["interlocutor/act.errNone", "interlocutor/act.fields"], apart := false, laid := [("interlocutor/act.fields", laid_interlocutor_act_fields), ("interlocutor/act.errNone", laid_interlocutor_act_errNone)] }
def ActFitsSaid : Prop := actFitsRow.holds Tryz.pinned (OpenSpec.ofChange actFitsSpec)

/-- ITS FALSE NEIGHBOUR: 'it returns false'. Refute it at one input. -/
def actFitsWrong : ChangeSpec := { name := "actFits", fn := fun _ => fun
  | [d1, d2, d3, d4, d5] => { results := [.lit (.bool false)], args := [d1, d2, d3, d4, d5] }
  | _ => none }
def ActFitsWrongFalsely : Prop := actFitsRow.holds Tryz.pinned (OpenSpec.ofChange actFitsWrong)

/-- 'interlocutorlaw8.ActMoney': WHATEVER THE INPUT: true; the input reads as it did. -/
def actMoneySpec : ChangeSpec := { name := "actMoney", fn := fun _ => fun
  | [d1, d2, d3] => { results := [.lit (.bool true)], args := [d1, d2, d3] }
  | _ => none }
def actMoneyRow : OpenClaim := { program := "ytengcdodoblabaagreatdoor", sum := "004b35d70d161e14f4a137ad356fc37fa85ee262ddff777516fe1bd0d6070093", func := "interlocutor/interlocutorlaw8.ActMoney", spec := "actMoney", unfollowed := true, recurses := true, named := ["interlocutor/act.errNone", "interlocutor/act.fields"], apart := false, laid := [("interlocutor/act.fields", laid_interlocutor_act_fields), ("interlocutor/act.errNone", laid_interlocutor_act_errNone)] }
def ActMoneySaid : Prop := actMoneyRow.holds Tryz.pinned (OpenSpec.ofChange actMoneySpec)

/-- ITS FALSE NEIGHBOUR: 'it returns false'. Refute it at one input. -/
def actMoneyWrong : ChangeSpec := { name := "actMoney", fn := fun _ => fun
  | [d1, d2, d3] => { results := [.lit (.bool false)], args := [d1, d2, d3] }
  | _ => none }
def ActMoneyWrongFalsely : Prop := actMoneyRow.holds Tryz.pinned (OpenSpec.ofChange actMoneyWrong)

/- THE SECOND FORM. 'bulk': how many values and letters a reading holds, each counted each time it is reached (what is shared counts as often as it is met; a slice's spare places count too). A statement '..UptoSaid' is the law's where the arguments, and the package variables that the reading takes, are together of bulk at most 1048576: NARROWER than '..Said'. Prove '..Said' where nothing that the law and all that it calls make is longer than what came in: it says more and counts as full. Else prove '..UptoSaid'. A law counts once. -/
mutual
def uptoBulk {H : Type} : DataW H → Nat
  | .lit (.string bytes) => bytes.length + 1
  | .lit _ => 1
  | .nil => 1
  | .ptr d => uptoBulk d + 1
  | .slice elems spare => uptoBulkAll elems + uptoBulkAll spare + 1
  | .agg parts => uptoBulkAll parts + 1
  | .iface _ d => uptoBulk d + 1
  | .map entries => uptoBulkEntries entries + 1
  | .held _ => 1
def uptoBulkAll {H : Type} : List (DataW H) → Nat
  | [] => 0
  | d :: r => uptoBulk d + uptoBulkAll r
def uptoBulkEntries {H : Type} : List (Lit × DataW H) → Nat
  | [] => 0
  | x :: r => uptoBulkEntry x + uptoBulkEntries r
def uptoBulkEntry {H : Type} : Lit × DataW H → Nat
  | (.string bytes, d) => bytes.length + uptoBulk d + 1
  | (_, d) => uptoBulk d + 1
 end
def uptoSmall : (H : Type) → List (DataW H) → Bool := fun _ ds => decide (uptoBulkAll ds ≤ 1048576)
def OpenSpec.upto (s : _root_.Go.ChangeSpec) : _root_.Go.OpenSpec := { _root_.Go.OpenSpec.ofChange s with cond := some uptoSmall }

/-- 'interlocutorlaw8.ActDoes', WHERE WHAT IT READS IS OF BULK AT MOST 1048576: true; the input reads as it did. -/
def actDoesUptoRow : OpenClaim := { program := "ytengcdodoblabaagreatdoor", sum := "004b35d70d161e14f4a137ad356fc37fa85ee262ddff777516fe1bd0d6070093", func := "interlocutor/interlocutorlaw8.ActDoes", spec := "actDoes", unfollowed := true, recurses := true, named := ["interlocutor/act.errNone", "interlocutor/act.fields"], apart := false, laid := [("interlocutor/act.fields", laid_interlocutor_act_fields), ("interlocutor/act.errNone", laid_interlocutor_act_errNone)], narrowed := true }
def ActDoesUptoSaid : Prop := actDoesUptoRow.holds Tryz.pinned (OpenSpec.upto actDoesSpec)

/-- 'interlocutorlaw8.ActFits', WHERE WHAT IT READS IS OF BULK AT MOST 1048576: true; the input reads as it did. -/
def actFitsUptoRow : OpenClaim := { program := "ytengcdodoblabaagreatdoor", sum := "004b35d70d161e14f4a137ad356fc37fa85ee262ddff777516fe1bd0d6070093", func := "interlocutor/interlocutorlaw8.ActFits", spec := "actFits", unfollowed := true, recurses := true, named := ["interlocutor/act.errNone", "interlocutor/act.fields"], apart := false, laid := [("interlocutor/act.fields", laid_interlocutor_act_fields), ("interlocutor/act.errNone", laid_interlocutor_act_errNone)], narrowed := true }
def ActFitsUptoSaid : Prop := actFitsUptoRow.holds Tryz.pinned (OpenSpec.upto actFitsSpec)

/-- 'interlocutorlaw8.ActMoney', WHERE WHAT IT READS IS OF BULK AT MOST 1048576: true; the input reads as it did. -/
def actMoneyUptoRow : OpenClaim := { program := "ytengcdodoblabaagreatdoor", sum := "004b35d70d161e14f4a137ad356fc37fa85ee262ddff777516fe1bd0d6070093", func := "interlocutor/interlocutorlaw8.ActMoney", spec := "actMoney", unfollowed := true, recurses := true, named := ["interlocutor/act.errNone", "interlocutor/act.fields"], apart := false, laid := [("interlocutor/act.fields", laid_interlocutor_act_fields), ("interlocutor/act.errNone", laid_interlocutor_act_errNone)], narrowed := true }
def ActMoneyUptoSaid : Prop := actMoneyUptoRow.holds Tryz.pinned (OpenSpec.upto actMoneySpec)

end Rows
end Go.Proofs.YtengcdodoblabaaGreatDoor
