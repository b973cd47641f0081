/-
  NARROWER THAN 'FOR EVERY INPUT', by the rows' own cells (each row's printed sentence says how): ActRight: laid · ActGroups: laid · ActPicks: laid · ActPoints: laid.
  DERIVED. THE GIVEN ROWS OF THIS SEAT. 4 by the template 'for every input the law returns true; each argument reads behind the call as it read before'; 0 by the template 'total and deterministic' (their statements: YtengcdodoblabaaDoorTotals.lean).
  GIVEN WITH THE SEED: the statements are not yours to turn. If you find one false, say at which input.
  Laid BY PROGRAM, IN A SANDBOX (cutbox-rows.mjs): the forced cells as the released guide's own fill.sh prints them over the translation c0bcd68e7e195d1f… (all of the seat's roots in one cut). By AI agents, Wed Nov 11 2026. No macro, syntax, notation, axiom, sorry.
-/
import Derived.Test.YtengcdodoblabaaDoorChecked
import GoSem.Claim
import GoSem.ClaimJoined
import GoSem.ClaimMapViews
import Derived.JoinedTies
import Derived.KernelRfl
namespace Go.Proofs.YtengcdodoblabaaDoor
/- THE CELL 'sum', in the pinned program and in every row, IS THE sha256 OF THE DUMP (.gsa) THAT YtengcdodoblabaaDoorProg.lean LOADS. Nothing in Lean hashes anything: it is a label: what it is worth is what the hold of that sum in a sandbox is worth. -/
noncomputable def Tryd.pinned : Pinned := { name := "ytengcdodoblabaadoor", sum := "c0bcd68e7e195d1fd8d41338056b352bec9c47c3c808204fd62bfb8b200627ac", checked := Tryd.checked }
namespace Rows
def none {H : Type} : Left H := { results := [], args := [] }

/- WHAT THE LISTED PACKAGE-LEVEL VARIABLES READ AS WHEN THE CALL BEGINS. Each datum BY PROGRAM (the guide's laid-datum.mjs) off the statement by which the dump's own 'gosem.cut.vars' lays the variable. In a bare row this is a premise. The card (YtengcdodoblabaaDoorCards.lean) ties it to the program's text. -/
def laid_interlocutor_act_fields {H : Type} : DataW H := .agg [.lit (.int .i64 0), .lit (.int .i64 2), .lit (.int .i64 1), .lit (.int .i64 0), .lit (.int .i64 3), .lit (.int .i64 3), .lit (.int .i64 6), .lit (.int .i64 2), .lit (.int .i64 2), .lit (.int .i64 1), .lit (.int .i64 6)]
def laid_interlocutor_act_errNone {H : Type} : DataW H := .iface "*errors.errorString" (.ptr (.agg [.lit (.string [110, 111, 110, 101])]))

/-- 'interlocutorlaw8.ActRight': WHATEVER THE INPUT: true; the input reads as it did. -/
def actRightSpec : ChangeSpec := { name := "actRight", fn := fun _ => fun
  | [d1, d2, d3, d4, d5, d6, d7] => { results := [.lit (.bool true)], args := [d1, d2, d3, d4, d5, d6, d7] }
  | _ => none }
def actRightRow : OpenClaim := { program := "ytengcdodoblabaadoor", sum := "c0bcd68e7e195d1fd8d41338056b352bec9c47c3c808204fd62bfb8b200627ac", func := "interlocutor/interlocutorlaw8.ActRight", spec := "actRight", unfollowed := true, recurses := true, named := ["interlocutor/act.errNone", "interlocutor/act.fields"], apart := false, laid := [("interlocutor/act.fields", laid_interlocutor_act_fields), ("interlocutor/act.errNone", laid_interlocutor_act_errNone)] }
def ActRightSaid : Prop := actRightRow.holds Tryd.pinned (OpenSpec.ofChange actRightSpec)

/-- ITS FALSE NEIGHBOUR: 'it returns false'. Refute it at one input. -/
def actRightWrong : ChangeSpec := { name := "actRight", fn := fun _ => fun
  | [d1, d2, d3, d4, d5, d6, d7] => { results := [.lit (.bool false)], args := [d1, d2, d3, d4, d5, d6, d7] }
  | _ => none }
def ActRightWrongFalsely : Prop := actRightRow.holds Tryd.pinned (OpenSpec.ofChange actRightWrong)

/-- 'interlocutorlaw8.ActGroups': WHATEVER THE INPUT: true; the input reads as it did. -/
def actGroupsSpec : ChangeSpec := { name := "actGroups", fn := fun _ => fun
  | [d1, d2, d3] => { results := [.lit (.bool true)], args := [d1, d2, d3] }
  | _ => none }
def actGroupsRow : OpenClaim := { program := "ytengcdodoblabaadoor", sum := "c0bcd68e7e195d1fd8d41338056b352bec9c47c3c808204fd62bfb8b200627ac", func := "interlocutor/interlocutorlaw8.ActGroups", spec := "actGroups", unfollowed := true, recurses := true, named := ["interlocutor/act.errNone", "interlocutor/act.fields"], apart := false, laid := [("interlocutor/act.fields", laid_interlocutor_act_fields), ("interlocutor/act.errNone", laid_interlocutor_act_errNone)] }
def ActGroupsSaid : Prop := actGroupsRow.holds Tryd.pinned (OpenSpec.ofChange actGroupsSpec)

/-- ITS FALSE NEIGHBOUR: 'it returns false'. Refute it at one input. -/
def actGroupsWrong : ChangeSpec := { name := "actGroups", fn := fun _ => fun
  | [d1, d2, d3] => { results := [.lit (.bool false)], args := [d1, d2, d3] }
  | _ => none }
def ActGroupsWrongFalsely : Prop := actGroupsRow.holds Tryd.pinned (OpenSpec.ofChange actGroupsWrong)

/-- 'interlocutorlaw8.ActPicks': WHATEVER THE INPUT: true; the input reads as it did. -/
def actPicksSpec : ChangeSpec := { name := "actPicks", fn := fun _ => fun
  | [d1, d2, d3] => { results := [.lit (.bool true)], args := [d1, d2, d3] }
  | _ => none }
def actPicksRow : OpenClaim := { program := "ytengcdodoblabaadoor", sum := "c0bcd68e7e195d1fd8d41338056b352bec9c47c3c808204fd62bfb8b200627ac", func := "interlocutor/interlocutorlaw8.ActPicks", spec := "actPicks", unfollowed := true, recurses := true, named := ["interlocutor/act.errNone", "interlocutor/act.fields"], apart := false, laid := [("interlocutor/act.fields", laid_interlocutor_act_fields), ("interlocutor/act.errNone", laid_interlocutor_act_errNone)] }
def ActPicksSaid : Prop := actPicksRow.holds Tryd.pinned (OpenSpec.ofChange actPicksSpec)

/-- ITS FALSE NEIGHBOUR: 'it returns false'. Refute it at one input. -/
def actPicksWrong : ChangeSpec := { name := "actPicks", fn := fun _ => fun
  | [d1, d2, d3] => { results := [.lit (.bool false)], args := [d1, d2, d3] }
  | _ => none }
def ActPicksWrongFalsely : Prop := actPicksRow.holds Tryd.pinned (OpenSpec.ofChange actPicksWrong)

/-- 'interlocutorlaw8.ActPoints': WHATEVER THE INPUT: true; the input reads as it did. -/
def actPointsSpec : ChangeSpec := { name := "actPoints", fn := fun _ => fun
  | [d1, d2, d3, d4] => { results := [.lit (.bool true)], args := [d1, d2, d3, d4] }
  | _ => none }
def actPointsRow : OpenClaim := { program := "ytengcdodoblabaadoor", sum := "c0bcd68e7e195d1fd8d41338056b352bec9c47c3c808204fd62bfb8b200627ac", func := "interlocutor/interlocutorlaw8.ActPoints", spec := "actPoints", unfollowed := true, recurses := true, named := ["interlocutor/act.errNone", "interlocutor/act.fields"], apart := false, laid := [("interlocutor/act.fields", laid_interlocutor_act_fields), ("interlocutor/act.errNone", laid_interlocutor_act_errNone)] }
def ActPointsSaid : Prop := actPointsRow.holds Tryd.pinned (OpenSpec.ofChange actPointsSpec)

/-- ITS FALSE NEIGHBOUR: 'it returns false'. Refute it at one input. -/
def actPointsWrong : ChangeSpec := { name := "actPoints", fn := fun _ => fun
  | [d1, d2, d3, d4] => { results := [.lit (.bool false)], args := [d1, d2, d3, d4] }
  | _ => none }
def ActPointsWrongFalsely : Prop := actPointsRow.holds Tryd.pinned (OpenSpec.ofChange actPointsWrong)

/- THE SECOND FORM. 'bulk': how many values and letters a reading holds, each counted each time it is reached (what is shared counts as often as it is met; a slice's spare places count too). A statement '..UptoSaid' is the law's where the arguments, and the package variables that the reading takes, are together of bulk at most 1048576: NARROWER than '..Said'. Prove '..Said' where nothing that the law and all that it calls make is longer than what came in: it says more and counts as full. Else prove '..UptoSaid'. A law counts once. -/
mutual
def uptoBulk {H : Type} : DataW H → Nat
  | .lit (.string bytes) => bytes.length + 1
  | .lit _ => 1
  | .nil => 1
  | .ptr d => uptoBulk d + 1
  | .slice elems spare => uptoBulkAll elems + uptoBulkAll spare + 1
  | .agg parts => uptoBulkAll parts + 1
  | .iface _ d => uptoBulk d + 1
  | .map entries => uptoBulkEntries entries + 1
  | .held _ => 1
def uptoBulkAll {H : Type} : List (DataW H) → Nat
  | [] => 0
  | d :: r => uptoBulk d + uptoBulkAll r
def uptoBulkEntries {H : Type} : List (Lit × DataW H) → Nat
  | [] => 0
  | x :: r => uptoBulkEntry x + uptoBulkEntries r
def uptoBulkEntry {H : Type} : Lit × DataW H → Nat
  | (.string bytes, d) => bytes.length + uptoBulk d + 1
  | (_, d) => uptoBulk d + 1
 end
def uptoSmall : (H : Type) → List (DataW H) → Bool := fun _ ds => decide (uptoBulkAll ds ≤ 1048576)
def OpenSpec.upto (s : _root_.Go.ChangeSpec) : _root_.Go.OpenSpec := { _root_.Go.OpenSpec.ofChange s with cond := some uptoSmall }

/-- 'interlocutorlaw8.ActRight', WHERE WHAT IT READS IS OF BULK AT MOST 1048576: true; the input reads as it did. -/
def actRightUptoRow : OpenClaim := { program := "ytengcdodoblabaadoor", sum := "c0bcd68e7e195d1fd8d41338056b352bec9c47c3c808204fd62bfb8b200627ac", func := "interlocutor/interlocutorlaw8.ActRight", spec := "actRight", unfollowed := true, recurses := true, named := ["interlocutor/act.errNone", "interlocutor/act.fields"], apart := false, laid := [("interlocutor/act.fields", laid_interlocutor_act_fields), ("interlocutor/act.errNone", laid_interlocutor_act_errNone)], narrowed := true }
def ActRightUptoSaid : Prop := actRightUptoRow.holds Tryd.pinned (OpenSpec.upto actRightSpec)

/-- 'interlocutorlaw8.ActGroups', WHERE WHAT IT READS IS OF BULK AT MOST 1048576: true; the input reads as it did. -/
def actGroupsUptoRow : OpenClaim := { program := "ytengcdodoblabaadoor", sum := "c0bcd68e7e195d1fd8d41338056b352bec9c47c3c808204fd62bfb8b200627ac", func := "interlocutor/interlocutorlaw8.ActGroups", spec := "actGroups", unfollowed := true, recurses := true, named := ["interlocutor/act.errNone", "interlocutor/act.fields"], apart := false, laid := [("interlocutor/act.fields", laid_interlocutor_act_fields), ("interlocutor/act.errNone", laid_interlocutor_act_errNone)], narrowed := true }
def ActGroupsUptoSaid : Prop := actGroupsUptoRow.holds Tryd.pinned (OpenSpec.upto actGroupsSpec)

/-- 'interlocutorlaw8.ActPicks', WHERE WHAT IT READS IS OF BULK AT MOST 1048576: true; the input reads as it did. -/
def actPicksUptoRow : OpenClaim := { program := "ytengcdodoblabaadoor", sum := "c0bcd68e7e195d1fd8d41338056b352bec9c47c3c808204fd62bfb8b200627ac", func := "interlocutor/interlocutorlaw8.ActPicks", spec := "actPicks", unfollowed := true, recurses := true, named := ["interlocutor/act.errNone", "interlocutor/act.fields"], apart := false, laid := [("interlocutor/act.fields", laid_interlocutor_act_fields), ("interlocutor/act.errNone", laid_interlocutor_act_errNone)], narrowed := true }
def ActPicksUptoSaid : Prop := actPicksUptoRow.holds Tryd.pinned (OpenSpec.upto actPicksSpec)

/-- 'interlocutorlaw8.ActPoints', WHERE WHAT IT READS IS OF BULK AT MOST 1048576: true; the input reads as it did. -/
def actPointsUptoRow : OpenClaim := { program := "ytengcdodoblabaadoor", sum := "c0bcd68e7e195d1fd8d41338056b352bec9c47c3c808204fd62bfb8b200627ac", func := "interlocutor/interlocutorlaw8.ActPoints", spec := "actPoints", unfollowed := true, recurses := true, named := ["interlocutor/act.errNone", "interlocutor/act.fields"], apart := false, laid := [("interlocutor/act.fields", laid_interlocutor_act_fields), ("interlocutor/act.errNone", laid_interlocutor_act_errNone)], narrowed := true }
def ActPointsUptoSaid : Prop := actPointsUptoRow.holds Tryd.pinned (OpenSpec.upto actPointsSpec)

end Rows
end Go.Proofs.YtengcdodoblabaaDoor
