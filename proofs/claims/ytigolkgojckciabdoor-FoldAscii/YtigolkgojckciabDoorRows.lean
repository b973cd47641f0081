/-
  NARROWER THAN 'FOR EVERY INPUT', by the rows' own cells (each row's printed sentence says how): FoldAscii: laid · FoldBad: laid · FoldOnes: laid · FoldCases: laid · FoldSystems: laid.
  DERIVED. THE GIVEN ROWS OF THIS SEAT. 5 by the template 'for every input the law returns true; each argument reads behind the call as it read before'; 0 by the template 'total and deterministic' (their statements: YtigolkgojckciabDoorTotals.lean).
  GIVEN WITH THE SEED: the statements are not yours to turn. If you find one false, say at which input.
  Laid BY PROGRAM, IN A SANDBOX (cutbox-rows.mjs): the forced cells as the released guide's own fill.sh prints them over the translation 8c2f98218488ef24… (all of the seat's roots in one cut). By AI agents, Wed Nov 11 2026. No macro, syntax, notation, axiom, sorry.
-/
import Derived.Test.YtigolkgojckciabDoorChecked
import GoSem.Claim
import GoSem.ClaimJoined
import GoSem.ClaimMapViews
import Derived.JoinedTies
import Derived.KernelRfl
namespace Go.Proofs.YtigolkgojckciabDoor
/- THE CELL 'sum', in the pinned program and in every row, IS THE sha256 OF THE DUMP (.gsa) THAT YtigolkgojckciabDoorProg.lean LOADS. Nothing in Lean hashes anything: it is a label: what it is worth is what the hold of that sum in a sandbox is worth. -/
noncomputable def Tryd.pinned : Pinned := { name := "ytigolkgojckciabdoor", sum := "8c2f98218488ef246b3b30e558a147e9c7411e0a5512220339f16f0b39aff5ca", checked := Tryd.checked }
namespace Rows
def none {H : Type} : Left H := { results := [], args := [] }

/- WHAT THE LISTED PACKAGE-LEVEL VARIABLES READ AS WHEN THE CALL BEGINS. Each datum BY PROGRAM (the guide's laid-datum.mjs) off the statement by which the dump's own 'gosem.cut.vars' lays the variable. In a bare row this is a premise. The card (YtigolkgojckciabDoorCards.lean) ties it to the program's text. -/
def laid_interlocutor_fold_noughts {H : Type} : DataW H := .agg [.lit (.int .i64 48), .lit (.int .i64 1632), .lit (.int .i64 1776), .lit (.int .i64 2406)]

/-- 'interlocutorlaw3.FoldAscii': WHATEVER THE INPUT: true; the input reads as it did. -/
def foldAsciiSpec : ChangeSpec := { name := "foldAscii", fn := fun _ => fun
  | [d] => { results := [.lit (.bool true)], args := [d] }
  | _ => none }
def foldAsciiRow : OpenClaim := { program := "ytigolkgojckciabdoor", sum := "8c2f98218488ef246b3b30e558a147e9c7411e0a5512220339f16f0b39aff5ca", func := "interlocutor/interlocutorlaw3.FoldAscii", spec := "foldAscii", inPlace := ["internal/abi.NoEscape"], unfollowed := true, recurses := true, named := ["interlocutor/fold.noughts"], apart := false, laid := [("interlocutor/fold.noughts", laid_interlocutor_fold_noughts)] }
def FoldAsciiSaid : Prop := foldAsciiRow.holds Tryd.pinned (OpenSpec.ofChange foldAsciiSpec)

/-- ITS FALSE NEIGHBOUR: 'it returns false'. Refute it at one input. -/
def foldAsciiWrong : ChangeSpec := { name := "foldAscii", fn := fun _ => fun
  | [d] => { results := [.lit (.bool false)], args := [d] }
  | _ => none }
def FoldAsciiWrongFalsely : Prop := foldAsciiRow.holds Tryd.pinned (OpenSpec.ofChange foldAsciiWrong)

/-- 'interlocutorlaw3.FoldBad': WHATEVER THE INPUT: true; the input reads as it did. -/
def foldBadSpec : ChangeSpec := { name := "foldBad", fn := fun _ => fun
  | [d1, d2, d3, d4, d5] => { results := [.lit (.bool true)], args := [d1, d2, d3, d4, d5] }
  | _ => none }
def foldBadRow : OpenClaim := { program := "ytigolkgojckciabdoor", sum := "8c2f98218488ef246b3b30e558a147e9c7411e0a5512220339f16f0b39aff5ca", func := "interlocutor/interlocutorlaw3.FoldBad", spec := "foldBad", inPlace := ["internal/abi.NoEscape"], unfollowed := true, recurses := true, named := ["interlocutor/fold.noughts"], apart := false, laid := [("interlocutor/fold.noughts", laid_interlocutor_fold_noughts)] }
def FoldBadSaid : Prop := foldBadRow.holds Tryd.pinned (OpenSpec.ofChange foldBadSpec)

/-- ITS FALSE NEIGHBOUR: 'it returns false'. Refute it at one input. -/
def foldBadWrong : ChangeSpec := { name := "foldBad", fn := fun _ => fun
  | [d1, d2, d3, d4, d5] => { results := [.lit (.bool false)], args := [d1, d2, d3, d4, d5] }
  | _ => none }
def FoldBadWrongFalsely : Prop := foldBadRow.holds Tryd.pinned (OpenSpec.ofChange foldBadWrong)

/-- 'interlocutorlaw3.FoldOnes': WHATEVER THE INPUT: true; the input reads as it did. -/
def foldOnesSpec : ChangeSpec := { name := "foldOnes", fn := fun _ => fun
  | [d] => { results := [.lit (.bool true)], args := [d] }
  | _ => none }
def foldOnesRow : OpenClaim := { program := "ytigolkgojckciabdoor", sum := "8c2f98218488ef246b3b30e558a147e9c7411e0a5512220339f16f0b39aff5ca", func := "interlocutor/interlocutorlaw3.FoldOnes", spec := "foldOnes", inPlace := ["internal/abi.NoEscape"], unfollowed := true, recurses := true, named := ["interlocutor/fold.noughts"], apart := false, laid := [("interlocutor/fold.noughts", laid_interlocutor_fold_noughts)] }
def FoldOnesSaid : Prop := foldOnesRow.holds Tryd.pinned (OpenSpec.ofChange foldOnesSpec)

/-- ITS FALSE NEIGHBOUR: 'it returns false'. Refute it at one input. -/
def foldOnesWrong : ChangeSpec := { name := "foldOnes", fn := fun _ => fun
  | [d] => { results := [.lit (.bool false)], args := [d] }
  | _ => none }
def FoldOnesWrongFalsely : Prop := foldOnesRow.holds Tryd.pinned (OpenSpec.ofChange foldOnesWrong)

/-- 'interlocutorlaw3.FoldCases': WHATEVER THE INPUT: true; the input reads as it did. -/
def foldCasesSpec : ChangeSpec := { name := "foldCases", fn := fun _ => fun
  | [d] => { results := [.lit (.bool true)], args := [d] }
  | _ => none }
def foldCasesRow : OpenClaim := { program := "ytigolkgojckciabdoor", sum := "8c2f98218488ef246b3b30e558a147e9c7411e0a5512220339f16f0b39aff5ca", func := "interlocutor/interlocutorlaw3.FoldCases", spec := "foldCases", inPlace := ["internal/abi.NoEscape"], unfollowed := true, recurses := true, named := ["interlocutor/fold.noughts"], apart := false, laid := [("interlocutor/fold.noughts", laid_interlocutor_fold_noughts)] }
def FoldCasesSaid : Prop := foldCasesRow.holds Tryd.pinned (OpenSpec.ofChange foldCasesSpec)

/-- ITS FALSE NEIGHBOUR: 'it returns false'. Refute it at one input. -/
def foldCasesWrong : ChangeSpec := { name := "foldCases", fn := fun _ => fun
  | [d] => { results := [.lit (.bool false)], args := [d] }
  | _ => none }
def FoldCasesWrongFalsely : Prop := foldCasesRow.holds Tryd.pinned (OpenSpec.ofChange foldCasesWrong)

/-- 'interlocutorlaw3.FoldSystems': WHATEVER THE INPUT: true; the input reads as it did. -/
def foldSystemsSpec : ChangeSpec := { name := "foldSystems", fn := fun _ => fun
  | [d1, d2, d3, d4] => { results := [.lit (.bool true)], args := [d1, d2, d3, d4] }
  | _ => none }
def foldSystemsRow : OpenClaim := { program := "ytigolkgojckciabdoor", sum := "8c2f98218488ef246b3b30e558a147e9c7411e0a5512220339f16f0b39aff5ca", func := "interlocutor/interlocutorlaw3.FoldSystems", spec := "foldSystems", inPlace := ["internal/abi.NoEscape"], unfollowed := true, recurses := true, named := ["interlocutor/fold.noughts"], apart := false, laid := [("interlocutor/fold.noughts", laid_interlocutor_fold_noughts)] }
def FoldSystemsSaid : Prop := foldSystemsRow.holds Tryd.pinned (OpenSpec.ofChange foldSystemsSpec)

/-- ITS FALSE NEIGHBOUR: 'it returns false'. Refute it at one input. -/
def foldSystemsWrong : ChangeSpec := { name := "foldSystems", fn := fun _ => fun
  | [d1, d2, d3, d4] => { results := [.lit (.bool false)], args := [d1, d2, d3, d4] }
  | _ => none }
def FoldSystemsWrongFalsely : Prop := foldSystemsRow.holds Tryd.pinned (OpenSpec.ofChange foldSystemsWrong)

/- THE SECOND FORM. 'bulk': how many values and letters a reading holds, each counted each time it is reached (what is shared counts as often as it is met; a slice's spare places count too). A statement '..UptoSaid' is the law's where the arguments, and the package variables that the reading takes, are together of bulk at most 1048576: NARROWER than '..Said'. Prove '..Said' where nothing that the law and all that it calls make is longer than what came in: it says more and counts as full. Else prove '..UptoSaid'. A law counts once. -/
mutual
def uptoBulk {H : Type} : DataW H → Nat
  | .lit (.string bytes) => bytes.length + 1
  | .lit _ => 1
  | .nil => 1
  | .ptr d => uptoBulk d + 1
  | .slice elems spare => uptoBulkAll elems + uptoBulkAll spare + 1
  | .agg parts => uptoBulkAll parts + 1
  | .iface _ d => uptoBulk d + 1
  | .map entries => uptoBulkEntries entries + 1
  | .held _ => 1
def uptoBulkAll {H : Type} : List (DataW H) → Nat
  | [] => 0
  | d :: r => uptoBulk d + uptoBulkAll r
def uptoBulkEntries {H : Type} : List (Lit × DataW H) → Nat
  | [] => 0
  | x :: r => uptoBulkEntry x + uptoBulkEntries r
def uptoBulkEntry {H : Type} : Lit × DataW H → Nat
  | (.string bytes, d) => bytes.length + uptoBulk d + 1
  | (_, d) => uptoBulk d + 1
 end
def uptoSmall : (H : Type) → List (DataW H) → Bool := fun _ ds => decide (uptoBulkAll ds ≤ 1048576)
def OpenSpec.upto (s : _root_.Go.ChangeSpec) : _root_.Go.OpenSpec := { _root_.Go.OpenSpec.ofChange s with cond := some uptoSmall }

/-- 'interlocutorlaw3.FoldAscii', WHERE WHAT IT READS IS OF BULK AT MOST 1048576: true; the input reads as it did. -/
def foldAsciiUptoRow : OpenClaim := { program := "ytigolkgojckciabdoor", sum := "8c2f98218488ef246b3b30e558a147e9c7411e0a5512220339f16f0b39aff5ca", func := "interlocutor/interlocutorlaw3.FoldAscii", spec := "foldAscii", inPlace := ["internal/abi.NoEscape"], unfollowed := true, recurses := true, named := ["interlocutor/fold.noughts"], apart := false, laid := [("interlocutor/fold.noughts", laid_interlocutor_fold_noughts)], narrowed := true }
def FoldAsciiUptoSaid : Prop := foldAsciiUptoRow.holds Tryd.pinned (OpenSpec.upto foldAsciiSpec)

/-- 'interlocutorlaw3.FoldBad', WHERE WHAT IT READS IS OF BULK AT MOST 1048576: true; the input reads as it did. -/
def foldBadUptoRow : OpenClaim := { program := "ytigolkgojckciabdoor", sum := "8c2f98218488ef246b3b30e558a147e9c7411e0a5512220339f16f0b39aff5ca", func := "interlocutor/interlocutorlaw3.FoldBad", spec := "foldBad", inPlace := ["internal/abi.NoEscape"], unfollowed := true, recurses := true, named := ["interlocutor/fold.noughts"], apart := false, laid := [("interlocutor/fold.noughts", laid_interlocutor_fold_noughts)], narrowed := true }
def FoldBadUptoSaid : Prop := foldBadUptoRow.holds Tryd.pinned (OpenSpec.upto foldBadSpec)

/-- 'interlocutorlaw3.FoldOnes', WHERE WHAT IT READS IS OF BULK AT MOST 1048576: true; the input reads as it did. -/
def foldOnesUptoRow : OpenClaim := { program := "ytigolkgojckciabdoor", sum := "8c2f98218488ef246b3b30e558a147e9c7411e0a5512220339f16f0b39aff5ca", func := "interlocutor/interlocutorlaw3.FoldOnes", spec := "foldOnes", inPlace := ["internal/abi.NoEscape"], unfollowed := true, recurses := true, named := ["interlocutor/fold.noughts"], apart := false, laid := [("interlocutor/fold.noughts", laid_interlocutor_fold_noughts)], narrowed := true }
def FoldOnesUptoSaid : Prop := foldOnesUptoRow.holds Tryd.pinned (OpenSpec.upto foldOnesSpec)

/-- 'interlocutorlaw3.FoldCases', WHERE WHAT IT READS IS OF BULK AT MOST 1048576: true; the input reads as it did. -/
def foldCasesUptoRow : OpenClaim := { program := "ytigolkgojckciabdoor", sum := "8c2f98218488ef246b3b30e558a147e9c7411e0a5512220339f16f0b39aff5ca", func := "interlocutor/interlocutorlaw3.FoldCases", spec := "foldCases", inPlace := ["internal/abi.NoEscape"], unfollowed := true, recurses := true, named := ["interlocutor/fold.noughts"], apart := false, laid := [("interlocutor/fold.noughts", laid_interlocutor_fold_noughts)], narrowed := true }
def FoldCasesUptoSaid : Prop := foldCasesUptoRow.holds Tryd.pinned (OpenSpec.upto foldCasesSpec)

/-- 'interlocutorlaw3.FoldSystems', WHERE WHAT IT READS IS OF BULK AT MOST 1048576: true; the input reads as it did. -/
def foldSystemsUptoRow : OpenClaim := { program := "ytigolkgojckciabdoor", sum := "8c2f98218488ef246b3b30e558a147e9c7411e0a5512220339f16f0b39aff5ca", func := "interlocutor/interlocutorlaw3.FoldSystems", spec := "foldSystems", inPlace := ["internal/abi.NoEscape"], unfollowed := true, recurses := true, named := ["interlocutor/fold.noughts"], apart := false, laid := [("interlocutor/fold.noughts", laid_interlocutor_fold_noughts)], narrowed := true }
def FoldSystemsUptoSaid : Prop := foldSystemsUptoRow.holds Tryd.pinned (OpenSpec.upto foldSystemsSpec)

end Rows
end Go.Proofs.YtigolkgojckciabDoor
