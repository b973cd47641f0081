/-
  NARROWER THAN 'FOR EVERY INPUT', by the rows' own cells (each row's printed sentence says how): FoldAll: laid · FoldRunes: laid · FoldTwice: laid · FoldPlaces: laid · FoldJoined: laid · FoldDigits: laid.
  DERIVED. THE GIVEN ROWS OF THIS SEAT. 6 by the template 'for every input the law returns true; each argument reads behind the call as it read before'; 0 by the template 'total and deterministic' (their statements: YtigolkgojckciaaDoorTotals.lean).
  GIVEN WITH THE SEED: the statements are not yours to turn. If you find one false, say at which input.
  Laid BY PROGRAM, IN A SANDBOX (cutbox-rows.mjs): the forced cells as the released guide's own fill.sh prints them over the translation fd4a29df2ac26b55… (all of the seat's roots in one cut). By AI agents, Wed Nov 11 2026. No macro, syntax, notation, axiom, sorry.
-/
import Derived.Test.YtigolkgojckciaaDoorChecked
import GoSem.Claim
import GoSem.ClaimJoined
import GoSem.ClaimMapViews
import Derived.JoinedTies
import Derived.KernelRfl
namespace Go.Proofs.YtigolkgojckciaaDoor
/- THE CELL 'sum', in the pinned program and in every row, IS THE sha256 OF THE DUMP (.gsa) THAT YtigolkgojckciaaDoorProg.lean LOADS. Nothing in Lean hashes anything: it is a label: what it is worth is what the hold of that sum in a sandbox is worth. -/
noncomputable def Tryd.pinned : Pinned := { name := "ytigolkgojckciaadoor", sum := "fd4a29df2ac26b55469499f2558c937b0c59d26610c497e0de1eeb9d6d60dea4", checked := Tryd.checked }
namespace Rows
def none {H : Type} : Left H := { results := [], args := [] }

/- WHAT THE LISTED PACKAGE-LEVEL VARIABLES READ AS WHEN THE CALL BEGINS. Each datum BY PROGRAM (the guide's laid-datum.mjs) off the statement by which the dump's own 'gosem.cut.vars' lays the variable. In a bare row this is a premise. The card (YtigolkgojckciaaDoorCards.lean) ties it to the program's text. -/
def laid_interlocutor_fold_noughts {H : Type} : DataW H := .agg [.lit (.int .i64 48), .lit (.int .i64 1632), .lit (.int .i64 1776), .lit (.int .i64 2406)]

/-- 'interlocutorlaw3.FoldAll': WHATEVER THE INPUT: true; the input reads as it did. -/
def foldAllSpec : ChangeSpec := { name := "foldAll", fn := fun _ => fun
  | [d1, d2, d3] => { results := [.lit (.bool true)], args := [d1, d2, d3] }
  | _ => none }
def foldAllRow : OpenClaim := { program := "ytigolkgojckciaadoor", sum := "fd4a29df2ac26b55469499f2558c937b0c59d26610c497e0de1eeb9d6d60dea4", func := "interlocutor/interlocutorlaw3.FoldAll", spec := "foldAll", inPlace := ["internal/abi.NoEscape"], unfollowed := true, recurses := true, named := ["interlocutor/fold.noughts"], apart := false, laid := [("interlocutor/fold.noughts", laid_interlocutor_fold_noughts)] }
def FoldAllSaid : Prop := foldAllRow.holds Tryd.pinned (OpenSpec.ofChange foldAllSpec)

/-- ITS FALSE NEIGHBOUR: 'it returns false'. Refute it at one input. -/
def foldAllWrong : ChangeSpec := { name := "foldAll", fn := fun _ => fun
  | [d1, d2, d3] => { results := [.lit (.bool false)], args := [d1, d2, d3] }
  | _ => none }
def FoldAllWrongFalsely : Prop := foldAllRow.holds Tryd.pinned (OpenSpec.ofChange foldAllWrong)

/-- 'interlocutorlaw3.FoldRunes': WHATEVER THE INPUT: true; the input reads as it did. -/
def foldRunesSpec : ChangeSpec := { name := "foldRunes", fn := fun _ => fun
  | [d1, d2] => { results := [.lit (.bool true)], args := [d1, d2] }
  | _ => none }
def foldRunesRow : OpenClaim := { program := "ytigolkgojckciaadoor", sum := "fd4a29df2ac26b55469499f2558c937b0c59d26610c497e0de1eeb9d6d60dea4", func := "interlocutor/interlocutorlaw3.FoldRunes", spec := "foldRunes", inPlace := ["internal/abi.NoEscape"], unfollowed := true, recurses := true, named := ["interlocutor/fold.noughts"], apart := false, laid := [("interlocutor/fold.noughts", laid_interlocutor_fold_noughts)] }
def FoldRunesSaid : Prop := foldRunesRow.holds Tryd.pinned (OpenSpec.ofChange foldRunesSpec)

/-- ITS FALSE NEIGHBOUR: 'it returns false'. Refute it at one input. -/
def foldRunesWrong : ChangeSpec := { name := "foldRunes", fn := fun _ => fun
  | [d1, d2] => { results := [.lit (.bool false)], args := [d1, d2] }
  | _ => none }
def FoldRunesWrongFalsely : Prop := foldRunesRow.holds Tryd.pinned (OpenSpec.ofChange foldRunesWrong)

/-- 'interlocutorlaw3.FoldTwice': WHATEVER THE INPUT: true; the input reads as it did. -/
def foldTwiceSpec : ChangeSpec := { name := "foldTwice", fn := fun _ => fun
  | [d1, d2] => { results := [.lit (.bool true)], args := [d1, d2] }
  | _ => none }
def foldTwiceRow : OpenClaim := { program := "ytigolkgojckciaadoor", sum := "fd4a29df2ac26b55469499f2558c937b0c59d26610c497e0de1eeb9d6d60dea4", func := "interlocutor/interlocutorlaw3.FoldTwice", spec := "foldTwice", inPlace := ["internal/abi.NoEscape"], unfollowed := true, recurses := true, named := ["interlocutor/fold.noughts"], apart := false, laid := [("interlocutor/fold.noughts", laid_interlocutor_fold_noughts)] }
def FoldTwiceSaid : Prop := foldTwiceRow.holds Tryd.pinned (OpenSpec.ofChange foldTwiceSpec)

/-- ITS FALSE NEIGHBOUR: 'it returns false'. Refute it at one input. -/
def foldTwiceWrong : ChangeSpec := { name := "foldTwice", fn := fun _ => fun
  | [d1, d2] => { results := [.lit (.bool false)], args := [d1, d2] }
  | _ => none }
def FoldTwiceWrongFalsely : Prop := foldTwiceRow.holds Tryd.pinned (OpenSpec.ofChange foldTwiceWrong)

/-- 'interlocutorlaw3.FoldPlaces': WHATEVER THE INPUT: true; the input reads as it did. -/
def foldPlacesSpec : ChangeSpec := { name := "foldPlaces", fn := fun _ => fun
  | [d1, d2] => { results := [.lit (.bool true)], args := [d1, d2] }
  | _ => none }
def foldPlacesRow : OpenClaim := { program := "ytigolkgojckciaadoor", sum := "fd4a29df2ac26b55469499f2558c937b0c59d26610c497e0de1eeb9d6d60dea4", func := "interlocutor/interlocutorlaw3.FoldPlaces", spec := "foldPlaces", inPlace := ["internal/abi.NoEscape"], unfollowed := true, recurses := true, named := ["interlocutor/fold.noughts"], apart := false, laid := [("interlocutor/fold.noughts", laid_interlocutor_fold_noughts)] }
def FoldPlacesSaid : Prop := foldPlacesRow.holds Tryd.pinned (OpenSpec.ofChange foldPlacesSpec)

/-- ITS FALSE NEIGHBOUR: 'it returns false'. Refute it at one input. -/
def foldPlacesWrong : ChangeSpec := { name := "foldPlaces", fn := fun _ => fun
  | [d1, d2] => { results := [.lit (.bool false)], args := [d1, d2] }
  | _ => none }
def FoldPlacesWrongFalsely : Prop := foldPlacesRow.holds Tryd.pinned (OpenSpec.ofChange foldPlacesWrong)

/-- 'interlocutorlaw3.FoldJoined': WHATEVER THE INPUT: true; the input reads as it did. -/
def foldJoinedSpec : ChangeSpec := { name := "foldJoined", fn := fun _ => fun
  | [d1, d2] => { results := [.lit (.bool true)], args := [d1, d2] }
  | _ => none }
def foldJoinedRow : OpenClaim := { program := "ytigolkgojckciaadoor", sum := "fd4a29df2ac26b55469499f2558c937b0c59d26610c497e0de1eeb9d6d60dea4", func := "interlocutor/interlocutorlaw3.FoldJoined", spec := "foldJoined", inPlace := ["internal/abi.NoEscape"], unfollowed := true, recurses := true, named := ["interlocutor/fold.noughts"], apart := false, laid := [("interlocutor/fold.noughts", laid_interlocutor_fold_noughts)] }
def FoldJoinedSaid : Prop := foldJoinedRow.holds Tryd.pinned (OpenSpec.ofChange foldJoinedSpec)

/-- ITS FALSE NEIGHBOUR: 'it returns false'. Refute it at one input. -/
def foldJoinedWrong : ChangeSpec := { name := "foldJoined", fn := fun _ => fun
  | [d1, d2] => { results := [.lit (.bool false)], args := [d1, d2] }
  | _ => none }
def FoldJoinedWrongFalsely : Prop := foldJoinedRow.holds Tryd.pinned (OpenSpec.ofChange foldJoinedWrong)

/-- 'interlocutorlaw3.FoldDigits': WHATEVER THE INPUT: true; the input reads as it did. -/
def foldDigitsSpec : ChangeSpec := { name := "foldDigits", fn := fun _ => fun
  | [d1, d2] => { results := [.lit (.bool true)], args := [d1, d2] }
  | _ => none }
def foldDigitsRow : OpenClaim := { program := "ytigolkgojckciaadoor", sum := "fd4a29df2ac26b55469499f2558c937b0c59d26610c497e0de1eeb9d6d60dea4", func := "interlocutor/interlocutorlaw3.FoldDigits", spec := "foldDigits", inPlace := ["internal/abi.NoEscape"], unfollowed := true, recurses := true, named := ["interlocutor/fold.noughts"], apart := false, laid := [("interlocutor/fold.noughts", laid_interlocutor_fold_noughts)] }
def FoldDigitsSaid : Prop := foldDigitsRow.holds Tryd.pinned (OpenSpec.ofChange foldDigitsSpec)

/-- ITS FALSE NEIGHBOUR: 'it returns false'. Refute it at one input. -/
def foldDigitsWrong : ChangeSpec := { name := "foldDigits", fn := fun _ => fun
  | [d1, d2] => { results := [.lit (.bool false)], args := [d1, d2] }
  | _ => none }
def FoldDigitsWrongFalsely : Prop := foldDigitsRow.holds Tryd.pinned (OpenSpec.ofChange foldDigitsWrong)

/- THE SECOND FORM. 'bulk': how many values and letters a reading holds, each counted each time it is reached (what is shared counts as often as it is met; a slice's spare places count too). A statement '..UptoSaid' is the law's where the arguments, and the package variables that the reading takes, are together of bulk at most 1048576: NARROWER than '..Said'. Prove '..Said' where nothing that the law and all that it calls make is longer than what came in: it says more and counts as full. Else prove '..UptoSaid'. A law counts once. -/
mutual
def uptoBulk {H : Type} : DataW H → Nat
  | .lit (.string bytes) => bytes.length + 1
  | .lit _ => 1
  | .nil => 1
  | .ptr d => uptoBulk d + 1
  | .slice elems spare => uptoBulkAll elems + uptoBulkAll spare + 1
  | .agg parts => uptoBulkAll parts + 1
  | .iface _ d => uptoBulk d + 1
  | .map entries => uptoBulkEntries entries + 1
  | .held _ => 1
def uptoBulkAll {H : Type} : List (DataW H) → Nat
  | [] => 0
  | d :: r => uptoBulk d + uptoBulkAll r
def uptoBulkEntries {H : Type} : List (Lit × DataW H) → Nat
  | [] => 0
  | x :: r => uptoBulkEntry x + uptoBulkEntries r
def uptoBulkEntry {H : Type} : Lit × DataW H → Nat
  | (.string bytes, d) => bytes.length + uptoBulk d + 1
  | (_, d) => uptoBulk d + 1
 end
def uptoSmall : (H : Type) → List (DataW H) → Bool := fun _ ds => decide (uptoBulkAll ds ≤ 1048576)
def OpenSpec.upto (s : _root_.Go.ChangeSpec) : _root_.Go.OpenSpec := { _root_.Go.OpenSpec.ofChange s with cond := some uptoSmall }

/-- 'interlocutorlaw3.FoldAll', WHERE WHAT IT READS IS OF BULK AT MOST 1048576: true; the input reads as it did. -/
def foldAllUptoRow : OpenClaim := { program := "ytigolkgojckciaadoor", sum := "fd4a29df2ac26b55469499f2558c937b0c59d26610c497e0de1eeb9d6d60dea4", func := "interlocutor/interlocutorlaw3.FoldAll", spec := "foldAll", inPlace := ["internal/abi.NoEscape"], unfollowed := true, recurses := true, named := ["interlocutor/fold.noughts"], apart := false, laid := [("interlocutor/fold.noughts", laid_interlocutor_fold_noughts)], narrowed := true }
def FoldAllUptoSaid : Prop := foldAllUptoRow.holds Tryd.pinned (OpenSpec.upto foldAllSpec)

/-- 'interlocutorlaw3.FoldRunes', WHERE WHAT IT READS IS OF BULK AT MOST 1048576: true; the input reads as it did. -/
def foldRunesUptoRow : OpenClaim := { program := "ytigolkgojckciaadoor", sum := "fd4a29df2ac26b55469499f2558c937b0c59d26610c497e0de1eeb9d6d60dea4", func := "interlocutor/interlocutorlaw3.FoldRunes", spec := "foldRunes", inPlace := ["internal/abi.NoEscape"], unfollowed := true, recurses := true, named := ["interlocutor/fold.noughts"], apart := false, laid := [("interlocutor/fold.noughts", laid_interlocutor_fold_noughts)], narrowed := true }
def FoldRunesUptoSaid : Prop := foldRunesUptoRow.holds Tryd.pinned (OpenSpec.upto foldRunesSpec)

/-- 'interlocutorlaw3.FoldTwice', WHERE WHAT IT READS IS OF BULK AT MOST 1048576: true; the input reads as it did. -/
def foldTwiceUptoRow : OpenClaim := { program := "ytigolkgojckciaadoor", sum := "fd4a29df2ac26b55469499f2558c937b0c59d26610c497e0de1eeb9d6d60dea4", func := "interlocutor/interlocutorlaw3.FoldTwice", spec := "foldTwice", inPlace := ["internal/abi.NoEscape"], unfollowed := true, recurses := true, named := ["interlocutor/fold.noughts"], apart := false, laid := [("interlocutor/fold.noughts", laid_interlocutor_fold_noughts)], narrowed := true }
def FoldTwiceUptoSaid : Prop := foldTwiceUptoRow.holds Tryd.pinned (OpenSpec.upto foldTwiceSpec)

/-- 'interlocutorlaw3.FoldPlaces', WHERE WHAT IT READS IS OF BULK AT MOST 1048576: true; the input reads as it did. -/
def foldPlacesUptoRow : OpenClaim := { program := "ytigolkgojckciaadoor", sum := "fd4a29df2ac26b55469499f2558c937b0c59d26610c497e0de1eeb9d6d60dea4", func := "interlocutor/interlocutorlaw3.FoldPlaces", spec := "foldPlaces", inPlace := ["internal/abi.NoEscape"], unfollowed := true, recurses := true, named := ["interlocutor/fold.noughts"], apart := false, laid := [("interlocutor/fold.noughts", laid_interlocutor_fold_noughts)], narrowed := true }
def FoldPlacesUptoSaid : Prop := foldPlacesUptoRow.holds Tryd.pinned (OpenSpec.upto foldPlacesSpec)

/-- 'interlocutorlaw3.FoldJoined', WHERE WHAT IT READS IS OF BULK AT MOST 1048576: true; the input reads as it did. -/
def foldJoinedUptoRow : OpenClaim := { program := "ytigolkgojckciaadoor", sum := "fd4a29df2ac26b55469499f2558c937b0c59d26610c497e0de1eeb9d6d60dea4", func := "interlocutor/interlocutorlaw3.FoldJoined", spec := "foldJoined", inPlace := ["internal/abi.NoEscape"], unfollowed := true, recurses := true, named := ["interlocutor/fold.noughts"], apart := false, laid := [("interlocutor/fold.noughts", laid_interlocutor_fold_noughts)], narrowed := true }
def FoldJoinedUptoSaid : Prop := foldJoinedUptoRow.holds Tryd.pinned (OpenSpec.upto foldJoinedSpec)

/-- 'interlocutorlaw3.FoldDigits', WHERE WHAT IT READS IS OF BULK AT MOST 1048576: true; the input reads as it did. -/
def foldDigitsUptoRow : OpenClaim := { program := "ytigolkgojckciaadoor", sum := "fd4a29df2ac26b55469499f2558c937b0c59d26610c497e0de1eeb9d6d60dea4", func := "interlocutor/interlocutorlaw3.FoldDigits", spec := "foldDigits", inPlace := ["internal/abi.NoEscape"], unfollowed := true, recurses := true, named := ["interlocutor/fold.noughts"], apart := false, laid := [("interlocutor/fold.noughts", laid_interlocutor_fold_noughts)], narrowed := true }
def FoldDigitsUptoSaid : Prop := foldDigitsUptoRow.holds Tryd.pinned (OpenSpec.upto foldDigitsSpec)

end Rows
end Go.Proofs.YtigolkgojckciaaDoor
