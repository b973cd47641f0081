/-
  NARROWER THAN 'FOR EVERY INPUT', by the rows' own cells (each row's printed sentence says how): BlobBack: laid · BlobReads: laid · BlobRight: laid · BlobResolves: laid · BlobCut: laid · BlobNames: laid · BlobParents: laid · BlobOwn: laid.
  DERIVED. THE GIVEN ROWS OF THIS SEAT. 8 by the template 'for every input the law returns true; each argument reads behind the call as it read before'; 0 by the template 'total and deterministic' (their statements: YtohgaknojkdohaaGreatDoorTotals.lean).
  GIVEN WITH THE SEED: the statements are not yours to turn. If you find one false, say at which input.
  Laid BY PROGRAM, IN A SANDBOX (cutbox-rows.mjs): the forced cells as the released guide's own fill.sh prints them over the translation f03abdba4885d9e7… (all of the seat's roots in one cut). By AI agents, Wed Nov 11 2026. No macro, syntax, notation, axiom, sorry.
-/
import Derived.Test.YtohgaknojkdohaaGreatDoorChecked
import GoSem.Claim
import GoSem.ClaimJoined
import GoSem.ClaimMapViews
import Derived.JoinedTies
import Derived.KernelRfl
namespace Go.Proofs.YtohgaknojkdohaaGreatDoor
/- THE CELL 'sum', in the pinned program and in every row, IS THE sha256 OF THE DUMP (.gsa) THAT YtohgaknojkdohaaGreatDoorProg.lean LOADS. Nothing in Lean hashes anything: it is a label: what it is worth is what the hold of that sum in a sandbox is worth. -/
noncomputable def Tryz.pinned : Pinned := { name := "ytohgaknojkdohaagreatdoor", sum := "f03abdba4885d9e77ba2170537241031c64b6e7397bb3d0d030f2d3f164ec94c", checked := Tryz.checked }
namespace Rows
def none {H : Type} : Left H := { results := [], args := [] }

/- WHAT THE LISTED PACKAGE-LEVEL VARIABLES READ AS WHEN THE CALL BEGINS. Each datum BY PROGRAM (the guide's laid-datum.mjs) off the statement by which the dump's own 'gosem.cut.vars' lays the variable. In a bare row this is a premise. The card (YtohgaknojkdohaaGreatDoorCards.lean) ties it to the program's text. -/
def laid_interlocutor_gram_places {H : Type} : DataW H := .agg [.agg [.lit (.int .i64 1), .lit (.int .i64 1)], .agg [.lit (.int .i64 3), .lit (.int .i64 3)], .agg [.lit (.int .i64 2), .lit (.int .i64 2)], .agg [.lit (.int .i64 2), .lit (.int .i64 3)], .agg [.lit (.int .i64 2), .lit (.int .i64 3)], .agg [.lit (.int .i64 2), .lit (.int .i64 2)], .agg [.lit (.int .i64 3), .lit (.int .i64 3)], .agg [.lit (.int .i64 1), .lit (.int .i64 1)], .agg [.lit (.int .i64 1), .lit (.int .i64 1)], .agg [.lit (.int .i64 2), .lit (.int .i64 2)], .agg [.lit (.int .i64 1), .lit (.int .i64 6)], .agg [.lit (.int .i64 1), .lit (.int .i64 1)], .agg [.lit (.int .i64 2), .lit (.int .i64 2)], .agg [.lit (.int .i64 2), .lit (.int .i64 2)], .agg [.lit (.int .i64 2), .lit (.int .i64 2)], .agg [.lit (.int .i64 2), .lit (.int .i64 2)]]
def laid_interlocutor_fold_noughts {H : Type} : DataW H := .agg [.lit (.int .i64 48), .lit (.int .i64 1632), .lit (.int .i64 1776), .lit (.int .i64 2406)]

/-- 'interlocutorlaw5.BlobBack': WHATEVER THE INPUT: true; the input reads as it did. -/
def blobBackSpec : ChangeSpec := { name := "blobBack", fn := fun _ => fun
  | [d] => { results := [.lit (.bool true)], args := [d] }
  | _ => none }
def blobBackRow : OpenClaim := { program := "ytohgaknojkdohaagreatdoor", sum := "f03abdba4885d9e77ba2170537241031c64b6e7397bb3d0d030f2d3f164ec94c", func := "interlocutor/interlocutorlaw5.BlobBack", spec := "blobBack", inPlace := ["internal/abi.NoEscape"], unfollowed := true, recurses := true, named := ["interlocutor/fold.noughts", "interlocutor/gram.places"], apart := false, laid := [("interlocutor/gram.places", laid_interlocutor_gram_places), ("interlocutor/fold.noughts", laid_interlocutor_fold_noughts)] }
def BlobBackSaid : Prop := blobBackRow.holds Tryz.pinned (OpenSpec.ofChange blobBackSpec)

/-- ITS FALSE NEIGHBOUR: 'it returns false'. Refute it at one input. -/
def blobBackWrong : ChangeSpec := { name := "blobBack", fn := fun _ => fun
  | [d] => { results := [.lit (.bool false)], args := [d] }
  | _ => none }
def BlobBackWrongFalsely : Prop := blobBackRow.holds Tryz.pinned (OpenSpec.ofChange blobBackWrong)

/-- 'interlocutorlaw5.BlobReads': WHATEVER THE INPUT: true; the input reads as it did. -/
def blobReadsSpec : ChangeSpec := { name := "blobReads", fn := fun _ => fun
  | [d1, d2, d3, d4, d5, d6] => { results := [.lit (.bool true)], args := [d1, d2, d3, d4, d5, d6] }
  | _ => none }
def blobReadsRow : OpenClaim := { program := "ytohgaknojkdohaagreatdoor", sum := "f03abdba4885d9e77ba2170537241031c64b6e7397bb3d0d030f2d3f164ec94c", func := "interlocutor/interlocutorlaw5.BlobReads", spec := "blobReads", inPlace := ["internal/abi.NoEscape"], unfollowed := true, recurses := true, named := ["interlocutor/fold.noughts", "interlocutor/gram.places"], apart := false, laid := [("interlocutor/gram.places", laid_interlocutor_gram_places), ("interlocutor/fold.noughts", laid_interlocutor_fold_noughts)] }
def BlobReadsSaid : Prop := blobReadsRow.holds Tryz.pinned (OpenSpec.ofChange blobReadsSpec)

/-- ITS FALSE NEIGHBOUR: 'it returns false'. Refute it at one input. -/
def blobReadsWrong : ChangeSpec := { name := "blobReads", fn := fun _ => fun
  | [d1, d2, d3, d4, d5, d6] => { results := [.lit (.bool false)], args := [d1, d2, d3, d4, d5, d6] }
  | _ => none }
def BlobReadsWrongFalsely : Prop := blobReadsRow.holds Tryz.pinned (OpenSpec.ofChange blobReadsWrong)

/-- 'interlocutorlaw5.BlobRight': WHATEVER THE INPUT: true; the input reads as it did. -/
def blobRightSpec : ChangeSpec := { name := "blobRight", fn := fun _ => fun
  | [d1, d2, d3, d4, d5] => { results := [.lit (.bool true)], args := [d1, d2, d3, d4, d5] }
  | _ => none }
def blobRightRow : OpenClaim := { program := "ytohgaknojkdohaagreatdoor", sum := "f03abdba4885d9e77ba2170537241031c64b6e7397bb3d0d030f2d3f164ec94c", func := "interlocutor/interlocutorlaw5.BlobRight", spec := "blobRight", inPlace := ["internal/abi.NoEscape"], unfollowed := true, recurses := true, named := ["interlocutor/fold.noughts", "interlocutor/gram.places"], apart := false, laid := [("interlocutor/gram.places", laid_interlocutor_gram_places), ("interlocutor/fold.noughts", laid_interlocutor_fold_noughts)] }
def BlobRightSaid : Prop := blobRightRow.holds Tryz.pinned (OpenSpec.ofChange blobRightSpec)

/-- ITS FALSE NEIGHBOUR: 'it returns false'. Refute it at one input. -/
def blobRightWrong : ChangeSpec := { name := "blobRight", fn := fun _ => fun
  | [d1, d2, d3, d4, d5] => { results := [.lit (.bool false)], args := [d1, d2, d3, d4, d5] }
  | _ => none }
def BlobRightWrongFalsely : Prop := blobRightRow.holds Tryz.pinned (OpenSpec.ofChange blobRightWrong)

/-- 'interlocutorlaw5.BlobResolves': WHATEVER THE INPUT: true; the input reads as it did. -/
def blobResolvesSpec : ChangeSpec := { name := "blobResolves", fn := fun _ => fun
  | [d1, d2, d3] => { results := [.lit (.bool true)], args := [d1, d2, d3] }
  | _ => none }
def blobResolvesRow : OpenClaim := { program := "ytohgaknojkdohaagreatdoor", sum := "f03abdba4885d9e77ba2170537241031c64b6e7397bb3d0d030f2d3f164ec94c", func := "interlocutor/interlocutorlaw5.BlobResolves", spec := "blobResolves", inPlace := ["internal/abi.NoEscape"], unfollowed := true, recurses := true, named := ["interlocutor/fold.noughts", "interlocutor/gram.places"], apart := false, laid := [("interlocutor/gram.places", laid_interlocutor_gram_places), ("interlocutor/fold.noughts", laid_interlocutor_fold_noughts)] }
def BlobResolvesSaid : Prop := blobResolvesRow.holds Tryz.pinned (OpenSpec.ofChange blobResolvesSpec)

/-- ITS FALSE NEIGHBOUR: 'it returns false'. Refute it at one input. -/
def blobResolvesWrong : ChangeSpec := { name := "blobResolves", fn := fun _ => fun
  | [d1, d2, d3] => { results := [.lit (.bool false)], args := [d1, d2, d3] }
  | _ => none }
def BlobResolvesWrongFalsely : Prop := blobResolvesRow.holds Tryz.pinned (OpenSpec.ofChange blobResolvesWrong)

/-- 'interlocutorlaw5.BlobCut': WHATEVER THE INPUT: true; the input reads as it did. -/
def blobCutSpec : ChangeSpec := { name := "blobCut", fn := fun _ => fun
  | [d1, d2, d3] => { results := [.lit (.bool true)], args := [d1, d2, d3] }
  | _ => none }
def blobCutRow : OpenClaim := { program := "ytohgaknojkdohaagreatdoor", sum := "f03abdba4885d9e77ba2170537241031c64b6e7397bb3d0d030f2d3f164ec94c", func := "interlocutor/interlocutorlaw5.BlobCut", spec := "blobCut", inPlace := ["internal/abi.NoEscape"], unfollowed := true, recurses := true, named := ["interlocutor/fold.noughts", "interlocutor/gram.places"], apart := false, laid := [("interlocutor/gram.places", laid_interlocutor_gram_places), ("interlocutor/fold.noughts", laid_interlocutor_fold_noughts)] }
def BlobCutSaid : Prop := blobCutRow.holds Tryz.pinned (OpenSpec.ofChange blobCutSpec)

/-- ITS FALSE NEIGHBOUR: 'it returns false'. Refute it at one input. -/
def blobCutWrong : ChangeSpec := { name := "blobCut", fn := fun _ => fun
  | [d1, d2, d3] => { results := [.lit (.bool false)], args := [d1, d2, d3] }
  | _ => none }
def BlobCutWrongFalsely : Prop := blobCutRow.holds Tryz.pinned (OpenSpec.ofChange blobCutWrong)

/-- 'interlocutorlaw5.BlobNames': WHATEVER THE INPUT: true; the input reads as it did. -/
def blobNamesSpec : ChangeSpec := { name := "blobNames", fn := fun _ => fun
  | [d1, d2] => { results := [.lit (.bool true)], args := [d1, d2] }
  | _ => none }
def blobNamesRow : OpenClaim := { program := "ytohgaknojkdohaagreatdoor", sum := "f03abdba4885d9e77ba2170537241031c64b6e7397bb3d0d030f2d3f164ec94c", func := "interlocutor/interlocutorlaw5.BlobNames", spec := "blobNames", inPlace := ["internal/abi.NoEscape"], unfollowed := true, recurses := true, named := ["interlocutor/fold.noughts", "interlocutor/gram.places"], apart := false, laid := [("interlocutor/gram.places", laid_interlocutor_gram_places), ("interlocutor/fold.noughts", laid_interlocutor_fold_noughts)] }
def BlobNamesSaid : Prop := blobNamesRow.holds Tryz.pinned (OpenSpec.ofChange blobNamesSpec)

/-- ITS FALSE NEIGHBOUR: 'it returns false'. Refute it at one input. -/
def blobNamesWrong : ChangeSpec := { name := "blobNames", fn := fun _ => fun
  | [d1, d2] => { results := [.lit (.bool false)], args := [d1, d2] }
  | _ => none }
def BlobNamesWrongFalsely : Prop := blobNamesRow.holds Tryz.pinned (OpenSpec.ofChange blobNamesWrong)

/-- 'interlocutorlaw5.BlobParents': WHATEVER THE INPUT: true; the input reads as it did. -/
def blobParentsSpec : ChangeSpec := { name := "blobParents", fn := fun _ => fun
  | [d1, d2] => { results := [.lit (.bool true)], args := [d1, d2] }
  | _ => none }
def blobParentsRow : OpenClaim := { program := "ytohgaknojkdohaagreatdoor", sum := "f03abdba4885d9e77ba2170537241031c64b6e7397bb3d0d030f2d3f164ec94c", func := "interlocutor/interlocutorlaw5.BlobParents", spec := "blobParents", inPlace := ["internal/abi.NoEscape"], unfollowed := true, recurses := true, named := ["interlocutor/fold.noughts", "interlocutor/gram.places"], apart := false, laid := [("interlocutor/gram.places", laid_interlocutor_gram_places), ("interlocutor/fold.noughts", laid_interlocutor_fold_noughts)] }
def BlobParentsSaid : Prop := blobParentsRow.holds Tryz.pinned (OpenSpec.ofChange blobParentsSpec)

/-- ITS FALSE NEIGHBOUR: 'it returns false'. Refute it at one input. -/
def blobParentsWrong : ChangeSpec := { name := "blobParents", fn := fun _ => fun
  | [d1, d2] => { results := [.lit (.bool false)], args := [d1, d2] }
  | _ => none }
def BlobParentsWrongFalsely : Prop := blobParentsRow.holds Tryz.pinned (OpenSpec.ofChange blobParentsWrong)

/-- 'interlocutorlaw5.BlobOwn': WHATEVER THE INPUT: true; the input reads as it did. -/
def blobOwnSpec : ChangeSpec := { name := "blobOwn", fn := fun _ => fun
  | [d1, d2] => { results := [.lit (.bool true)], args := [d1, d2] }
  | _ => none }
def blobOwnRow : OpenClaim := { program := "ytohgaknojkdohaagreatdoor", sum := "f03abdba4885d9e77ba2170537241031c64b6e7397bb3d0d030f2d3f164ec94c", func := "interlocutor/interlocutorlaw5.BlobOwn", spec := "blobOwn", inPlace := ["internal/abi.NoEscape"], unfollowed := true, recurses := true, named := ["interlocutor/fold.noughts", "interlocutor/gram.places"], apart := false, laid := [("interlocutor/gram.places", laid_interlocutor_gram_places), ("interlocutor/fold.noughts", laid_interlocutor_fold_noughts)] }
def BlobOwnSaid : Prop := blobOwnRow.holds Tryz.pinned (OpenSpec.ofChange blobOwnSpec)

/-- ITS FALSE NEIGHBOUR: 'it returns false'. Refute it at one input. -/
def blobOwnWrong : ChangeSpec := { name := "blobOwn", fn := fun _ => fun
  | [d1, d2] => { results := [.lit (.bool false)], args := [d1, d2] }
  | _ => none }
def BlobOwnWrongFalsely : Prop := blobOwnRow.holds Tryz.pinned (OpenSpec.ofChange blobOwnWrong)

/- THE SECOND FORM. 'bulk': how many values and letters a reading holds, each counted each time it is reached (what is shared counts as often as it is met; a slice's spare places count too). A statement '..UptoSaid' is the law's where the arguments, and the package variables that the reading takes, are together of bulk at most 1048576: NARROWER than '..Said'. Prove '..Said' where nothing that the law and all that it calls make is longer than what came in: it says more and counts as full. Else prove '..UptoSaid'. A law counts once. -/
mutual
def uptoBulk {H : Type} : DataW H → Nat
  | .lit (.string bytes) => bytes.length + 1
  | .lit _ => 1
  | .nil => 1
  | .ptr d => uptoBulk d + 1
  | .slice elems spare => uptoBulkAll elems + uptoBulkAll spare + 1
  | .agg parts => uptoBulkAll parts + 1
  | .iface _ d => uptoBulk d + 1
  | .map entries => uptoBulkEntries entries + 1
  | .held _ => 1
def uptoBulkAll {H : Type} : List (DataW H) → Nat
  | [] => 0
  | d :: r => uptoBulk d + uptoBulkAll r
def uptoBulkEntries {H : Type} : List (Lit × DataW H) → Nat
  | [] => 0
  | x :: r => uptoBulkEntry x + uptoBulkEntries r
def uptoBulkEntry {H : Type} : Lit × DataW H → Nat
  | (.string bytes, d) => bytes.length + uptoBulk d + 1
  | (_, d) => uptoBulk d + 1
 end
def uptoSmall : (H : Type) → List (DataW H) → Bool := fun _ ds => decide (uptoBulkAll ds ≤ 1048576)
def OpenSpec.upto (s : _root_.Go.ChangeSpec) : _root_.Go.OpenSpec := { _root_.Go.OpenSpec.ofChange s with cond := some uptoSmall }

/-- 'interlocutorlaw5.BlobBack', WHERE WHAT IT READS IS OF BULK AT MOST 1048576: true; the input reads as it did. -/
def blobBackUptoRow : OpenClaim := { program := "ytohgaknojkdohaagreatdoor", sum := "f03abdba4885d9e77ba2170537241031c64b6e7397bb3d0d030f2d3f164ec94c", func := "interlocutor/interlocutorlaw5.BlobBack", spec := "blobBack", inPlace := ["internal/abi.NoEscape"], unfollowed := true, recurses := true, named := ["interlocutor/fold.noughts", "interlocutor/gram.places"], apart := false, laid := [("interlocutor/gram.places", laid_interlocutor_gram_places), ("interlocutor/fold.noughts", laid_interlocutor_fold_noughts)], narrowed := true }
def BlobBackUptoSaid : Prop := blobBackUptoRow.holds Tryz.pinned (OpenSpec.upto blobBackSpec)

/-- 'interlocutorlaw5.BlobReads', WHERE WHAT IT READS IS OF BULK AT MOST 1048576: true; the input reads as it did. -/
def blobReadsUptoRow : OpenClaim := { program := "ytohgaknojkdohaagreatdoor", sum := "f03abdba4885d9e77ba2170537241031c64b6e7397bb3d0d030f2d3f164ec94c", func := "interlocutor/interlocutorlaw5.BlobReads", spec := "blobReads", inPlace := ["internal/abi.NoEscape"], unfollowed := true, recurses := true, named := ["interlocutor/fold.noughts", "interlocutor/gram.places"], apart := false, laid := [("interlocutor/gram.places", laid_interlocutor_gram_places), ("interlocutor/fold.noughts", laid_interlocutor_fold_noughts)], narrowed := true }
def BlobReadsUptoSaid : Prop := blobReadsUptoRow.holds Tryz.pinned (OpenSpec.upto blobReadsSpec)

/-- 'interlocutorlaw5.BlobRight', WHERE WHAT IT READS IS OF BULK AT MOST 1048576: true; the input reads as it did. -/
def blobRightUptoRow : OpenClaim := { program := "ytohgaknojkdohaagreatdoor", sum := "f03abdba4885d9e77ba2170537241031c64b6e7397bb3d0d030f2d3f164ec94c", func := "interlocutor/interlocutorlaw5.BlobRight", spec := "blobRight", inPlace := ["internal/abi.NoEscape"], unfollowed := true, recurses := true, named := ["interlocutor/fold.noughts", "interlocutor/gram.places"], apart := false, laid := [("interlocutor/gram.places", laid_interlocutor_gram_places), ("interlocutor/fold.noughts", laid_interlocutor_fold_noughts)], narrowed := true }
def BlobRightUptoSaid : Prop := blobRightUptoRow.holds Tryz.pinned (OpenSpec.upto blobRightSpec)

/-- 'interlocutorlaw5.BlobResolves', WHERE WHAT IT READS IS OF BULK AT MOST 1048576: true; the input reads as it did. -/
def blobResolvesUptoRow : OpenClaim := { program := "ytohgaknojkdohaagreatdoor", sum := "f03abdba4885d9e77ba2170537241031c64b6e7397bb3d0d030f2d3f164ec94c", func := "interlocutor/interlocutorlaw5.BlobResolves", spec := "blobResolves", inPlace := ["internal/abi.NoEscape"], unfollowed := true, recurses := true, named := ["interlocutor/fold.noughts", "interlocutor/gram.places"], apart := false, laid := [("interlocutor/gram.places", laid_interlocutor_gram_places), ("interlocutor/fold.noughts", laid_interlocutor_fold_noughts)], narrowed := true }
def BlobResolvesUptoSaid : Prop := blobResolvesUptoRow.holds Tryz.pinned (OpenSpec.upto blobResolvesSpec)

/-- 'interlocutorlaw5.BlobCut', WHERE WHAT IT READS IS OF BULK AT MOST 1048576: true; the input reads as it did. -/
def blobCutUptoRow : OpenClaim := { program := "ytohgaknojkdohaagreatdoor", sum := "f03abdba4885d9e77ba2170537241031c64b6e7397bb3d0d030f2d3f164ec94c", func := "interlocutor/interlocutorlaw5.BlobCut", spec := "blobCut", inPlace := ["internal/abi.NoEscape"], unfollowed := true, recurses := true, named := ["interlocutor/fold.noughts", "interlocutor/gram.places"], apart := false, laid := [("interlocutor/gram.places", laid_interlocutor_gram_places), ("interlocutor/fold.noughts", laid_interlocutor_fold_noughts)], narrowed := true }
def BlobCutUptoSaid : Prop := blobCutUptoRow.holds Tryz.pinned (OpenSpec.upto blobCutSpec)

/-- 'interlocutorlaw5.BlobNames', WHERE WHAT IT READS IS OF BULK AT MOST 1048576: true; the input reads as it did. -/
def blobNamesUptoRow : OpenClaim := { program := "ytohgaknojkdohaagreatdoor", sum := "f03abdba4885d9e77ba2170537241031c64b6e7397bb3d0d030f2d3f164ec94c", func := "interlocutor/interlocutorlaw5.BlobNames", spec := "blobNames", inPlace := ["internal/abi.NoEscape"], unfollowed := true, recurses := true, named := ["interlocutor/fold.noughts", "interlocutor/gram.places"], apart := false, laid := [("interlocutor/gram.places", laid_interlocutor_gram_places), ("interlocutor/fold.noughts", laid_interlocutor_fold_noughts)], narrowed := true }
def BlobNamesUptoSaid : Prop := blobNamesUptoRow.holds Tryz.pinned (OpenSpec.upto blobNamesSpec)

/-- 'interlocutorlaw5.BlobParents', WHERE WHAT IT READS IS OF BULK AT MOST 1048576: true; the input reads as it did. -/
def blobParentsUptoRow : OpenClaim := { program := "ytohgaknojkdohaagreatdoor", sum := "f03abdba4885d9e77ba2170537241031c64b6e7397bb3d0d030f2d3f164ec94c", func := "interlocutor/interlocutorlaw5.BlobParents", spec := "blobParents", inPlace := ["internal/abi.NoEscape"], unfollowed := true, recurses := true, named := ["interlocutor/fold.noughts", "interlocutor/gram.places"], apart := false, laid := [("interlocutor/gram.places", laid_interlocutor_gram_places), ("interlocutor/fold.noughts", laid_interlocutor_fold_noughts)], narrowed := true }
def BlobParentsUptoSaid : Prop := blobParentsUptoRow.holds Tryz.pinned (OpenSpec.upto blobParentsSpec)

/-- 'interlocutorlaw5.BlobOwn', WHERE WHAT IT READS IS OF BULK AT MOST 1048576: true; the input reads as it did. -/
def blobOwnUptoRow : OpenClaim := { program := "ytohgaknojkdohaagreatdoor", sum := "f03abdba4885d9e77ba2170537241031c64b6e7397bb3d0d030f2d3f164ec94c", func := "interlocutor/interlocutorlaw5.BlobOwn", spec := "blobOwn", inPlace := ["internal/abi.NoEscape"], unfollowed := true, recurses := true, named := ["interlocutor/fold.noughts", "interlocutor/gram.places"], apart := false, laid := [("interlocutor/gram.places", laid_interlocutor_gram_places), ("interlocutor/fold.noughts", laid_interlocutor_fold_noughts)], narrowed := true }
def BlobOwnUptoSaid : Prop := blobOwnUptoRow.holds Tryz.pinned (OpenSpec.upto blobOwnSpec)

end Rows
end Go.Proofs.YtohgaknojkdohaaGreatDoor
