/-
  DERIVED. GIVEN WITH THE SEED: THE CARDS: each row of YtigolkgojckciabDoorRows.lean that lists a variable, with what it lists TIED to the program's text (the seventh form; the later family's looks); each row that meets fmt, with fmt's text TOLD by the authors' own Lean function (tested against real Go, not proved from fmt's source: count such statements apart). THE CARD IS WHAT COUNTS. Prove the row's statement (the work); the ties are given (YtigolkgojckciabDoorTie.lean); close each card by the builder's one call (the guide's Derived/Test/ToyasCard.lean, 'card_holds'). Laid BY PROGRAM, IN A SANDBOX (cutbox-door.mjs). By AI agents, Wed Nov 11 2026. No macro, syntax, notation, axiom, sorry.
-/
import Derived.Test.YtigolkgojckciabDoorRows
import GoSem.ClaimSeven
namespace Go.Proofs.YtigolkgojckciabDoor
namespace Rows

/-- THE TIED CARD OF 'interlocutorlaw3.FoldAscii'. -/
def foldAsciiCard : Claim7 := { stood := { row := foldAsciiRow, standIns := [], harness := (true, "9e8e957b3849f9689a5355c343378d60254f622eee9c61ac07239f205f05647f"), looks := false }, kinds := [], alts := [], laidByText := true, laidKinds := [.data], laidTests := true, laidLooks := .later }
def FoldAsciiCardSaid : Prop := Claim7.holds Tryd.pinned (.plain (OpenSpec.ofChange foldAsciiSpec)) foldAsciiCard

/-- THE TIED CARD OF 'interlocutorlaw3.FoldBad'. -/
def foldBadCard : Claim7 := { stood := { row := foldBadRow, standIns := [], harness := (true, "9e8e957b3849f9689a5355c343378d60254f622eee9c61ac07239f205f05647f"), looks := false }, kinds := [], alts := [], laidByText := true, laidKinds := [.data], laidTests := true, laidLooks := .later }
def FoldBadCardSaid : Prop := Claim7.holds Tryd.pinned (.plain (OpenSpec.ofChange foldBadSpec)) foldBadCard

/-- THE TIED CARD OF 'interlocutorlaw3.FoldOnes'. -/
def foldOnesCard : Claim7 := { stood := { row := foldOnesRow, standIns := [], harness := (true, "9e8e957b3849f9689a5355c343378d60254f622eee9c61ac07239f205f05647f"), looks := false }, kinds := [], alts := [], laidByText := true, laidKinds := [.data], laidTests := true, laidLooks := .later }
def FoldOnesCardSaid : Prop := Claim7.holds Tryd.pinned (.plain (OpenSpec.ofChange foldOnesSpec)) foldOnesCard

/-- THE TIED CARD OF 'interlocutorlaw3.FoldCases'. -/
def foldCasesCard : Claim7 := { stood := { row := foldCasesRow, standIns := [], harness := (true, "9e8e957b3849f9689a5355c343378d60254f622eee9c61ac07239f205f05647f"), looks := false }, kinds := [], alts := [], laidByText := true, laidKinds := [.data], laidTests := true, laidLooks := .later }
def FoldCasesCardSaid : Prop := Claim7.holds Tryd.pinned (.plain (OpenSpec.ofChange foldCasesSpec)) foldCasesCard

/-- THE TIED CARD OF 'interlocutorlaw3.FoldSystems'. -/
def foldSystemsCard : Claim7 := { stood := { row := foldSystemsRow, standIns := [], harness := (true, "9e8e957b3849f9689a5355c343378d60254f622eee9c61ac07239f205f05647f"), looks := false }, kinds := [], alts := [], laidByText := true, laidKinds := [.data], laidTests := true, laidLooks := .later }
def FoldSystemsCardSaid : Prop := Claim7.holds Tryd.pinned (.plain (OpenSpec.ofChange foldSystemsSpec)) foldSystemsCard

/-- THE SECOND FORM's CARD OF 'interlocutorlaw3.FoldAscii'. -/
def foldAsciiUptoCard : Claim7 := { stood := { row := foldAsciiUptoRow, standIns := [], harness := (true, "9e8e957b3849f9689a5355c343378d60254f622eee9c61ac07239f205f05647f"), looks := false }, kinds := [], alts := [], laidByText := true, laidKinds := [.data], laidTests := true, laidLooks := .later }
def FoldAsciiUptoCardSaid : Prop := Claim7.holds Tryd.pinned (.plain (OpenSpec.upto foldAsciiSpec)) foldAsciiUptoCard

/-- THE SECOND FORM's CARD OF 'interlocutorlaw3.FoldBad'. -/
def foldBadUptoCard : Claim7 := { stood := { row := foldBadUptoRow, standIns := [], harness := (true, "9e8e957b3849f9689a5355c343378d60254f622eee9c61ac07239f205f05647f"), looks := false }, kinds := [], alts := [], laidByText := true, laidKinds := [.data], laidTests := true, laidLooks := .later }
def FoldBadUptoCardSaid : Prop := Claim7.holds Tryd.pinned (.plain (OpenSpec.upto foldBadSpec)) foldBadUptoCard

/-- THE SECOND FORM's CARD OF 'interlocutorlaw3.FoldOnes'. -/
def foldOnesUptoCard : Claim7 := { stood := { row := foldOnesUptoRow, standIns := [], harness := (true, "9e8e957b3849f9689a5355c343378d60254f622eee9c61ac07239f205f05647f"), looks := false }, kinds := [], alts := [], laidByText := true, laidKinds := [.data], laidTests := true, laidLooks := .later }
def FoldOnesUptoCardSaid : Prop := Claim7.holds Tryd.pinned (.plain (OpenSpec.upto foldOnesSpec)) foldOnesUptoCard

/-- THE SECOND FORM's CARD OF 'interlocutorlaw3.FoldCases'. -/
def foldCasesUptoCard : Claim7 := { stood := { row := foldCasesUptoRow, standIns := [], harness := (true, "9e8e957b3849f9689a5355c343378d60254f622eee9c61ac07239f205f05647f"), looks := false }, kinds := [], alts := [], laidByText := true, laidKinds := [.data], laidTests := true, laidLooks := .later }
def FoldCasesUptoCardSaid : Prop := Claim7.holds Tryd.pinned (.plain (OpenSpec.upto foldCasesSpec)) foldCasesUptoCard

/-- THE SECOND FORM's CARD OF 'interlocutorlaw3.FoldSystems'. -/
def foldSystemsUptoCard : Claim7 := { stood := { row := foldSystemsUptoRow, standIns := [], harness := (true, "9e8e957b3849f9689a5355c343378d60254f622eee9c61ac07239f205f05647f"), looks := false }, kinds := [], alts := [], laidByText := true, laidKinds := [.data], laidTests := true, laidLooks := .later }
def FoldSystemsUptoCardSaid : Prop := Claim7.holds Tryd.pinned (.plain (OpenSpec.upto foldSystemsSpec)) foldSystemsUptoCard
end Rows
end Go.Proofs.YtigolkgojckciabDoor
