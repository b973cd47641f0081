/-
  DERIVED. GIVEN WITH THE SEED: THE CARDS: each row of YtohgaknojkdohaaGreatDoorRows.lean that lists a variable, with what it lists TIED to the program's text (the seventh form; the later family's looks); each row that meets fmt, with fmt's text TOLD by the authors' own Lean function (tested against real Go, not proved from fmt's source: count such statements apart). THE CARD IS WHAT COUNTS. Prove the row's statement (the work); the ties are given (YtohgaknojkdohaaGreatDoorTie.lean); close each card by the builder's one call (the guide's Derived/Test/ToyasCard.lean, 'card_holds'). Laid BY PROGRAM, IN A SANDBOX (cutbox-door.mjs). By AI agents, Wed Nov 11 2026. No macro, syntax, notation, axiom, sorry.
-/
import Derived.Test.YtohgaknojkdohaaGreatDoorRows
import GoSem.ClaimSeven
namespace Go.Proofs.YtohgaknojkdohaaGreatDoor
namespace Rows

/-- THE TIED CARD OF 'interlocutorlaw5.BlobBack'. -/
def blobBackCard : Claim7 := { stood := { row := blobBackRow, standIns := [], harness := (true, "6bf3add5c12b34850aaaf733e4007046dd6d731cf149786cb1af90a16c9c2c40"), looks := false }, kinds := [], alts := [], laidByText := true, laidKinds := [.data, .data], laidTests := true, laidLooks := .later }
def BlobBackCardSaid : Prop := Claim7.holds Tryz.pinned (.plain (OpenSpec.ofChange blobBackSpec)) blobBackCard

/-- THE TIED CARD OF 'interlocutorlaw5.BlobReads'. -/
def blobReadsCard : Claim7 := { stood := { row := blobReadsRow, standIns := [], harness := (true, "6bf3add5c12b34850aaaf733e4007046dd6d731cf149786cb1af90a16c9c2c40"), looks := false }, kinds := [], alts := [], laidByText := true, laidKinds := [.data, .data], laidTests := true, laidLooks := .later }
def BlobReadsCardSaid : Prop := Claim7.holds Tryz.pinned (.plain (OpenSpec.ofChange blobReadsSpec)) blobReadsCard

/-- THE TIED CARD OF 'interlocutorlaw5.BlobRight'. -/
def blobRightCard : Claim7 := { stood := { row := blobRightRow, standIns := [], harness := (true, "6bf3add5c12b34850aaaf733e4007046dd6d731cf149786cb1af90a16c9c2c40"), looks := false }, kinds := [], alts := [], laidByText := true, laidKinds := [.data, .data], laidTests := true, laidLooks := .later }
def BlobRightCardSaid : Prop := Claim7.holds Tryz.pinned (.plain (OpenSpec.ofChange blobRightSpec)) blobRightCard

/-- THE TIED CARD OF 'interlocutorlaw5.BlobResolves'. -/
def blobResolvesCard : Claim7 := { stood := { row := blobResolvesRow, standIns := [], harness := (true, "6bf3add5c12b34850aaaf733e4007046dd6d731cf149786cb1af90a16c9c2c40"), looks := false }, kinds := [], alts := [], laidByText := true, laidKinds := [.data, .data], laidTests := true, laidLooks := .later }
def BlobResolvesCardSaid : Prop := Claim7.holds Tryz.pinned (.plain (OpenSpec.ofChange blobResolvesSpec)) blobResolvesCard

/-- THE TIED CARD OF 'interlocutorlaw5.BlobCut'. -/
def blobCutCard : Claim7 := { stood := { row := blobCutRow, standIns := [], harness := (true, "6bf3add5c12b34850aaaf733e4007046dd6d731cf149786cb1af90a16c9c2c40"), looks := false }, kinds := [], alts := [], laidByText := true, laidKinds := [.data, .data], laidTests := true, laidLooks := .later }
def BlobCutCardSaid : Prop := Claim7.holds Tryz.pinned (.plain (OpenSpec.ofChange blobCutSpec)) blobCutCard

/-- THE TIED CARD OF 'interlocutorlaw5.BlobNames'. -/
def blobNamesCard : Claim7 := { stood := { row := blobNamesRow, standIns := [], harness := (true, "6bf3add5c12b34850aaaf733e4007046dd6d731cf149786cb1af90a16c9c2c40"), looks := false }, kinds := [], alts := [], laidByText := true, laidKinds := [.data, .data], laidTests := true, laidLooks := .later }
def BlobNamesCardSaid : Prop := Claim7.holds Tryz.pinned (.plain (OpenSpec.ofChange blobNamesSpec)) blobNamesCard

/-- THE TIED CARD OF 'interlocutorlaw5.BlobParents'. -/
def blobParentsCard : Claim7 := { stood := { row := blobParentsRow, standIns := [], harness := (true, "6bf3add5c12b34850aaaf733e4007046dd6d731cf149786cb1af90a16c9c2c40"), looks := false }, kinds := [], alts := [], laidByText := true, laidKinds := [.data, .data], laidTests := true, laidLooks := .later }
def BlobParentsCardSaid : Prop := Claim7.holds Tryz.pinned (.plain (OpenSpec.ofChange blobParentsSpec)) blobParentsCard

/-- THE TIED CARD OF 'interlocutorlaw5.BlobOwn'. -/
def blobOwnCard : Claim7 := { stood := { row := blobOwnRow, standIns := [], harness := (true, "6bf3add5c12b34850aaaf733e4007046dd6d731cf149786cb1af90a16c9c2c40"), looks := false }, kinds := [], alts := [], laidByText := true, laidKinds := [.data, .data], laidTests := true, laidLooks := .later }
def BlobOwnCardSaid : Prop := Claim7.holds Tryz.pinned (.plain (OpenSpec.ofChange blobOwnSpec)) blobOwnCard

/-- THE SECOND FORM's CARD OF 'interlocutorlaw5.BlobBack'. -/
def blobBackUptoCard : Claim7 := { stood := { row := blobBackUptoRow, standIns := [], harness := (true, "6bf3add5c12b34850aaaf733e4007046dd6d731cf149786cb1af90a16c9c2c40"), looks := false }, kinds := [], alts := [], laidByText := true, laidKinds := [.data, .data], laidTests := true, laidLooks := .later }
def BlobBackUptoCardSaid : Prop := Claim7.holds Tryz.pinned (.plain (OpenSpec.upto blobBackSpec)) blobBackUptoCard

/-- THE SECOND FORM's CARD OF 'interlocutorlaw5.BlobReads'. -/
def blobReadsUptoCard : Claim7 := { stood := { row := blobReadsUptoRow, standIns := [], harness := (true, "6bf3add5c12b34850aaaf733e4007046dd6d731cf149786cb1af90a16c9c2c40"), looks := false }, kinds := [], alts := [], laidByText := true, laidKinds := [.data, .data], laidTests := true, laidLooks := .later }
def BlobReadsUptoCardSaid : Prop := Claim7.holds Tryz.pinned (.plain (OpenSpec.upto blobReadsSpec)) blobReadsUptoCard

/-- THE SECOND FORM's CARD OF 'interlocutorlaw5.BlobRight'. -/
def blobRightUptoCard : Claim7 := { stood := { row := blobRightUptoRow, standIns := [], harness := (true, "6bf3add5c12b34850aaaf733e4007046dd6d731cf149786cb1af90a16c9c2c40"), looks := false }, kinds := [], alts := [], laidByText := true, laidKinds := [.data, .data], laidTests := true, laidLooks := .later }
def BlobRightUptoCardSaid : Prop := Claim7.holds Tryz.pinned (.plain (OpenSpec.upto blobRightSpec)) blobRightUptoCard

/-- THE SECOND FORM's CARD OF 'interlocutorlaw5.BlobResolves'. -/
def blobResolvesUptoCard : Claim7 := { stood := { row := blobResolvesUptoRow, standIns := [], harness := (true, "6bf3add5c12b34850aaaf733e4007046dd6d731cf149786cb1af90a16c9c2c40"), looks := false }, kinds := [], alts := [], laidByText := true, laidKinds := [.data, .data], laidTests := true, laidLooks := .later }
def BlobResolvesUptoCardSaid : Prop := Claim7.holds Tryz.pinned (.plain (OpenSpec.upto blobResolvesSpec)) blobResolvesUptoCard

/-- THE SECOND FORM's CARD OF 'interlocutorlaw5.BlobCut'. -/
def blobCutUptoCard : Claim7 := { stood := { row := blobCutUptoRow, standIns := [], harness := (true, "6bf3add5c12b34850aaaf733e4007046dd6d731cf149786cb1af90a16c9c2c40"), looks := false }, kinds := [], alts := [], laidByText := true, laidKinds := [.data, .data], laidTests := true, laidLooks := .later }
def BlobCutUptoCardSaid : Prop := Claim7.holds Tryz.pinned (.plain (OpenSpec.upto blobCutSpec)) blobCutUptoCard

/-- THE SECOND FORM's CARD OF 'interlocutorlaw5.BlobNames'. -/
def blobNamesUptoCard : Claim7 := { stood := { row := blobNamesUptoRow, standIns := [], harness := (true, "6bf3add5c12b34850aaaf733e4007046dd6d731cf149786cb1af90a16c9c2c40"), looks := false }, kinds := [], alts := [], laidByText := true, laidKinds := [.data, .data], laidTests := true, laidLooks := .later }
def BlobNamesUptoCardSaid : Prop := Claim7.holds Tryz.pinned (.plain (OpenSpec.upto blobNamesSpec)) blobNamesUptoCard

/-- THE SECOND FORM's CARD OF 'interlocutorlaw5.BlobParents'. -/
def blobParentsUptoCard : Claim7 := { stood := { row := blobParentsUptoRow, standIns := [], harness := (true, "6bf3add5c12b34850aaaf733e4007046dd6d731cf149786cb1af90a16c9c2c40"), looks := false }, kinds := [], alts := [], laidByText := true, laidKinds := [.data, .data], laidTests := true, laidLooks := .later }
def BlobParentsUptoCardSaid : Prop := Claim7.holds Tryz.pinned (.plain (OpenSpec.upto blobParentsSpec)) blobParentsUptoCard

/-- THE SECOND FORM's CARD OF 'interlocutorlaw5.BlobOwn'. -/
def blobOwnUptoCard : Claim7 := { stood := { row := blobOwnUptoRow, standIns := [], harness := (true, "6bf3add5c12b34850aaaf733e4007046dd6d731cf149786cb1af90a16c9c2c40"), looks := false }, kinds := [], alts := [], laidByText := true, laidKinds := [.data, .data], laidTests := true, laidLooks := .later }
def BlobOwnUptoCardSaid : Prop := Claim7.holds Tryz.pinned (.plain (OpenSpec.upto blobOwnSpec)) blobOwnUptoCard
end Rows
end Go.Proofs.YtohgaknojkdohaaGreatDoor
