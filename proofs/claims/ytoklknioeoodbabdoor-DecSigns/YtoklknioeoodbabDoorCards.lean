/-
  DERIVED. GIVEN WITH THE SEED: THE CARDS: each row of YtoklknioeoodbabDoorRows.lean that lists a variable, with what it lists TIED to the program's text (the seventh form; the later family's looks); each row that meets fmt, with fmt's text TOLD by the authors' own Lean function (tested against real Go, not proved from fmt's source: count such statements apart). THE CARD IS WHAT COUNTS. Prove the row's statement (the work); the ties are given (YtoklknioeoodbabDoorTie.lean); close each card by the builder's one call (the guide's Derived/Test/ToyasCard.lean, 'card_holds'). Laid BY PROGRAM, IN A SANDBOX (cutbox-door.mjs). By AI agents, Wed Nov 11 2026. No macro, syntax, notation, axiom, sorry.
-/
import Derived.Test.YtoklknioeoodbabDoorRows
import GoSem.ClaimSeven
namespace Go.Proofs.YtoklknioeoodbabDoor
namespace Rows

/-- THE TIED CARD OF 'interlocutorlaw2.DecParts'. -/
def decPartsCard : Claim7 := { stood := { row := decPartsRow, standIns := [], harness := (true, "500d369667256432f8f45be80a7a90eec941fbfdbeb8a3aaa2101d0cbfd90a3a"), looks := false }, kinds := [], alts := [], laidByText := true, laidKinds := [.data, .data, .data], laidTests := true, laidLooks := .later }
def DecPartsCardSaid : Prop := Claim7.holds Tryd.pinned (.plain (OpenSpec.ofChange decPartsSpec)) decPartsCard

/-- THE TIED CARD OF 'interlocutorlaw2.DecSigns'. -/
def decSignsCard : Claim7 := { stood := { row := decSignsRow, standIns := [], harness := (true, "500d369667256432f8f45be80a7a90eec941fbfdbeb8a3aaa2101d0cbfd90a3a"), looks := false }, kinds := [], alts := [], laidByText := true, laidKinds := [.data, .data, .data], laidTests := true, laidLooks := .later }
def DecSignsCardSaid : Prop := Claim7.holds Tryd.pinned (.plain (OpenSpec.ofChange decSignsSpec)) decSignsCard

/-- THE TIED CARD OF 'interlocutorlaw2.DecMore'. -/
def decMoreCard : Claim7 := { stood := { row := decMoreRow, standIns := [], harness := (true, "500d369667256432f8f45be80a7a90eec941fbfdbeb8a3aaa2101d0cbfd90a3a"), looks := false }, kinds := [], alts := [], laidByText := true, laidKinds := [.data, .data, .data], laidTests := true, laidLooks := .later }
def DecMoreCardSaid : Prop := Claim7.holds Tryd.pinned (.plain (OpenSpec.ofChange decMoreSpec)) decMoreCard

/-- THE TIED CARD OF 'interlocutorlaw2.DecKnown'. -/
def decKnownCard : Claim7 := { stood := { row := decKnownRow, standIns := [], harness := (true, "500d369667256432f8f45be80a7a90eec941fbfdbeb8a3aaa2101d0cbfd90a3a"), looks := false }, kinds := [], alts := [], laidByText := true, laidKinds := [.data, .data, .data], laidTests := true, laidLooks := .later }
def DecKnownCardSaid : Prop := Claim7.holds Tryd.pinned (.plain (OpenSpec.ofChange decKnownSpec)) decKnownCard

/-- THE SECOND FORM's CARD OF 'interlocutorlaw2.DecParts'. -/
def decPartsUptoCard : Claim7 := { stood := { row := decPartsUptoRow, standIns := [], harness := (true, "500d369667256432f8f45be80a7a90eec941fbfdbeb8a3aaa2101d0cbfd90a3a"), looks := false }, kinds := [], alts := [], laidByText := true, laidKinds := [.data, .data, .data], laidTests := true, laidLooks := .later }
def DecPartsUptoCardSaid : Prop := Claim7.holds Tryd.pinned (.plain (OpenSpec.upto decPartsSpec)) decPartsUptoCard

/-- THE SECOND FORM's CARD OF 'interlocutorlaw2.DecSigns'. -/
def decSignsUptoCard : Claim7 := { stood := { row := decSignsUptoRow, standIns := [], harness := (true, "500d369667256432f8f45be80a7a90eec941fbfdbeb8a3aaa2101d0cbfd90a3a"), looks := false }, kinds := [], alts := [], laidByText := true, laidKinds := [.data, .data, .data], laidTests := true, laidLooks := .later }
def DecSignsUptoCardSaid : Prop := Claim7.holds Tryd.pinned (.plain (OpenSpec.upto decSignsSpec)) decSignsUptoCard

/-- THE SECOND FORM's CARD OF 'interlocutorlaw2.DecMore'. -/
def decMoreUptoCard : Claim7 := { stood := { row := decMoreUptoRow, standIns := [], harness := (true, "500d369667256432f8f45be80a7a90eec941fbfdbeb8a3aaa2101d0cbfd90a3a"), looks := false }, kinds := [], alts := [], laidByText := true, laidKinds := [.data, .data, .data], laidTests := true, laidLooks := .later }
def DecMoreUptoCardSaid : Prop := Claim7.holds Tryd.pinned (.plain (OpenSpec.upto decMoreSpec)) decMoreUptoCard

/-- THE SECOND FORM's CARD OF 'interlocutorlaw2.DecKnown'. -/
def decKnownUptoCard : Claim7 := { stood := { row := decKnownUptoRow, standIns := [], harness := (true, "500d369667256432f8f45be80a7a90eec941fbfdbeb8a3aaa2101d0cbfd90a3a"), looks := false }, kinds := [], alts := [], laidByText := true, laidKinds := [.data, .data, .data], laidTests := true, laidLooks := .later }
def DecKnownUptoCardSaid : Prop := Claim7.holds Tryd.pinned (.plain (OpenSpec.upto decKnownSpec)) decKnownUptoCard
end Rows
end Go.Proofs.YtoklknioeoodbabDoor
