/-
  DERIVED. GIVEN WITH THE SEED: THE CARDS: each row of YtannndpamhgknaaGreatDoorRows.lean that lists a variable, with what it lists TIED to the program's text (the seventh form; the later family's looks); each row that meets fmt, with fmt's text TOLD by the authors' own Lean function (tested against real Go, not proved from fmt's source: count such statements apart). THE CARD IS WHAT COUNTS. Prove the row's statement (the work); the ties are given (YtannndpamhgknaaGreatDoorTie.lean); close each card by the builder's one call (the guide's Derived/Test/ToyasCard.lean, 'card_holds'). Laid BY PROGRAM, IN A SANDBOX (cutbox-door.mjs). By AI agents, Wed Nov 11 2026. No macro, syntax, notation, axiom, sorry.
-/
import Derived.Test.YtannndpamhgknaaGreatDoorRows
import GoSem.ClaimSeven
namespace Go.Proofs.YtannndpamhgknaaGreatDoor
namespace Rows

/-- THE TIED CARD OF 'interlocutorlaw11.RenderAll'. -/
def renderAllCard : Claim7 := { stood := { row := renderAllRow, standIns := [], harness := (true, "d95ccbd011c3d165088da823f63bd25dbee09c4482bee5f6a15339ceea19548b"), looks := true }, kinds := [], alts := [], laidByText := true, laidKinds := [.data, .data, .data, .sentinel, .sentinel, .data, .data], laidTests := true, laidLooks := .later }
def RenderAllCardSaid : Prop := Claim7.holds Tryz.pinned (.plain (OpenSpec.ofChange renderAllSpec)) renderAllCard

/-- THE TIED CARD OF 'interlocutorlaw11.RenderKnown'. -/
def renderKnownCard : Claim7 := { stood := { row := renderKnownRow, standIns := [], harness := (true, "d95ccbd011c3d165088da823f63bd25dbee09c4482bee5f6a15339ceea19548b"), looks := true }, kinds := [], alts := [], laidByText := true, laidKinds := [.data, .data, .data, .sentinel, .sentinel, .data, .data], laidTests := true, laidLooks := .later }
def RenderKnownCardSaid : Prop := Claim7.holds Tryz.pinned (.plain (OpenSpec.ofChange renderKnownSpec)) renderKnownCard

/-- THE TIED CARD OF 'interlocutorlaw11.RenderDigits'. -/
def renderDigitsCard : Claim7 := { stood := { row := renderDigitsRow, standIns := [], harness := (true, "d95ccbd011c3d165088da823f63bd25dbee09c4482bee5f6a15339ceea19548b"), looks := true }, kinds := [], alts := [], laidByText := true, laidKinds := [.data, .data, .data, .sentinel, .sentinel, .data, .data], laidTests := true, laidLooks := .later }
def RenderDigitsCardSaid : Prop := Claim7.holds Tryz.pinned (.plain (OpenSpec.ofChange renderDigitsSpec)) renderDigitsCard

/-- THE TIED CARD OF 'interlocutorlaw11.RenderLong'. -/
def renderLongCard : Claim7 := { stood := { row := renderLongRow, standIns := [], harness := (true, "d95ccbd011c3d165088da823f63bd25dbee09c4482bee5f6a15339ceea19548b"), looks := true }, kinds := [], alts := [], laidByText := true, laidKinds := [.data, .data, .data, .sentinel, .sentinel, .data, .data], laidTests := true, laidLooks := .later }
def RenderLongCardSaid : Prop := Claim7.holds Tryz.pinned (.plain (OpenSpec.ofChange renderLongSpec)) renderLongCard

/-- THE TIED CARD OF 'interlocutorlaw11.RenderRange'. -/
def renderRangeCard : Claim7 := { stood := { row := renderRangeRow, standIns := [], harness := (true, "d95ccbd011c3d165088da823f63bd25dbee09c4482bee5f6a15339ceea19548b"), looks := true }, kinds := [], alts := [], laidByText := true, laidKinds := [.data, .data, .data, .sentinel, .sentinel, .data, .data], laidTests := true, laidLooks := .later }
def RenderRangeCardSaid : Prop := Claim7.holds Tryz.pinned (.plain (OpenSpec.ofChange renderRangeSpec)) renderRangeCard

/-- THE TIED CARD OF 'interlocutorlaw11.RenderParts'. -/
def renderPartsCard : Claim7 := { stood := { row := renderPartsRow, standIns := [], harness := (true, "d95ccbd011c3d165088da823f63bd25dbee09c4482bee5f6a15339ceea19548b"), looks := true }, kinds := [], alts := [], laidByText := true, laidKinds := [.data, .data, .data, .sentinel, .sentinel, .data, .data], laidTests := true, laidLooks := .later }
def RenderPartsCardSaid : Prop := Claim7.holds Tryz.pinned (.plain (OpenSpec.ofChange renderPartsSpec)) renderPartsCard

/-- THE TIED CARD OF 'interlocutorlaw11.RenderWidths'. -/
def renderWidthsCard : Claim7 := { stood := { row := renderWidthsRow, standIns := [], harness := (true, "d95ccbd011c3d165088da823f63bd25dbee09c4482bee5f6a15339ceea19548b"), looks := true }, kinds := [], alts := [], laidByText := true, laidKinds := [.data, .data, .data, .sentinel, .sentinel, .data, .data], laidTests := true, laidLooks := .later }
def RenderWidthsCardSaid : Prop := Claim7.holds Tryz.pinned (.plain (OpenSpec.ofChange renderWidthsSpec)) renderWidthsCard

/-- THE TIED CARD OF 'interlocutorlaw11.RenderDurs'. -/
def renderDursCard : Claim7 := { stood := { row := renderDursRow, standIns := [], harness := (true, "d95ccbd011c3d165088da823f63bd25dbee09c4482bee5f6a15339ceea19548b"), looks := true }, kinds := [], alts := [], laidByText := true, laidKinds := [.data, .data, .data, .sentinel, .sentinel, .data, .data], laidTests := true, laidLooks := .later }
def RenderDursCardSaid : Prop := Claim7.holds Tryz.pinned (.plain (OpenSpec.ofChange renderDursSpec)) renderDursCard

/-- THE TIED CARD OF 'interlocutorlaw11.RenderWords'. -/
def renderWordsCard : Claim7 := { stood := { row := renderWordsRow, standIns := [], harness := (true, "d95ccbd011c3d165088da823f63bd25dbee09c4482bee5f6a15339ceea19548b"), looks := true }, kinds := [], alts := [], laidByText := true, laidKinds := [.data, .data, .data, .sentinel, .sentinel, .data, .data], laidTests := true, laidLooks := .later }
def RenderWordsCardSaid : Prop := Claim7.holds Tryz.pinned (.plain (OpenSpec.ofChange renderWordsSpec)) renderWordsCard

/-- THE TIED CARD OF 'interlocutorlaw11.RenderOwn'. -/
def renderOwnCard : Claim7 := { stood := { row := renderOwnRow, standIns := [], harness := (true, "d95ccbd011c3d165088da823f63bd25dbee09c4482bee5f6a15339ceea19548b"), looks := true }, kinds := [], alts := [], laidByText := true, laidKinds := [.data, .data, .data, .sentinel, .sentinel, .data, .data], laidTests := true, laidLooks := .later }
def RenderOwnCardSaid : Prop := Claim7.holds Tryz.pinned (.plain (OpenSpec.ofChange renderOwnSpec)) renderOwnCard

/-- THE SECOND FORM's CARD OF 'interlocutorlaw11.RenderAll'. -/
def renderAllUptoCard : Claim7 := { stood := { row := renderAllUptoRow, standIns := [], harness := (true, "d95ccbd011c3d165088da823f63bd25dbee09c4482bee5f6a15339ceea19548b"), looks := true }, kinds := [], alts := [], laidByText := true, laidKinds := [.data, .data, .data, .sentinel, .sentinel, .data, .data], laidTests := true, laidLooks := .later }
def RenderAllUptoCardSaid : Prop := Claim7.holds Tryz.pinned (.plain (OpenSpec.upto renderAllSpec)) renderAllUptoCard

/-- THE SECOND FORM's CARD OF 'interlocutorlaw11.RenderKnown'. -/
def renderKnownUptoCard : Claim7 := { stood := { row := renderKnownUptoRow, standIns := [], harness := (true, "d95ccbd011c3d165088da823f63bd25dbee09c4482bee5f6a15339ceea19548b"), looks := true }, kinds := [], alts := [], laidByText := true, laidKinds := [.data, .data, .data, .sentinel, .sentinel, .data, .data], laidTests := true, laidLooks := .later }
def RenderKnownUptoCardSaid : Prop := Claim7.holds Tryz.pinned (.plain (OpenSpec.upto renderKnownSpec)) renderKnownUptoCard

/-- THE SECOND FORM's CARD OF 'interlocutorlaw11.RenderDigits'. -/
def renderDigitsUptoCard : Claim7 := { stood := { row := renderDigitsUptoRow, standIns := [], harness := (true, "d95ccbd011c3d165088da823f63bd25dbee09c4482bee5f6a15339ceea19548b"), looks := true }, kinds := [], alts := [], laidByText := true, laidKinds := [.data, .data, .data, .sentinel, .sentinel, .data, .data], laidTests := true, laidLooks := .later }
def RenderDigitsUptoCardSaid : Prop := Claim7.holds Tryz.pinned (.plain (OpenSpec.upto renderDigitsSpec)) renderDigitsUptoCard

/-- THE SECOND FORM's CARD OF 'interlocutorlaw11.RenderLong'. -/
def renderLongUptoCard : Claim7 := { stood := { row := renderLongUptoRow, standIns := [], harness := (true, "d95ccbd011c3d165088da823f63bd25dbee09c4482bee5f6a15339ceea19548b"), looks := true }, kinds := [], alts := [], laidByText := true, laidKinds := [.data, .data, .data, .sentinel, .sentinel, .data, .data], laidTests := true, laidLooks := .later }
def RenderLongUptoCardSaid : Prop := Claim7.holds Tryz.pinned (.plain (OpenSpec.upto renderLongSpec)) renderLongUptoCard

/-- THE SECOND FORM's CARD OF 'interlocutorlaw11.RenderRange'. -/
def renderRangeUptoCard : Claim7 := { stood := { row := renderRangeUptoRow, standIns := [], harness := (true, "d95ccbd011c3d165088da823f63bd25dbee09c4482bee5f6a15339ceea19548b"), looks := true }, kinds := [], alts := [], laidByText := true, laidKinds := [.data, .data, .data, .sentinel, .sentinel, .data, .data], laidTests := true, laidLooks := .later }
def RenderRangeUptoCardSaid : Prop := Claim7.holds Tryz.pinned (.plain (OpenSpec.upto renderRangeSpec)) renderRangeUptoCard

/-- THE SECOND FORM's CARD OF 'interlocutorlaw11.RenderParts'. -/
def renderPartsUptoCard : Claim7 := { stood := { row := renderPartsUptoRow, standIns := [], harness := (true, "d95ccbd011c3d165088da823f63bd25dbee09c4482bee5f6a15339ceea19548b"), looks := true }, kinds := [], alts := [], laidByText := true, laidKinds := [.data, .data, .data, .sentinel, .sentinel, .data, .data], laidTests := true, laidLooks := .later }
def RenderPartsUptoCardSaid : Prop := Claim7.holds Tryz.pinned (.plain (OpenSpec.upto renderPartsSpec)) renderPartsUptoCard

/-- THE SECOND FORM's CARD OF 'interlocutorlaw11.RenderWidths'. -/
def renderWidthsUptoCard : Claim7 := { stood := { row := renderWidthsUptoRow, standIns := [], harness := (true, "d95ccbd011c3d165088da823f63bd25dbee09c4482bee5f6a15339ceea19548b"), looks := true }, kinds := [], alts := [], laidByText := true, laidKinds := [.data, .data, .data, .sentinel, .sentinel, .data, .data], laidTests := true, laidLooks := .later }
def RenderWidthsUptoCardSaid : Prop := Claim7.holds Tryz.pinned (.plain (OpenSpec.upto renderWidthsSpec)) renderWidthsUptoCard

/-- THE SECOND FORM's CARD OF 'interlocutorlaw11.RenderDurs'. -/
def renderDursUptoCard : Claim7 := { stood := { row := renderDursUptoRow, standIns := [], harness := (true, "d95ccbd011c3d165088da823f63bd25dbee09c4482bee5f6a15339ceea19548b"), looks := true }, kinds := [], alts := [], laidByText := true, laidKinds := [.data, .data, .data, .sentinel, .sentinel, .data, .data], laidTests := true, laidLooks := .later }
def RenderDursUptoCardSaid : Prop := Claim7.holds Tryz.pinned (.plain (OpenSpec.upto renderDursSpec)) renderDursUptoCard

/-- THE SECOND FORM's CARD OF 'interlocutorlaw11.RenderWords'. -/
def renderWordsUptoCard : Claim7 := { stood := { row := renderWordsUptoRow, standIns := [], harness := (true, "d95ccbd011c3d165088da823f63bd25dbee09c4482bee5f6a15339ceea19548b"), looks := true }, kinds := [], alts := [], laidByText := true, laidKinds := [.data, .data, .data, .sentinel, .sentinel, .data, .data], laidTests := true, laidLooks := .later }
def RenderWordsUptoCardSaid : Prop := Claim7.holds Tryz.pinned (.plain (OpenSpec.upto renderWordsSpec)) renderWordsUptoCard

/-- THE SECOND FORM's CARD OF 'interlocutorlaw11.RenderOwn'. -/
def renderOwnUptoCard : Claim7 := { stood := { row := renderOwnUptoRow, standIns := [], harness := (true, "d95ccbd011c3d165088da823f63bd25dbee09c4482bee5f6a15339ceea19548b"), looks := true }, kinds := [], alts := [], laidByText := true, laidKinds := [.data, .data, .data, .sentinel, .sentinel, .data, .data], laidTests := true, laidLooks := .later }
def RenderOwnUptoCardSaid : Prop := Claim7.holds Tryz.pinned (.plain (OpenSpec.upto renderOwnSpec)) renderOwnUptoCard
end Rows
end Go.Proofs.YtannndpamhgknaaGreatDoor
