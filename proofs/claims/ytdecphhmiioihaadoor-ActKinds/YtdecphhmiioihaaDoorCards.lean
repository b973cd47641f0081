/-
  DERIVED. GIVEN WITH THE SEED: THE CARDS: each row of YtdecphhmiioihaaDoorRows.lean that lists a variable, with what it lists TIED to the program's text (the seventh form; the later family's looks); each row that meets fmt, with fmt's text TOLD by the authors' own Lean function (tested against real Go, not proved from fmt's source: count such statements apart). THE CARD IS WHAT COUNTS. Prove the row's statement (the work); the ties are given (YtdecphhmiioihaaDoorTie.lean); close each card by the builder's one call (the guide's Derived/Test/ToyasCard.lean, 'card_holds'). Laid BY PROGRAM, IN A SANDBOX (cutbox-door.mjs). By AI agents, Wed Nov 11 2026. No macro, syntax, notation, axiom, sorry.
-/
import Derived.Test.YtdecphhmiioihaaDoorRows
import GoSem.ClaimSeven
namespace Go.Proofs.YtdecphhmiioihaaDoor
namespace Rows

/-- THE TIED CARD OF 'interlocutorlaw8.ActRight'. -/
def actRightCard : Claim7 := { stood := { row := actRightRow, standIns := [], harness := (true, "a1f17b8acf3d4e3a7eaf2d75cb1505f1ba94f3a43696850278bbc651db793666"), looks := false }, kinds := [], alts := [], laidByText := true, laidKinds := [.data, .sentinel], laidTests := true, laidLooks := .later }
def ActRightCardSaid : Prop := Claim7.holds Tryd.pinned (.plain (OpenSpec.ofChange actRightSpec)) actRightCard

/-- THE TIED CARD OF 'interlocutorlaw8.ActMoves'. -/
def actMovesCard : Claim7 := { stood := { row := actMovesRow, standIns := [], harness := (true, "a1f17b8acf3d4e3a7eaf2d75cb1505f1ba94f3a43696850278bbc651db793666"), looks := false }, kinds := [], alts := [], laidByText := true, laidKinds := [.data, .sentinel], laidTests := true, laidLooks := .later }
def ActMovesCardSaid : Prop := Claim7.holds Tryd.pinned (.plain (OpenSpec.ofChange actMovesSpec)) actMovesCard

/-- THE TIED CARD OF 'interlocutorlaw8.ActNext'. -/
def actNextCard : Claim7 := { stood := { row := actNextRow, standIns := [], harness := (true, "a1f17b8acf3d4e3a7eaf2d75cb1505f1ba94f3a43696850278bbc651db793666"), looks := false }, kinds := [], alts := [], laidByText := true, laidKinds := [.data, .sentinel], laidTests := true, laidLooks := .later }
def ActNextCardSaid : Prop := Claim7.holds Tryd.pinned (.plain (OpenSpec.ofChange actNextSpec)) actNextCard

/-- THE TIED CARD OF 'interlocutorlaw8.ActSigns'. -/
def actSignsCard : Claim7 := { stood := { row := actSignsRow, standIns := [], harness := (true, "a1f17b8acf3d4e3a7eaf2d75cb1505f1ba94f3a43696850278bbc651db793666"), looks := false }, kinds := [], alts := [], laidByText := true, laidKinds := [.data, .sentinel], laidTests := true, laidLooks := .later }
def ActSignsCardSaid : Prop := Claim7.holds Tryd.pinned (.plain (OpenSpec.ofChange actSignsSpec)) actSignsCard

/-- THE TIED CARD OF 'interlocutorlaw8.ActGroups'. -/
def actGroupsCard : Claim7 := { stood := { row := actGroupsRow, standIns := [], harness := (true, "a1f17b8acf3d4e3a7eaf2d75cb1505f1ba94f3a43696850278bbc651db793666"), looks := false }, kinds := [], alts := [], laidByText := true, laidKinds := [.data, .sentinel], laidTests := true, laidLooks := .later }
def ActGroupsCardSaid : Prop := Claim7.holds Tryd.pinned (.plain (OpenSpec.ofChange actGroupsSpec)) actGroupsCard

/-- THE TIED CARD OF 'interlocutorlaw8.ActHalves'. -/
def actHalvesCard : Claim7 := { stood := { row := actHalvesRow, standIns := [], harness := (true, "a1f17b8acf3d4e3a7eaf2d75cb1505f1ba94f3a43696850278bbc651db793666"), looks := false }, kinds := [], alts := [], laidByText := true, laidKinds := [.data, .sentinel], laidTests := true, laidLooks := .later }
def ActHalvesCardSaid : Prop := Claim7.holds Tryd.pinned (.plain (OpenSpec.ofChange actHalvesSpec)) actHalvesCard

/-- THE TIED CARD OF 'interlocutorlaw8.ActPicks'. -/
def actPicksCard : Claim7 := { stood := { row := actPicksRow, standIns := [], harness := (true, "a1f17b8acf3d4e3a7eaf2d75cb1505f1ba94f3a43696850278bbc651db793666"), looks := false }, kinds := [], alts := [], laidByText := true, laidKinds := [.data, .sentinel], laidTests := true, laidLooks := .later }
def ActPicksCardSaid : Prop := Claim7.holds Tryd.pinned (.plain (OpenSpec.ofChange actPicksSpec)) actPicksCard

/-- THE TIED CARD OF 'interlocutorlaw8.ActDates'. -/
def actDatesCard : Claim7 := { stood := { row := actDatesRow, standIns := [], harness := (true, "a1f17b8acf3d4e3a7eaf2d75cb1505f1ba94f3a43696850278bbc651db793666"), looks := false }, kinds := [], alts := [], laidByText := true, laidKinds := [.data, .sentinel], laidTests := true, laidLooks := .later }
def ActDatesCardSaid : Prop := Claim7.holds Tryd.pinned (.plain (OpenSpec.ofChange actDatesSpec)) actDatesCard

/-- THE TIED CARD OF 'interlocutorlaw8.ActKinds'. -/
def actKindsCard : Claim7 := { stood := { row := actKindsRow, standIns := [], harness := (true, "a1f17b8acf3d4e3a7eaf2d75cb1505f1ba94f3a43696850278bbc651db793666"), looks := false }, kinds := [], alts := [], laidByText := true, laidKinds := [.data, .sentinel], laidTests := true, laidLooks := .later }
def ActKindsCardSaid : Prop := Claim7.holds Tryd.pinned (.plain (OpenSpec.ofChange actKindsSpec)) actKindsCard

/-- THE TIED CARD OF 'interlocutorlaw8.ActSums'. -/
def actSumsCard : Claim7 := { stood := { row := actSumsRow, standIns := [], harness := (true, "a1f17b8acf3d4e3a7eaf2d75cb1505f1ba94f3a43696850278bbc651db793666"), looks := false }, kinds := [], alts := [], laidByText := true, laidKinds := [.data, .sentinel], laidTests := true, laidLooks := .later }
def ActSumsCardSaid : Prop := Claim7.holds Tryd.pinned (.plain (OpenSpec.ofChange actSumsSpec)) actSumsCard

/-- THE TIED CARD OF 'interlocutorlaw8.ActPoints'. -/
def actPointsCard : Claim7 := { stood := { row := actPointsRow, standIns := [], harness := (true, "a1f17b8acf3d4e3a7eaf2d75cb1505f1ba94f3a43696850278bbc651db793666"), looks := false }, kinds := [], alts := [], laidByText := true, laidKinds := [.data, .sentinel], laidTests := true, laidLooks := .later }
def ActPointsCardSaid : Prop := Claim7.holds Tryd.pinned (.plain (OpenSpec.ofChange actPointsSpec)) actPointsCard

/-- THE SECOND FORM's CARD OF 'interlocutorlaw8.ActRight'. -/
def actRightUptoCard : Claim7 := { stood := { row := actRightUptoRow, standIns := [], harness := (true, "a1f17b8acf3d4e3a7eaf2d75cb1505f1ba94f3a43696850278bbc651db793666"), looks := false }, kinds := [], alts := [], laidByText := true, laidKinds := [.data, .sentinel], laidTests := true, laidLooks := .later }
def ActRightUptoCardSaid : Prop := Claim7.holds Tryd.pinned (.plain (OpenSpec.upto actRightSpec)) actRightUptoCard

/-- THE SECOND FORM's CARD OF 'interlocutorlaw8.ActMoves'. -/
def actMovesUptoCard : Claim7 := { stood := { row := actMovesUptoRow, standIns := [], harness := (true, "a1f17b8acf3d4e3a7eaf2d75cb1505f1ba94f3a43696850278bbc651db793666"), looks := false }, kinds := [], alts := [], laidByText := true, laidKinds := [.data, .sentinel], laidTests := true, laidLooks := .later }
def ActMovesUptoCardSaid : Prop := Claim7.holds Tryd.pinned (.plain (OpenSpec.upto actMovesSpec)) actMovesUptoCard

/-- THE SECOND FORM's CARD OF 'interlocutorlaw8.ActNext'. -/
def actNextUptoCard : Claim7 := { stood := { row := actNextUptoRow, standIns := [], harness := (true, "a1f17b8acf3d4e3a7eaf2d75cb1505f1ba94f3a43696850278bbc651db793666"), looks := false }, kinds := [], alts := [], laidByText := true, laidKinds := [.data, .sentinel], laidTests := true, laidLooks := .later }
def ActNextUptoCardSaid : Prop := Claim7.holds Tryd.pinned (.plain (OpenSpec.upto actNextSpec)) actNextUptoCard

/-- THE SECOND FORM's CARD OF 'interlocutorlaw8.ActSigns'. -/
def actSignsUptoCard : Claim7 := { stood := { row := actSignsUptoRow, standIns := [], harness := (true, "a1f17b8acf3d4e3a7eaf2d75cb1505f1ba94f3a43696850278bbc651db793666"), looks := false }, kinds := [], alts := [], laidByText := true, laidKinds := [.data, .sentinel], laidTests := true, laidLooks := .later }
def ActSignsUptoCardSaid : Prop := Claim7.holds Tryd.pinned (.plain (OpenSpec.upto actSignsSpec)) actSignsUptoCard

/-- THE SECOND FORM's CARD OF 'interlocutorlaw8.ActGroups'. -/
def actGroupsUptoCard : Claim7 := { stood := { row := actGroupsUptoRow, standIns := [], harness := (true, "a1f17b8acf3d4e3a7eaf2d75cb1505f1ba94f3a43696850278bbc651db793666"), looks := false }, kinds := [], alts := [], laidByText := true, laidKinds := [.data, .sentinel], laidTests := true, laidLooks := .later }
def ActGroupsUptoCardSaid : Prop := Claim7.holds Tryd.pinned (.plain (OpenSpec.upto actGroupsSpec)) actGroupsUptoCard

/-- THE SECOND FORM's CARD OF 'interlocutorlaw8.ActHalves'. -/
def actHalvesUptoCard : Claim7 := { stood := { row := actHalvesUptoRow, standIns := [], harness := (true, "a1f17b8acf3d4e3a7eaf2d75cb1505f1ba94f3a43696850278bbc651db793666"), looks := false }, kinds := [], alts := [], laidByText := true, laidKinds := [.data, .sentinel], laidTests := true, laidLooks := .later }
def ActHalvesUptoCardSaid : Prop := Claim7.holds Tryd.pinned (.plain (OpenSpec.upto actHalvesSpec)) actHalvesUptoCard

/-- THE SECOND FORM's CARD OF 'interlocutorlaw8.ActPicks'. -/
def actPicksUptoCard : Claim7 := { stood := { row := actPicksUptoRow, standIns := [], harness := (true, "a1f17b8acf3d4e3a7eaf2d75cb1505f1ba94f3a43696850278bbc651db793666"), looks := false }, kinds := [], alts := [], laidByText := true, laidKinds := [.data, .sentinel], laidTests := true, laidLooks := .later }
def ActPicksUptoCardSaid : Prop := Claim7.holds Tryd.pinned (.plain (OpenSpec.upto actPicksSpec)) actPicksUptoCard

/-- THE SECOND FORM's CARD OF 'interlocutorlaw8.ActDates'. -/
def actDatesUptoCard : Claim7 := { stood := { row := actDatesUptoRow, standIns := [], harness := (true, "a1f17b8acf3d4e3a7eaf2d75cb1505f1ba94f3a43696850278bbc651db793666"), looks := false }, kinds := [], alts := [], laidByText := true, laidKinds := [.data, .sentinel], laidTests := true, laidLooks := .later }
def ActDatesUptoCardSaid : Prop := Claim7.holds Tryd.pinned (.plain (OpenSpec.upto actDatesSpec)) actDatesUptoCard

/-- THE SECOND FORM's CARD OF 'interlocutorlaw8.ActKinds'. -/
def actKindsUptoCard : Claim7 := { stood := { row := actKindsUptoRow, standIns := [], harness := (true, "a1f17b8acf3d4e3a7eaf2d75cb1505f1ba94f3a43696850278bbc651db793666"), looks := false }, kinds := [], alts := [], laidByText := true, laidKinds := [.data, .sentinel], laidTests := true, laidLooks := .later }
def ActKindsUptoCardSaid : Prop := Claim7.holds Tryd.pinned (.plain (OpenSpec.upto actKindsSpec)) actKindsUptoCard

/-- THE SECOND FORM's CARD OF 'interlocutorlaw8.ActSums'. -/
def actSumsUptoCard : Claim7 := { stood := { row := actSumsUptoRow, standIns := [], harness := (true, "a1f17b8acf3d4e3a7eaf2d75cb1505f1ba94f3a43696850278bbc651db793666"), looks := false }, kinds := [], alts := [], laidByText := true, laidKinds := [.data, .sentinel], laidTests := true, laidLooks := .later }
def ActSumsUptoCardSaid : Prop := Claim7.holds Tryd.pinned (.plain (OpenSpec.upto actSumsSpec)) actSumsUptoCard

/-- THE SECOND FORM's CARD OF 'interlocutorlaw8.ActPoints'. -/
def actPointsUptoCard : Claim7 := { stood := { row := actPointsUptoRow, standIns := [], harness := (true, "a1f17b8acf3d4e3a7eaf2d75cb1505f1ba94f3a43696850278bbc651db793666"), looks := false }, kinds := [], alts := [], laidByText := true, laidKinds := [.data, .sentinel], laidTests := true, laidLooks := .later }
def ActPointsUptoCardSaid : Prop := Claim7.holds Tryd.pinned (.plain (OpenSpec.upto actPointsSpec)) actPointsUptoCard
end Rows
end Go.Proofs.YtdecphhmiioihaaDoor
