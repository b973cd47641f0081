/-
  DERIVED. GIVEN WITH THE SEED: THE CARDS: each row of YtengcdodoblabaaDoorRows.lean that lists a variable, with what it lists TIED to the program's text (the seventh form; the later family's looks); each row that meets fmt, with fmt's text TOLD by the authors' own Lean function (tested against real Go, not proved from fmt's source: count such statements apart). THE CARD IS WHAT COUNTS. Prove the row's statement (the work); the ties are given (YtengcdodoblabaaDoorTie.lean); close each card by the builder's one call (the guide's Derived/Test/ToyasCard.lean, 'card_holds'). Laid BY PROGRAM, IN A SANDBOX (cutbox-door.mjs). By AI agents, Wed Nov 11 2026. No macro, syntax, notation, axiom, sorry.
-/
import Derived.Test.YtengcdodoblabaaDoorRows
import GoSem.ClaimSeven
namespace Go.Proofs.YtengcdodoblabaaDoor
namespace Rows

/-- THE TIED CARD OF 'interlocutorlaw8.ActRight'. -/
def actRightCard : Claim7 := { stood := { row := actRightRow, standIns := [], harness := (true, "d97ed997cb18df0f6d223e6c70f7c8cbed662562769edd95b56b9c3dff16c485"), looks := false }, kinds := [], alts := [], laidByText := true, laidKinds := [.data, .sentinel], laidTests := true, laidLooks := .later }
def ActRightCardSaid : Prop := Claim7.holds Tryd.pinned (.plain (OpenSpec.ofChange actRightSpec)) actRightCard

/-- THE TIED CARD OF 'interlocutorlaw8.ActGroups'. -/
def actGroupsCard : Claim7 := { stood := { row := actGroupsRow, standIns := [], harness := (true, "d97ed997cb18df0f6d223e6c70f7c8cbed662562769edd95b56b9c3dff16c485"), looks := false }, kinds := [], alts := [], laidByText := true, laidKinds := [.data, .sentinel], laidTests := true, laidLooks := .later }
def ActGroupsCardSaid : Prop := Claim7.holds Tryd.pinned (.plain (OpenSpec.ofChange actGroupsSpec)) actGroupsCard

/-- THE TIED CARD OF 'interlocutorlaw8.ActPicks'. -/
def actPicksCard : Claim7 := { stood := { row := actPicksRow, standIns := [], harness := (true, "d97ed997cb18df0f6d223e6c70f7c8cbed662562769edd95b56b9c3dff16c485"), looks := false }, kinds := [], alts := [], laidByText := true, laidKinds := [.data, .sentinel], laidTests := true, laidLooks := .later }
def ActPicksCardSaid : Prop := Claim7.holds Tryd.pinned (.plain (OpenSpec.ofChange actPicksSpec)) actPicksCard

/-- THE TIED CARD OF 'interlocutorlaw8.ActPoints'. -/
def actPointsCard : Claim7 := { stood := { row := actPointsRow, standIns := [], harness := (true, "d97ed997cb18df0f6d223e6c70f7c8cbed662562769edd95b56b9c3dff16c485"), looks := false }, kinds := [], alts := [], laidByText := true, laidKinds := [.data, .sentinel], laidTests := true, laidLooks := .later }
def ActPointsCardSaid : Prop := Claim7.holds Tryd.pinned (.plain (OpenSpec.ofChange actPointsSpec)) actPointsCard

/-- THE SECOND FORM's CARD OF 'interlocutorlaw8.ActRight'. -/
def actRightUptoCard : Claim7 := { stood := { row := actRightUptoRow, standIns := [], harness := (true, "d97ed997cb18df0f6d223e6c70f7c8cbed662562769edd95b56b9c3dff16c485"), looks := false }, kinds := [], alts := [], laidByText := true, laidKinds := [.data, .sentinel], laidTests := true, laidLooks := .later }
def ActRightUptoCardSaid : Prop := Claim7.holds Tryd.pinned (.plain (OpenSpec.upto actRightSpec)) actRightUptoCard

/-- THE SECOND FORM's CARD OF 'interlocutorlaw8.ActGroups'. -/
def actGroupsUptoCard : Claim7 := { stood := { row := actGroupsUptoRow, standIns := [], harness := (true, "d97ed997cb18df0f6d223e6c70f7c8cbed662562769edd95b56b9c3dff16c485"), looks := false }, kinds := [], alts := [], laidByText := true, laidKinds := [.data, .sentinel], laidTests := true, laidLooks := .later }
def ActGroupsUptoCardSaid : Prop := Claim7.holds Tryd.pinned (.plain (OpenSpec.upto actGroupsSpec)) actGroupsUptoCard

/-- THE SECOND FORM's CARD OF 'interlocutorlaw8.ActPicks'. -/
def actPicksUptoCard : Claim7 := { stood := { row := actPicksUptoRow, standIns := [], harness := (true, "d97ed997cb18df0f6d223e6c70f7c8cbed662562769edd95b56b9c3dff16c485"), looks := false }, kinds := [], alts := [], laidByText := true, laidKinds := [.data, .sentinel], laidTests := true, laidLooks := .later }
def ActPicksUptoCardSaid : Prop := Claim7.holds Tryd.pinned (.plain (OpenSpec.upto actPicksSpec)) actPicksUptoCard

/-- THE SECOND FORM's CARD OF 'interlocutorlaw8.ActPoints'. -/
def actPointsUptoCard : Claim7 := { stood := { row := actPointsUptoRow, standIns := [], harness := (true, "d97ed997cb18df0f6d223e6c70f7c8cbed662562769edd95b56b9c3dff16c485"), looks := false }, kinds := [], alts := [], laidByText := true, laidKinds := [.data, .sentinel], laidTests := true, laidLooks := .later }
def ActPointsUptoCardSaid : Prop := Claim7.holds Tryd.pinned (.plain (OpenSpec.upto actPointsSpec)) actPointsUptoCard
end Rows
end Go.Proofs.YtengcdodoblabaaDoor
