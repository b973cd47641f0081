/-
  DERIVED. GIVEN WITH THE SEED: THE CARDS: each row of YtgpkgkmjppphgaaDoorRows.lean that lists a variable, with what it lists TIED to the program's text (the seventh form; the later family's looks); each row that meets fmt, with fmt's text TOLD by the authors' own Lean function (tested against real Go, not proved from fmt's source: count such statements apart). THE CARD IS WHAT COUNTS. Prove the row's statement (the work); the ties are given (YtgpkgkmjppphgaaDoorTie.lean); close each card by the builder's one call (the guide's Derived/Test/ToyasCard.lean, 'card_holds'). Laid BY PROGRAM, IN A SANDBOX (cutbox-door.mjs). By AI agents, Wed Nov 11 2026. No macro, syntax, notation, axiom, sorry.
-/
import Derived.Test.YtgpkgkmjppphgaaDoorRows
import GoSem.ClaimSeven
namespace Go.Proofs.YtgpkgkmjppphgaaDoor
namespace Rows

/-- THE TIED CARD OF 'interlocutorlaw4.GramRight'. -/
def gramRightCard : Claim7 := { stood := { row := gramRightRow, standIns := [], harness := (true, "03b3909945dade214bb464c244cede2fcf916154a28411d442a4f8d207c7da7c"), looks := false }, kinds := [], alts := [], laidByText := true, laidKinds := [.data], laidTests := true, laidLooks := .later }
def GramRightCardSaid : Prop := Claim7.holds Tryd.pinned (.plain (OpenSpec.ofChange gramRightSpec)) gramRightCard

/-- THE TIED CARD OF 'interlocutorlaw4.GramChecks'. -/
def gramChecksCard : Claim7 := { stood := { row := gramChecksRow, standIns := [], harness := (true, "03b3909945dade214bb464c244cede2fcf916154a28411d442a4f8d207c7da7c"), looks := false }, kinds := [], alts := [], laidByText := true, laidKinds := [.data], laidTests := true, laidLooks := .later }
def GramChecksCardSaid : Prop := Claim7.holds Tryd.pinned (.plain (OpenSpec.ofChange gramChecksSpec)) gramChecksCard

/-- THE TIED CARD OF 'interlocutorlaw4.GramRounds'. -/
def gramRoundsCard : Claim7 := { stood := { row := gramRoundsRow, standIns := [], harness := (true, "03b3909945dade214bb464c244cede2fcf916154a28411d442a4f8d207c7da7c"), looks := false }, kinds := [], alts := [], laidByText := true, laidKinds := [.data], laidTests := true, laidLooks := .later }
def GramRoundsCardSaid : Prop := Claim7.holds Tryd.pinned (.plain (OpenSpec.ofChange gramRoundsSpec)) gramRoundsCard

/-- THE TIED CARD OF 'interlocutorlaw4.GramMany'. -/
def gramManyCard : Claim7 := { stood := { row := gramManyRow, standIns := [], harness := (true, "03b3909945dade214bb464c244cede2fcf916154a28411d442a4f8d207c7da7c"), looks := false }, kinds := [], alts := [], laidByText := true, laidKinds := [.data], laidTests := true, laidLooks := .later }
def GramManyCardSaid : Prop := Claim7.holds Tryd.pinned (.plain (OpenSpec.ofChange gramManySpec)) gramManyCard

/-- THE TIED CARD OF 'interlocutorlaw4.GramReach'. -/
def gramReachCard : Claim7 := { stood := { row := gramReachRow, standIns := [], harness := (true, "03b3909945dade214bb464c244cede2fcf916154a28411d442a4f8d207c7da7c"), looks := false }, kinds := [], alts := [], laidByText := true, laidKinds := [.data], laidTests := true, laidLooks := .later }
def GramReachCardSaid : Prop := Claim7.holds Tryd.pinned (.plain (OpenSpec.ofChange gramReachSpec)) gramReachCard

/-- THE TIED CARD OF 'interlocutorlaw4.GramOrder'. -/
def gramOrderCard : Claim7 := { stood := { row := gramOrderRow, standIns := [], harness := (true, "03b3909945dade214bb464c244cede2fcf916154a28411d442a4f8d207c7da7c"), looks := false }, kinds := [], alts := [], laidByText := true, laidKinds := [.data], laidTests := true, laidLooks := .later }
def GramOrderCardSaid : Prop := Claim7.holds Tryd.pinned (.plain (OpenSpec.ofChange gramOrderSpec)) gramOrderCard

/-- THE TIED CARD OF 'interlocutorlaw4.GramFewer'. -/
def gramFewerCard : Claim7 := { stood := { row := gramFewerRow, standIns := [], harness := (true, "03b3909945dade214bb464c244cede2fcf916154a28411d442a4f8d207c7da7c"), looks := false }, kinds := [], alts := [], laidByText := true, laidKinds := [.data], laidTests := true, laidLooks := .later }
def GramFewerCardSaid : Prop := Claim7.holds Tryd.pinned (.plain (OpenSpec.ofChange gramFewerSpec)) gramFewerCard

/-- THE TIED CARD OF 'interlocutorlaw4.GramUnits'. -/
def gramUnitsCard : Claim7 := { stood := { row := gramUnitsRow, standIns := [], harness := (true, "03b3909945dade214bb464c244cede2fcf916154a28411d442a4f8d207c7da7c"), looks := false }, kinds := [], alts := [], laidByText := true, laidKinds := [.data], laidTests := true, laidLooks := .later }
def GramUnitsCardSaid : Prop := Claim7.holds Tryd.pinned (.plain (OpenSpec.ofChange gramUnitsSpec)) gramUnitsCard

/-- THE TIED CARD OF 'interlocutorlaw4.GramActs'. -/
def gramActsCard : Claim7 := { stood := { row := gramActsRow, standIns := [], harness := (true, "03b3909945dade214bb464c244cede2fcf916154a28411d442a4f8d207c7da7c"), looks := false }, kinds := [], alts := [], laidByText := true, laidKinds := [.data], laidTests := true, laidLooks := .later }
def GramActsCardSaid : Prop := Claim7.holds Tryd.pinned (.plain (OpenSpec.ofChange gramActsSpec)) gramActsCard

/-- THE TIED CARD OF 'interlocutorlaw4.GramOwn'. -/
def gramOwnCard : Claim7 := { stood := { row := gramOwnRow, standIns := [], harness := (true, "03b3909945dade214bb464c244cede2fcf916154a28411d442a4f8d207c7da7c"), looks := false }, kinds := [], alts := [], laidByText := true, laidKinds := [.data], laidTests := true, laidLooks := .later }
def GramOwnCardSaid : Prop := Claim7.holds Tryd.pinned (.plain (OpenSpec.ofChange gramOwnSpec)) gramOwnCard

/-- THE SECOND FORM's CARD OF 'interlocutorlaw4.GramRight'. -/
def gramRightUptoCard : Claim7 := { stood := { row := gramRightUptoRow, standIns := [], harness := (true, "03b3909945dade214bb464c244cede2fcf916154a28411d442a4f8d207c7da7c"), looks := false }, kinds := [], alts := [], laidByText := true, laidKinds := [.data], laidTests := true, laidLooks := .later }
def GramRightUptoCardSaid : Prop := Claim7.holds Tryd.pinned (.plain (OpenSpec.upto gramRightSpec)) gramRightUptoCard

/-- THE SECOND FORM's CARD OF 'interlocutorlaw4.GramChecks'. -/
def gramChecksUptoCard : Claim7 := { stood := { row := gramChecksUptoRow, standIns := [], harness := (true, "03b3909945dade214bb464c244cede2fcf916154a28411d442a4f8d207c7da7c"), looks := false }, kinds := [], alts := [], laidByText := true, laidKinds := [.data], laidTests := true, laidLooks := .later }
def GramChecksUptoCardSaid : Prop := Claim7.holds Tryd.pinned (.plain (OpenSpec.upto gramChecksSpec)) gramChecksUptoCard

/-- THE SECOND FORM's CARD OF 'interlocutorlaw4.GramRounds'. -/
def gramRoundsUptoCard : Claim7 := { stood := { row := gramRoundsUptoRow, standIns := [], harness := (true, "03b3909945dade214bb464c244cede2fcf916154a28411d442a4f8d207c7da7c"), looks := false }, kinds := [], alts := [], laidByText := true, laidKinds := [.data], laidTests := true, laidLooks := .later }
def GramRoundsUptoCardSaid : Prop := Claim7.holds Tryd.pinned (.plain (OpenSpec.upto gramRoundsSpec)) gramRoundsUptoCard

/-- THE SECOND FORM's CARD OF 'interlocutorlaw4.GramMany'. -/
def gramManyUptoCard : Claim7 := { stood := { row := gramManyUptoRow, standIns := [], harness := (true, "03b3909945dade214bb464c244cede2fcf916154a28411d442a4f8d207c7da7c"), looks := false }, kinds := [], alts := [], laidByText := true, laidKinds := [.data], laidTests := true, laidLooks := .later }
def GramManyUptoCardSaid : Prop := Claim7.holds Tryd.pinned (.plain (OpenSpec.upto gramManySpec)) gramManyUptoCard

/-- THE SECOND FORM's CARD OF 'interlocutorlaw4.GramReach'. -/
def gramReachUptoCard : Claim7 := { stood := { row := gramReachUptoRow, standIns := [], harness := (true, "03b3909945dade214bb464c244cede2fcf916154a28411d442a4f8d207c7da7c"), looks := false }, kinds := [], alts := [], laidByText := true, laidKinds := [.data], laidTests := true, laidLooks := .later }
def GramReachUptoCardSaid : Prop := Claim7.holds Tryd.pinned (.plain (OpenSpec.upto gramReachSpec)) gramReachUptoCard

/-- THE SECOND FORM's CARD OF 'interlocutorlaw4.GramOrder'. -/
def gramOrderUptoCard : Claim7 := { stood := { row := gramOrderUptoRow, standIns := [], harness := (true, "03b3909945dade214bb464c244cede2fcf916154a28411d442a4f8d207c7da7c"), looks := false }, kinds := [], alts := [], laidByText := true, laidKinds := [.data], laidTests := true, laidLooks := .later }
def GramOrderUptoCardSaid : Prop := Claim7.holds Tryd.pinned (.plain (OpenSpec.upto gramOrderSpec)) gramOrderUptoCard

/-- THE SECOND FORM's CARD OF 'interlocutorlaw4.GramFewer'. -/
def gramFewerUptoCard : Claim7 := { stood := { row := gramFewerUptoRow, standIns := [], harness := (true, "03b3909945dade214bb464c244cede2fcf916154a28411d442a4f8d207c7da7c"), looks := false }, kinds := [], alts := [], laidByText := true, laidKinds := [.data], laidTests := true, laidLooks := .later }
def GramFewerUptoCardSaid : Prop := Claim7.holds Tryd.pinned (.plain (OpenSpec.upto gramFewerSpec)) gramFewerUptoCard

/-- THE SECOND FORM's CARD OF 'interlocutorlaw4.GramUnits'. -/
def gramUnitsUptoCard : Claim7 := { stood := { row := gramUnitsUptoRow, standIns := [], harness := (true, "03b3909945dade214bb464c244cede2fcf916154a28411d442a4f8d207c7da7c"), looks := false }, kinds := [], alts := [], laidByText := true, laidKinds := [.data], laidTests := true, laidLooks := .later }
def GramUnitsUptoCardSaid : Prop := Claim7.holds Tryd.pinned (.plain (OpenSpec.upto gramUnitsSpec)) gramUnitsUptoCard

/-- THE SECOND FORM's CARD OF 'interlocutorlaw4.GramActs'. -/
def gramActsUptoCard : Claim7 := { stood := { row := gramActsUptoRow, standIns := [], harness := (true, "03b3909945dade214bb464c244cede2fcf916154a28411d442a4f8d207c7da7c"), looks := false }, kinds := [], alts := [], laidByText := true, laidKinds := [.data], laidTests := true, laidLooks := .later }
def GramActsUptoCardSaid : Prop := Claim7.holds Tryd.pinned (.plain (OpenSpec.upto gramActsSpec)) gramActsUptoCard

/-- THE SECOND FORM's CARD OF 'interlocutorlaw4.GramOwn'. -/
def gramOwnUptoCard : Claim7 := { stood := { row := gramOwnUptoRow, standIns := [], harness := (true, "03b3909945dade214bb464c244cede2fcf916154a28411d442a4f8d207c7da7c"), looks := false }, kinds := [], alts := [], laidByText := true, laidKinds := [.data], laidTests := true, laidLooks := .later }
def GramOwnUptoCardSaid : Prop := Claim7.holds Tryd.pinned (.plain (OpenSpec.upto gramOwnSpec)) gramOwnUptoCard
end Rows
end Go.Proofs.YtgpkgkmjppphgaaDoor
