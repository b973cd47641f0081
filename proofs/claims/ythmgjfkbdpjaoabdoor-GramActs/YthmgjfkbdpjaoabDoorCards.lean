/-
  DERIVED. GIVEN WITH THE SEED: THE CARDS: each row of YthmgjfkbdpjaoabDoorRows.lean that lists a variable, with what it lists TIED to the program's text (the seventh form; the later family's looks); each row that meets fmt, with fmt's text TOLD by the authors' own Lean function (tested against real Go, not proved from fmt's source: count such statements apart). THE CARD IS WHAT COUNTS. Prove the row's statement (the work); the ties are given (YthmgjfkbdpjaoabDoorTie.lean); close each card by the builder's one call (the guide's Derived/Test/ToyasCard.lean, 'card_holds'). Laid BY PROGRAM, IN A SANDBOX (cutbox-door.mjs). By AI agents, Wed Nov 11 2026. No macro, syntax, notation, axiom, sorry.
-/
import Derived.Test.YthmgjfkbdpjaoabDoorRows
import GoSem.ClaimSeven
namespace Go.Proofs.YthmgjfkbdpjaoabDoor
namespace Rows

/-- THE TIED CARD OF 'interlocutorlaw4.GramFewer'. -/
def gramFewerCard : Claim7 := { stood := { row := gramFewerRow, standIns := [], harness := (true, "ccd8b7d1aaf944c9a91ba904d5b7b62d7a5d2bc6e5a3c99835cc21b6117c396c"), looks := false }, kinds := [], alts := [], laidByText := true, laidKinds := [.data], laidTests := true, laidLooks := .later }
def GramFewerCardSaid : Prop := Claim7.holds Tryd.pinned (.plain (OpenSpec.ofChange gramFewerSpec)) gramFewerCard

/-- THE TIED CARD OF 'interlocutorlaw4.GramUnits'. -/
def gramUnitsCard : Claim7 := { stood := { row := gramUnitsRow, standIns := [], harness := (true, "ccd8b7d1aaf944c9a91ba904d5b7b62d7a5d2bc6e5a3c99835cc21b6117c396c"), looks := false }, kinds := [], alts := [], laidByText := true, laidKinds := [.data], laidTests := true, laidLooks := .later }
def GramUnitsCardSaid : Prop := Claim7.holds Tryd.pinned (.plain (OpenSpec.ofChange gramUnitsSpec)) gramUnitsCard

/-- THE TIED CARD OF 'interlocutorlaw4.GramActs'. -/
def gramActsCard : Claim7 := { stood := { row := gramActsRow, standIns := [], harness := (true, "ccd8b7d1aaf944c9a91ba904d5b7b62d7a5d2bc6e5a3c99835cc21b6117c396c"), looks := false }, kinds := [], alts := [], laidByText := true, laidKinds := [.data], laidTests := true, laidLooks := .later }
def GramActsCardSaid : Prop := Claim7.holds Tryd.pinned (.plain (OpenSpec.ofChange gramActsSpec)) gramActsCard

/-- THE TIED CARD OF 'interlocutorlaw4.GramOwn'. -/
def gramOwnCard : Claim7 := { stood := { row := gramOwnRow, standIns := [], harness := (true, "ccd8b7d1aaf944c9a91ba904d5b7b62d7a5d2bc6e5a3c99835cc21b6117c396c"), looks := false }, kinds := [], alts := [], laidByText := true, laidKinds := [.data], laidTests := true, laidLooks := .later }
def GramOwnCardSaid : Prop := Claim7.holds Tryd.pinned (.plain (OpenSpec.ofChange gramOwnSpec)) gramOwnCard

/-- THE SECOND FORM's CARD OF 'interlocutorlaw4.GramFewer'. -/
def gramFewerUptoCard : Claim7 := { stood := { row := gramFewerUptoRow, standIns := [], harness := (true, "ccd8b7d1aaf944c9a91ba904d5b7b62d7a5d2bc6e5a3c99835cc21b6117c396c"), looks := false }, kinds := [], alts := [], laidByText := true, laidKinds := [.data], laidTests := true, laidLooks := .later }
def GramFewerUptoCardSaid : Prop := Claim7.holds Tryd.pinned (.plain (OpenSpec.upto gramFewerSpec)) gramFewerUptoCard

/-- THE SECOND FORM's CARD OF 'interlocutorlaw4.GramUnits'. -/
def gramUnitsUptoCard : Claim7 := { stood := { row := gramUnitsUptoRow, standIns := [], harness := (true, "ccd8b7d1aaf944c9a91ba904d5b7b62d7a5d2bc6e5a3c99835cc21b6117c396c"), looks := false }, kinds := [], alts := [], laidByText := true, laidKinds := [.data], laidTests := true, laidLooks := .later }
def GramUnitsUptoCardSaid : Prop := Claim7.holds Tryd.pinned (.plain (OpenSpec.upto gramUnitsSpec)) gramUnitsUptoCard

/-- THE SECOND FORM's CARD OF 'interlocutorlaw4.GramActs'. -/
def gramActsUptoCard : Claim7 := { stood := { row := gramActsUptoRow, standIns := [], harness := (true, "ccd8b7d1aaf944c9a91ba904d5b7b62d7a5d2bc6e5a3c99835cc21b6117c396c"), looks := false }, kinds := [], alts := [], laidByText := true, laidKinds := [.data], laidTests := true, laidLooks := .later }
def GramActsUptoCardSaid : Prop := Claim7.holds Tryd.pinned (.plain (OpenSpec.upto gramActsSpec)) gramActsUptoCard

/-- THE SECOND FORM's CARD OF 'interlocutorlaw4.GramOwn'. -/
def gramOwnUptoCard : Claim7 := { stood := { row := gramOwnUptoRow, standIns := [], harness := (true, "ccd8b7d1aaf944c9a91ba904d5b7b62d7a5d2bc6e5a3c99835cc21b6117c396c"), looks := false }, kinds := [], alts := [], laidByText := true, laidKinds := [.data], laidTests := true, laidLooks := .later }
def GramOwnUptoCardSaid : Prop := Claim7.holds Tryd.pinned (.plain (OpenSpec.upto gramOwnSpec)) gramOwnUptoCard
end Rows
end Go.Proofs.YthmgjfkbdpjaoabDoor
