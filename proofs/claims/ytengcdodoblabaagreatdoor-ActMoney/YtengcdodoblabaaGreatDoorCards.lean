/-
  DERIVED. GIVEN WITH THE SEED: THE CARDS: each row of YtengcdodoblabaaGreatDoorRows.lean that lists a variable, with what it lists TIED to the program's text (the seventh form; the later family's looks); each row that meets fmt, with fmt's text TOLD by the authors' own Lean function (tested against real Go, not proved from fmt's source: count such statements apart). THE CARD IS WHAT COUNTS. Prove the row's statement (the work); the ties are given (YtengcdodoblabaaGreatDoorTie.lean); close each card by the builder's one call (the guide's Derived/Test/ToyasCard.lean, 'card_holds'). Laid BY PROGRAM, IN A SANDBOX (cutbox-door.mjs). By AI agents, Wed Nov 11 2026. No macro, syntax, notation, axiom, sorry.
-/
import Derived.Test.YtengcdodoblabaaGreatDoorRows
import GoSem.ClaimSeven
namespace Go.Proofs.YtengcdodoblabaaGreatDoor
namespace Rows

/-- THE TIED CARD OF 'interlocutorlaw8.ActDoes'. -/
def actDoesCard : Claim7 := { stood := { row := actDoesRow, standIns := [], harness := (true, "e4141e41ec21550742b96e5efc97983d2a68fbf609d2246b99b98c5dca761ac7"), looks := false }, kinds := [], alts := [], laidByText := true, laidKinds := [.data, .sentinel], laidTests := true, laidLooks := .later }
def ActDoesCardSaid : Prop := Claim7.holds Tryz.pinned (.plain (OpenSpec.ofChange actDoesSpec)) actDoesCard

/-- THE TIED CARD OF 'interlocutorlaw8.ActFits'. -/
def actFitsCard : Claim7 := { stood := { row := actFitsRow, standIns := [], harness := (true, "e4141e41ec21550742b96e5efc97983d2a68fbf609d2246b99b98c5dca761ac7"), looks := false }, kinds := [], alts := [], laidByText := true, laidKinds := [.data, .sentinel], laidTests := true, laidLooks := .later }
def ActFitsCardSaid : Prop := Claim7.holds Tryz.pinned (.plain (OpenSpec.ofChange actFitsSpec)) actFitsCard

/-- THE TIED CARD OF 'interlocutorlaw8.ActMoney'. -/
def actMoneyCard : Claim7 := { stood := { row := actMoneyRow, standIns := [], harness := (true, "e4141e41ec21550742b96e5efc97983d2a68fbf609d2246b99b98c5dca761ac7"), looks := false }, kinds := [], alts := [], laidByText := true, laidKinds := [.data, .sentinel], laidTests := true, laidLooks := .later }
def ActMoneyCardSaid : Prop := Claim7.holds Tryz.pinned (.plain (OpenSpec.ofChange actMoneySpec)) actMoneyCard

/-- THE SECOND FORM's CARD OF 'interlocutorlaw8.ActDoes'. -/
def actDoesUptoCard : Claim7 := { stood := { row := actDoesUptoRow, standIns := [], harness := (true, "e4141e41ec21550742b96e5efc97983d2a68fbf609d2246b99b98c5dca761ac7"), looks := false }, kinds := [], alts := [], laidByText := true, laidKinds := [.data, .sentinel], laidTests := true, laidLooks := .later }
def ActDoesUptoCardSaid : Prop := Claim7.holds Tryz.pinned (.plain (OpenSpec.upto actDoesSpec)) actDoesUptoCard

/-- THE SECOND FORM's CARD OF 'interlocutorlaw8.ActFits'. -/
def actFitsUptoCard : Claim7 := { stood := { row := actFitsUptoRow, standIns := [], harness := (true, "e4141e41ec21550742b96e5efc97983d2a68fbf609d2246b99b98c5dca761ac7"), looks := false }, kinds := [], alts := [], laidByText := true, laidKinds := [.data, .sentinel], laidTests := true, laidLooks := .later }
def ActFitsUptoCardSaid : Prop := Claim7.holds Tryz.pinned (.plain (OpenSpec.upto actFitsSpec)) actFitsUptoCard

/-- THE SECOND FORM's CARD OF 'interlocutorlaw8.ActMoney'. -/
def actMoneyUptoCard : Claim7 := { stood := { row := actMoneyUptoRow, standIns := [], harness := (true, "e4141e41ec21550742b96e5efc97983d2a68fbf609d2246b99b98c5dca761ac7"), looks := false }, kinds := [], alts := [], laidByText := true, laidKinds := [.data, .sentinel], laidTests := true, laidLooks := .later }
def ActMoneyUptoCardSaid : Prop := Claim7.holds Tryz.pinned (.plain (OpenSpec.upto actMoneySpec)) actMoneyUptoCard
end Rows
end Go.Proofs.YtengcdodoblabaaGreatDoor
