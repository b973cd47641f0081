/-
  DERIVED. GIVEN WITH THE SEED: THE CARDS: each row of YtigolkgojckciaaDoorRows.lean that lists a variable, with what it lists TIED to the program's text (the seventh form; the later family's looks); each row that meets fmt, with fmt's text TOLD by the authors' own Lean function (tested against real Go, not proved from fmt's source: count such statements apart). THE CARD IS WHAT COUNTS. Prove the row's statement (the work); the ties are given (YtigolkgojckciaaDoorTie.lean); close each card by the builder's one call (the guide's Derived/Test/ToyasCard.lean, 'card_holds'). Laid BY PROGRAM, IN A SANDBOX (cutbox-door.mjs). By AI agents, Wed Nov 11 2026. No macro, syntax, notation, axiom, sorry.
-/
import Derived.Test.YtigolkgojckciaaDoorRows
import GoSem.ClaimSeven
namespace Go.Proofs.YtigolkgojckciaaDoor
namespace Rows

/-- THE TIED CARD OF 'interlocutorlaw3.FoldAll'. -/
def foldAllCard : Claim7 := { stood := { row := foldAllRow, standIns := [], harness := (true, "61a56a5b2de0bd329f17a91adb0eb388d19e6a430c02e5d9e910b592d635126a"), looks := false }, kinds := [], alts := [], laidByText := true, laidKinds := [.data], laidTests := true, laidLooks := .later }
def FoldAllCardSaid : Prop := Claim7.holds Tryd.pinned (.plain (OpenSpec.ofChange foldAllSpec)) foldAllCard

/-- THE TIED CARD OF 'interlocutorlaw3.FoldRunes'. -/
def foldRunesCard : Claim7 := { stood := { row := foldRunesRow, standIns := [], harness := (true, "61a56a5b2de0bd329f17a91adb0eb388d19e6a430c02e5d9e910b592d635126a"), looks := false }, kinds := [], alts := [], laidByText := true, laidKinds := [.data], laidTests := true, laidLooks := .later }
def FoldRunesCardSaid : Prop := Claim7.holds Tryd.pinned (.plain (OpenSpec.ofChange foldRunesSpec)) foldRunesCard

/-- THE TIED CARD OF 'interlocutorlaw3.FoldTwice'. -/
def foldTwiceCard : Claim7 := { stood := { row := foldTwiceRow, standIns := [], harness := (true, "61a56a5b2de0bd329f17a91adb0eb388d19e6a430c02e5d9e910b592d635126a"), looks := false }, kinds := [], alts := [], laidByText := true, laidKinds := [.data], laidTests := true, laidLooks := .later }
def FoldTwiceCardSaid : Prop := Claim7.holds Tryd.pinned (.plain (OpenSpec.ofChange foldTwiceSpec)) foldTwiceCard

/-- THE TIED CARD OF 'interlocutorlaw3.FoldPlaces'. -/
def foldPlacesCard : Claim7 := { stood := { row := foldPlacesRow, standIns := [], harness := (true, "61a56a5b2de0bd329f17a91adb0eb388d19e6a430c02e5d9e910b592d635126a"), looks := false }, kinds := [], alts := [], laidByText := true, laidKinds := [.data], laidTests := true, laidLooks := .later }
def FoldPlacesCardSaid : Prop := Claim7.holds Tryd.pinned (.plain (OpenSpec.ofChange foldPlacesSpec)) foldPlacesCard

/-- THE TIED CARD OF 'interlocutorlaw3.FoldJoined'. -/
def foldJoinedCard : Claim7 := { stood := { row := foldJoinedRow, standIns := [], harness := (true, "61a56a5b2de0bd329f17a91adb0eb388d19e6a430c02e5d9e910b592d635126a"), looks := false }, kinds := [], alts := [], laidByText := true, laidKinds := [.data], laidTests := true, laidLooks := .later }
def FoldJoinedCardSaid : Prop := Claim7.holds Tryd.pinned (.plain (OpenSpec.ofChange foldJoinedSpec)) foldJoinedCard

/-- THE TIED CARD OF 'interlocutorlaw3.FoldDigits'. -/
def foldDigitsCard : Claim7 := { stood := { row := foldDigitsRow, standIns := [], harness := (true, "61a56a5b2de0bd329f17a91adb0eb388d19e6a430c02e5d9e910b592d635126a"), looks := false }, kinds := [], alts := [], laidByText := true, laidKinds := [.data], laidTests := true, laidLooks := .later }
def FoldDigitsCardSaid : Prop := Claim7.holds Tryd.pinned (.plain (OpenSpec.ofChange foldDigitsSpec)) foldDigitsCard

/-- THE SECOND FORM's CARD OF 'interlocutorlaw3.FoldAll'. -/
def foldAllUptoCard : Claim7 := { stood := { row := foldAllUptoRow, standIns := [], harness := (true, "61a56a5b2de0bd329f17a91adb0eb388d19e6a430c02e5d9e910b592d635126a"), looks := false }, kinds := [], alts := [], laidByText := true, laidKinds := [.data], laidTests := true, laidLooks := .later }
def FoldAllUptoCardSaid : Prop := Claim7.holds Tryd.pinned (.plain (OpenSpec.upto foldAllSpec)) foldAllUptoCard

/-- THE SECOND FORM's CARD OF 'interlocutorlaw3.FoldRunes'. -/
def foldRunesUptoCard : Claim7 := { stood := { row := foldRunesUptoRow, standIns := [], harness := (true, "61a56a5b2de0bd329f17a91adb0eb388d19e6a430c02e5d9e910b592d635126a"), looks := false }, kinds := [], alts := [], laidByText := true, laidKinds := [.data], laidTests := true, laidLooks := .later }
def FoldRunesUptoCardSaid : Prop := Claim7.holds Tryd.pinned (.plain (OpenSpec.upto foldRunesSpec)) foldRunesUptoCard

/-- THE SECOND FORM's CARD OF 'interlocutorlaw3.FoldTwice'. -/
def foldTwiceUptoCard : Claim7 := { stood := { row := foldTwiceUptoRow, standIns := [], harness := (true, "61a56a5b2de0bd329f17a91adb0eb388d19e6a430c02e5d9e910b592d635126a"), looks := false }, kinds := [], alts := [], laidByText := true, laidKinds := [.data], laidTests := true, laidLooks := .later }
def FoldTwiceUptoCardSaid : Prop := Claim7.holds Tryd.pinned (.plain (OpenSpec.upto foldTwiceSpec)) foldTwiceUptoCard

/-- THE SECOND FORM's CARD OF 'interlocutorlaw3.FoldPlaces'. -/
def foldPlacesUptoCard : Claim7 := { stood := { row := foldPlacesUptoRow, standIns := [], harness := (true, "61a56a5b2de0bd329f17a91adb0eb388d19e6a430c02e5d9e910b592d635126a"), looks := false }, kinds := [], alts := [], laidByText := true, laidKinds := [.data], laidTests := true, laidLooks := .later }
def FoldPlacesUptoCardSaid : Prop := Claim7.holds Tryd.pinned (.plain (OpenSpec.upto foldPlacesSpec)) foldPlacesUptoCard

/-- THE SECOND FORM's CARD OF 'interlocutorlaw3.FoldJoined'. -/
def foldJoinedUptoCard : Claim7 := { stood := { row := foldJoinedUptoRow, standIns := [], harness := (true, "61a56a5b2de0bd329f17a91adb0eb388d19e6a430c02e5d9e910b592d635126a"), looks := false }, kinds := [], alts := [], laidByText := true, laidKinds := [.data], laidTests := true, laidLooks := .later }
def FoldJoinedUptoCardSaid : Prop := Claim7.holds Tryd.pinned (.plain (OpenSpec.upto foldJoinedSpec)) foldJoinedUptoCard

/-- THE SECOND FORM's CARD OF 'interlocutorlaw3.FoldDigits'. -/
def foldDigitsUptoCard : Claim7 := { stood := { row := foldDigitsUptoRow, standIns := [], harness := (true, "61a56a5b2de0bd329f17a91adb0eb388d19e6a430c02e5d9e910b592d635126a"), looks := false }, kinds := [], alts := [], laidByText := true, laidKinds := [.data], laidTests := true, laidLooks := .later }
def FoldDigitsUptoCardSaid : Prop := Claim7.holds Tryd.pinned (.plain (OpenSpec.upto foldDigitsSpec)) foldDigitsUptoCard
end Rows
end Go.Proofs.YtigolkgojckciaaDoor
