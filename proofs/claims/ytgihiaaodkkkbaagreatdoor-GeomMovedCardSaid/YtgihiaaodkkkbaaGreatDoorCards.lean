/-
  DERIVED. GIVEN WITH THE SEED: THE CARDS: each row of YtgihiaaodkkkbaaGreatDoorRows.lean that lists a variable, with what it lists TIED to the program's text (the seventh form; the later family's looks); each row that meets fmt, with fmt's text TOLD by the authors' own Lean function (tested against real Go, not proved from fmt's source: count such statements apart). THE CARD IS WHAT COUNTS. Prove the row's statement (the work); the ties are given (YtgihiaaodkkkbaaGreatDoorTie.lean); close each card by the builder's one call (the guide's Derived/Test/ToyasCard.lean, 'card_holds'). Laid BY PROGRAM, IN A SANDBOX (cutbox-door.mjs). By AI agents, Wed Nov 11 2026. No macro, syntax, notation, axiom, sorry.
-/
import Derived.Test.YtgihiaaodkkkbaaGreatDoorRows
import GoSem.ClaimSeven
namespace Go.Proofs.YtgihiaaodkkkbaaGreatDoor
namespace Rows

/-- THE TIED CARD OF 'gussetlaw04.VecTurned'. -/
def vecTurnedCard : Claim7 := { stood := { row := vecTurnedRow, standIns := [], harness := (true, "5b4e4e30b36781dc544d557a19f01deae22ebd5f463d5e21475c3c3c82995d2f"), looks := false }, kinds := [], alts := [], laidByText := true, laidKinds := [.data, .data, .pinned], laidTests := true, laidLooks := .later }
def VecTurnedCardSaid : Prop := Claim7.holds Tryz.pinned (.plain (OpenSpec.ofChange vecTurnedSpec)) vecTurnedCard

/-- THE TIED CARD OF 'gussetlaw05.GeomSigns'. -/
def geomSignsCard : Claim7 := { stood := { row := geomSignsRow, standIns := [], harness := (true, "5b4e4e30b36781dc544d557a19f01deae22ebd5f463d5e21475c3c3c82995d2f"), looks := false }, kinds := [], alts := [], laidByText := true, laidKinds := [.data], laidTests := true, laidLooks := .later }
def GeomSignsCardSaid : Prop := Claim7.holds Tryz.pinned (.plain (OpenSpec.ofChange geomSignsSpec)) geomSignsCard

/-- THE TIED CARD OF 'gussetlaw05.GeomMeets'. -/
def geomMeetsCard : Claim7 := { stood := { row := geomMeetsRow, standIns := [], harness := (true, "5b4e4e30b36781dc544d557a19f01deae22ebd5f463d5e21475c3c3c82995d2f"), looks := false }, kinds := [], alts := [], laidByText := true, laidKinds := [.data, .data, .pinned], laidTests := true, laidLooks := .later }
def GeomMeetsCardSaid : Prop := Claim7.holds Tryz.pinned (.plain (OpenSpec.ofChange geomMeetsSpec)) geomMeetsCard

/-- THE TIED CARD OF 'gussetlaw05.GeomWithin'. -/
def geomWithinCard : Claim7 := { stood := { row := geomWithinRow, standIns := [], harness := (true, "5b4e4e30b36781dc544d557a19f01deae22ebd5f463d5e21475c3c3c82995d2f"), looks := false }, kinds := [], alts := [], laidByText := true, laidKinds := [.data], laidTests := true, laidLooks := .later }
def GeomWithinCardSaid : Prop := Claim7.holds Tryz.pinned (.plain (OpenSpec.ofChange geomWithinSpec)) geomWithinCard

/-- THE TIED CARD OF 'gussetlaw05.GeomTurned'. -/
def geomTurnedCard : Claim7 := { stood := { row := geomTurnedRow, standIns := [], harness := (true, "5b4e4e30b36781dc544d557a19f01deae22ebd5f463d5e21475c3c3c82995d2f"), looks := false }, kinds := [], alts := [], laidByText := true, laidKinds := [.data], laidTests := true, laidLooks := .later }
def GeomTurnedCardSaid : Prop := Claim7.holds Tryz.pinned (.plain (OpenSpec.ofChange geomTurnedSpec)) geomTurnedCard

/-- THE TIED CARD OF 'gussetlaw05.GeomMoved'. -/
def geomMovedCard : Claim7 := { stood := { row := geomMovedRow, standIns := [], harness := (true, "5b4e4e30b36781dc544d557a19f01deae22ebd5f463d5e21475c3c3c82995d2f"), looks := false }, kinds := [], alts := [], laidByText := true, laidKinds := [.data], laidTests := true, laidLooks := .later }
def GeomMovedCardSaid : Prop := Claim7.holds Tryz.pinned (.plain (OpenSpec.ofChange geomMovedSpec)) geomMovedCard

/-- THE SECOND FORM's CARD OF 'gussetlaw04.VecTurned'. -/
def vecTurnedUptoCard : Claim7 := { stood := { row := vecTurnedUptoRow, standIns := [], harness := (true, "5b4e4e30b36781dc544d557a19f01deae22ebd5f463d5e21475c3c3c82995d2f"), looks := false }, kinds := [], alts := [], laidByText := true, laidKinds := [.data, .data, .pinned], laidTests := true, laidLooks := .later }
def VecTurnedUptoCardSaid : Prop := Claim7.holds Tryz.pinned (.plain (OpenSpec.upto vecTurnedSpec)) vecTurnedUptoCard

/-- THE SECOND FORM's CARD OF 'gussetlaw05.GeomSigns'. -/
def geomSignsUptoCard : Claim7 := { stood := { row := geomSignsUptoRow, standIns := [], harness := (true, "5b4e4e30b36781dc544d557a19f01deae22ebd5f463d5e21475c3c3c82995d2f"), looks := false }, kinds := [], alts := [], laidByText := true, laidKinds := [.data], laidTests := true, laidLooks := .later }
def GeomSignsUptoCardSaid : Prop := Claim7.holds Tryz.pinned (.plain (OpenSpec.upto geomSignsSpec)) geomSignsUptoCard

/-- THE SECOND FORM's CARD OF 'gussetlaw05.GeomMeets'. -/
def geomMeetsUptoCard : Claim7 := { stood := { row := geomMeetsUptoRow, standIns := [], harness := (true, "5b4e4e30b36781dc544d557a19f01deae22ebd5f463d5e21475c3c3c82995d2f"), looks := false }, kinds := [], alts := [], laidByText := true, laidKinds := [.data, .data, .pinned], laidTests := true, laidLooks := .later }
def GeomMeetsUptoCardSaid : Prop := Claim7.holds Tryz.pinned (.plain (OpenSpec.upto geomMeetsSpec)) geomMeetsUptoCard

/-- THE SECOND FORM's CARD OF 'gussetlaw05.GeomWithin'. -/
def geomWithinUptoCard : Claim7 := { stood := { row := geomWithinUptoRow, standIns := [], harness := (true, "5b4e4e30b36781dc544d557a19f01deae22ebd5f463d5e21475c3c3c82995d2f"), looks := false }, kinds := [], alts := [], laidByText := true, laidKinds := [.data], laidTests := true, laidLooks := .later }
def GeomWithinUptoCardSaid : Prop := Claim7.holds Tryz.pinned (.plain (OpenSpec.upto geomWithinSpec)) geomWithinUptoCard

/-- THE SECOND FORM's CARD OF 'gussetlaw05.GeomTurned'. -/
def geomTurnedUptoCard : Claim7 := { stood := { row := geomTurnedUptoRow, standIns := [], harness := (true, "5b4e4e30b36781dc544d557a19f01deae22ebd5f463d5e21475c3c3c82995d2f"), looks := false }, kinds := [], alts := [], laidByText := true, laidKinds := [.data], laidTests := true, laidLooks := .later }
def GeomTurnedUptoCardSaid : Prop := Claim7.holds Tryz.pinned (.plain (OpenSpec.upto geomTurnedSpec)) geomTurnedUptoCard

/-- THE SECOND FORM's CARD OF 'gussetlaw05.GeomMoved'. -/
def geomMovedUptoCard : Claim7 := { stood := { row := geomMovedUptoRow, standIns := [], harness := (true, "5b4e4e30b36781dc544d557a19f01deae22ebd5f463d5e21475c3c3c82995d2f"), looks := false }, kinds := [], alts := [], laidByText := true, laidKinds := [.data], laidTests := true, laidLooks := .later }
def GeomMovedUptoCardSaid : Prop := Claim7.holds Tryz.pinned (.plain (OpenSpec.upto geomMovedSpec)) geomMovedUptoCard
end Rows
end Go.Proofs.YtgihiaaodkkkbaaGreatDoor
