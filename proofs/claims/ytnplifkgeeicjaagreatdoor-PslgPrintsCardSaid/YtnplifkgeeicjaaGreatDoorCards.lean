/-
  DERIVED. GIVEN WITH THE SEED: THE CARDS: each row of YtnplifkgeeicjaaGreatDoorRows.lean that lists a variable, with what it lists TIED to the program's text (the seventh form; the later family's looks); each row that meets fmt, with fmt's text TOLD by the authors' own Lean function (tested against real Go, not proved from fmt's source: count such statements apart). THE CARD IS WHAT COUNTS. Prove the row's statement (the work); the ties are given (YtnplifkgeeicjaaGreatDoorTie.lean); close each card by the builder's one call (the guide's Derived/Test/ToyasCard.lean, 'card_holds'). Laid BY PROGRAM, IN A SANDBOX (cutbox-door.mjs). By AI agents, Wed Nov 11 2026. No macro, syntax, notation, axiom, sorry.
-/
import Derived.Test.YtnplifkgeeicjaaGreatDoorRows
import GoSem.ClaimSeven
namespace Go.Proofs.YtnplifkgeeicjaaGreatDoor
namespace Rows

/-- THE TIED CARD OF 'gussetlaw07.PolyIntegrals'. -/
def polyIntegralsCard : Claim7 := { stood := { row := polyIntegralsRow, standIns := [], harness := (true, "387a39c1d27d6f0ab5224c37c1526a12e4c0d7b7e88ad42f3e24d1eba2033d72"), looks := true }, kinds := [], alts := [], laidByText := true, laidKinds := [.data, .data, .data, .data, .data, .data, .pinned], laidTests := true, laidLooks := .later }
def PolyIntegralsCardSaid : Prop := Claim7.holds Tryz.pinned (.plain (OpenSpec.ofChange polyIntegralsSpec)) polyIntegralsCard

/-- THE TIED CARD OF 'gussetlaw08.PslgReads'. -/
def pslgReadsCard : Claim7 := { stood := { row := pslgReadsRow, standIns := [], harness := (true, "387a39c1d27d6f0ab5224c37c1526a12e4c0d7b7e88ad42f3e24d1eba2033d72"), looks := true }, kinds := [], alts := [], laidByText := true, laidKinds := [.data, .data, .data, .data, .handle, .sentinel, .sentinel, .sentinel, .sentinel, .sentinel, .sentinel, .sentinel, .pinned], laidTests := true, laidLooks := .later }
def PslgReadsCardSaid : Prop := Claim7.holds Tryz.pinned (.plain (OpenSpec.ofChange pslgReadsSpec)) pslgReadsCard

/-- THE TIED CARD OF 'gussetlaw08.PslgPrints'. -/
def pslgPrintsCard : Claim7 := { stood := { row := pslgPrintsRow, standIns := [], harness := (true, "387a39c1d27d6f0ab5224c37c1526a12e4c0d7b7e88ad42f3e24d1eba2033d72"), looks := true }, kinds := [], alts := [], laidByText := true, laidKinds := [.data, .data, .data, .data, .handle, .sentinel, .sentinel, .sentinel, .sentinel, .sentinel, .sentinel, .sentinel, .pinned], laidTests := true, laidLooks := .later }
def PslgPrintsCardSaid : Prop := Claim7.holds Tryz.pinned (.plain (OpenSpec.ofChange pslgPrintsSpec)) pslgPrintsCard

/-- THE TIED CARD OF 'gussetlaw08.PslgBack'. -/
def pslgBackCard : Claim7 := { stood := { row := pslgBackRow, standIns := [], harness := (true, "387a39c1d27d6f0ab5224c37c1526a12e4c0d7b7e88ad42f3e24d1eba2033d72"), looks := true }, kinds := [], alts := [], laidByText := true, laidKinds := [.data, .data, .data, .data, .handle, .sentinel, .sentinel, .sentinel, .sentinel, .sentinel, .sentinel, .sentinel, .pinned], laidTests := true, laidLooks := .later }
def PslgBackCardSaid : Prop := Claim7.holds Tryz.pinned (.plain (OpenSpec.ofChange pslgBackSpec)) pslgBackCard

/-- THE TIED CARD OF 'gussetlaw08.PslgBlanks'. -/
def pslgBlanksCard : Claim7 := { stood := { row := pslgBlanksRow, standIns := [], harness := (true, "387a39c1d27d6f0ab5224c37c1526a12e4c0d7b7e88ad42f3e24d1eba2033d72"), looks := true }, kinds := [], alts := [], laidByText := true, laidKinds := [.data, .data, .data, .data, .handle, .sentinel, .sentinel, .sentinel, .sentinel, .sentinel, .sentinel, .sentinel, .pinned], laidTests := true, laidLooks := .later }
def PslgBlanksCardSaid : Prop := Claim7.holds Tryz.pinned (.plain (OpenSpec.ofChange pslgBlanksSpec)) pslgBlanksCard

/-- THE TIED CARD OF 'gussetlaw08.PslgGreat'. -/
def pslgGreatCard : Claim7 := { stood := { row := pslgGreatRow, standIns := [], harness := (true, "387a39c1d27d6f0ab5224c37c1526a12e4c0d7b7e88ad42f3e24d1eba2033d72"), looks := true }, kinds := [], alts := [], laidByText := true, laidKinds := [.data, .data, .data, .data, .handle, .sentinel, .sentinel, .sentinel, .sentinel, .sentinel, .sentinel, .sentinel, .pinned], laidTests := true, laidLooks := .later }
def PslgGreatCardSaid : Prop := Claim7.holds Tryz.pinned (.plain (OpenSpec.ofChange pslgGreatSpec)) pslgGreatCard

/-- THE SECOND FORM's CARD OF 'gussetlaw07.PolyIntegrals'. -/
def polyIntegralsUptoCard : Claim7 := { stood := { row := polyIntegralsUptoRow, standIns := [], harness := (true, "387a39c1d27d6f0ab5224c37c1526a12e4c0d7b7e88ad42f3e24d1eba2033d72"), looks := true }, kinds := [], alts := [], laidByText := true, laidKinds := [.data, .data, .data, .data, .data, .data, .pinned], laidTests := true, laidLooks := .later }
def PolyIntegralsUptoCardSaid : Prop := Claim7.holds Tryz.pinned (.plain (OpenSpec.upto polyIntegralsSpec)) polyIntegralsUptoCard

/-- THE SECOND FORM's CARD OF 'gussetlaw08.PslgReads'. -/
def pslgReadsUptoCard : Claim7 := { stood := { row := pslgReadsUptoRow, standIns := [], harness := (true, "387a39c1d27d6f0ab5224c37c1526a12e4c0d7b7e88ad42f3e24d1eba2033d72"), looks := true }, kinds := [], alts := [], laidByText := true, laidKinds := [.data, .data, .data, .data, .handle, .sentinel, .sentinel, .sentinel, .sentinel, .sentinel, .sentinel, .sentinel, .pinned], laidTests := true, laidLooks := .later }
def PslgReadsUptoCardSaid : Prop := Claim7.holds Tryz.pinned (.plain (OpenSpec.upto pslgReadsSpec)) pslgReadsUptoCard

/-- THE SECOND FORM's CARD OF 'gussetlaw08.PslgPrints'. -/
def pslgPrintsUptoCard : Claim7 := { stood := { row := pslgPrintsUptoRow, standIns := [], harness := (true, "387a39c1d27d6f0ab5224c37c1526a12e4c0d7b7e88ad42f3e24d1eba2033d72"), looks := true }, kinds := [], alts := [], laidByText := true, laidKinds := [.data, .data, .data, .data, .handle, .sentinel, .sentinel, .sentinel, .sentinel, .sentinel, .sentinel, .sentinel, .pinned], laidTests := true, laidLooks := .later }
def PslgPrintsUptoCardSaid : Prop := Claim7.holds Tryz.pinned (.plain (OpenSpec.upto pslgPrintsSpec)) pslgPrintsUptoCard

/-- THE SECOND FORM's CARD OF 'gussetlaw08.PslgBack'. -/
def pslgBackUptoCard : Claim7 := { stood := { row := pslgBackUptoRow, standIns := [], harness := (true, "387a39c1d27d6f0ab5224c37c1526a12e4c0d7b7e88ad42f3e24d1eba2033d72"), looks := true }, kinds := [], alts := [], laidByText := true, laidKinds := [.data, .data, .data, .data, .handle, .sentinel, .sentinel, .sentinel, .sentinel, .sentinel, .sentinel, .sentinel, .pinned], laidTests := true, laidLooks := .later }
def PslgBackUptoCardSaid : Prop := Claim7.holds Tryz.pinned (.plain (OpenSpec.upto pslgBackSpec)) pslgBackUptoCard

/-- THE SECOND FORM's CARD OF 'gussetlaw08.PslgBlanks'. -/
def pslgBlanksUptoCard : Claim7 := { stood := { row := pslgBlanksUptoRow, standIns := [], harness := (true, "387a39c1d27d6f0ab5224c37c1526a12e4c0d7b7e88ad42f3e24d1eba2033d72"), looks := true }, kinds := [], alts := [], laidByText := true, laidKinds := [.data, .data, .data, .data, .handle, .sentinel, .sentinel, .sentinel, .sentinel, .sentinel, .sentinel, .sentinel, .pinned], laidTests := true, laidLooks := .later }
def PslgBlanksUptoCardSaid : Prop := Claim7.holds Tryz.pinned (.plain (OpenSpec.upto pslgBlanksSpec)) pslgBlanksUptoCard

/-- THE SECOND FORM's CARD OF 'gussetlaw08.PslgGreat'. -/
def pslgGreatUptoCard : Claim7 := { stood := { row := pslgGreatUptoRow, standIns := [], harness := (true, "387a39c1d27d6f0ab5224c37c1526a12e4c0d7b7e88ad42f3e24d1eba2033d72"), looks := true }, kinds := [], alts := [], laidByText := true, laidKinds := [.data, .data, .data, .data, .handle, .sentinel, .sentinel, .sentinel, .sentinel, .sentinel, .sentinel, .sentinel, .pinned], laidTests := true, laidLooks := .later }
def PslgGreatUptoCardSaid : Prop := Claim7.holds Tryz.pinned (.plain (OpenSpec.upto pslgGreatSpec)) pslgGreatUptoCard
end Rows
end Go.Proofs.YtnplifkgeeicjaaGreatDoor
