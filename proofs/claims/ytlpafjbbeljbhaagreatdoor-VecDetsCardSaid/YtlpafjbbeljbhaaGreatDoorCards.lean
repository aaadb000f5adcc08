/-
  DERIVED. GIVEN WITH THE SEED: THE CARDS: each row of YtlpafjbbeljbhaaGreatDoorRows.lean that lists a variable, with what it lists TIED to the program's text (the seventh form; the later family's looks); each row that meets fmt, with fmt's text TOLD by the authors' own Lean function (tested against real Go, not proved from fmt's source: count such statements apart). THE CARD IS WHAT COUNTS. Prove the row's statement (the work); the ties are given (YtlpafjbbeljbhaaGreatDoorTie.lean); close each card by the builder's one call (the guide's Derived/Test/ToyasCard.lean, 'card_holds'). Laid BY PROGRAM, IN A SANDBOX (cutbox-door.mjs). By AI agents, Wed Nov 11 2026. No macro, syntax, notation, axiom, sorry.
-/
import Derived.Test.YtlpafjbbeljbhaaGreatDoorRows
import GoSem.ClaimSeven
namespace Go.Proofs.YtlpafjbbeljbhaaGreatDoor
namespace Rows

/-- THE TIED CARD OF 'gussetlaw04.VecReckons'. -/
def vecReckonsCard : Claim7 := { stood := { row := vecReckonsRow, standIns := [], harness := (true, "618a446003b6d4d452d15dcdc514b48769ececd39544837d0a549f167da7fc78"), looks := false }, kinds := [], alts := [], laidByText := true, laidKinds := [.data, .data, .pinned], laidTests := true, laidLooks := .later }
def VecReckonsCardSaid : Prop := Claim7.holds Tryz.pinned (.plain (OpenSpec.ofChange vecReckonsSpec)) vecReckonsCard

/-- THE TIED CARD OF 'gussetlaw04.VecScales'. -/
def vecScalesCard : Claim7 := { stood := { row := vecScalesRow, standIns := [], harness := (true, "618a446003b6d4d452d15dcdc514b48769ececd39544837d0a549f167da7fc78"), looks := false }, kinds := [], alts := [], laidByText := true, laidKinds := [.data, .data, .pinned], laidTests := true, laidLooks := .later }
def VecScalesCardSaid : Prop := Claim7.holds Tryz.pinned (.plain (OpenSpec.ofChange vecScalesSpec)) vecScalesCard

/-- THE TIED CARD OF 'gussetlaw04.VecDets'. -/
def vecDetsCard : Claim7 := { stood := { row := vecDetsRow, standIns := [], harness := (true, "618a446003b6d4d452d15dcdc514b48769ececd39544837d0a549f167da7fc78"), looks := false }, kinds := [], alts := [], laidByText := true, laidKinds := [.data, .data, .pinned], laidTests := true, laidLooks := .later }
def VecDetsCardSaid : Prop := Claim7.holds Tryz.pinned (.plain (OpenSpec.ofChange vecDetsSpec)) vecDetsCard

/-- THE TIED CARD OF 'gussetlaw04.VecTurned'. -/
def vecTurnedCard : Claim7 := { stood := { row := vecTurnedRow, standIns := [], harness := (true, "618a446003b6d4d452d15dcdc514b48769ececd39544837d0a549f167da7fc78"), looks := false }, kinds := [], alts := [], laidByText := true, laidKinds := [.data, .data, .pinned], laidTests := true, laidLooks := .later }
def VecTurnedCardSaid : Prop := Claim7.holds Tryz.pinned (.plain (OpenSpec.ofChange vecTurnedSpec)) vecTurnedCard

/-- THE TIED CARD OF 'gussetlaw04.VecLinear'. -/
def vecLinearCard : Claim7 := { stood := { row := vecLinearRow, standIns := [], harness := (true, "618a446003b6d4d452d15dcdc514b48769ececd39544837d0a549f167da7fc78"), looks := false }, kinds := [], alts := [], laidByText := true, laidKinds := [.data, .data, .pinned], laidTests := true, laidLooks := .later }
def VecLinearCardSaid : Prop := Claim7.holds Tryz.pinned (.plain (OpenSpec.ofChange vecLinearSpec)) vecLinearCard

/-- THE TIED CARD OF 'gussetlaw04.VecSquares'. -/
def vecSquaresCard : Claim7 := { stood := { row := vecSquaresRow, standIns := [], harness := (true, "618a446003b6d4d452d15dcdc514b48769ececd39544837d0a549f167da7fc78"), looks := false }, kinds := [], alts := [], laidByText := true, laidKinds := [.data, .data, .pinned], laidTests := true, laidLooks := .later }
def VecSquaresCardSaid : Prop := Claim7.holds Tryz.pinned (.plain (OpenSpec.ofChange vecSquaresSpec)) vecSquaresCard

/-- THE SECOND FORM's CARD OF 'gussetlaw04.VecReckons'. -/
def vecReckonsUptoCard : Claim7 := { stood := { row := vecReckonsUptoRow, standIns := [], harness := (true, "618a446003b6d4d452d15dcdc514b48769ececd39544837d0a549f167da7fc78"), looks := false }, kinds := [], alts := [], laidByText := true, laidKinds := [.data, .data, .pinned], laidTests := true, laidLooks := .later }
def VecReckonsUptoCardSaid : Prop := Claim7.holds Tryz.pinned (.plain (OpenSpec.upto vecReckonsSpec)) vecReckonsUptoCard

/-- THE SECOND FORM's CARD OF 'gussetlaw04.VecScales'. -/
def vecScalesUptoCard : Claim7 := { stood := { row := vecScalesUptoRow, standIns := [], harness := (true, "618a446003b6d4d452d15dcdc514b48769ececd39544837d0a549f167da7fc78"), looks := false }, kinds := [], alts := [], laidByText := true, laidKinds := [.data, .data, .pinned], laidTests := true, laidLooks := .later }
def VecScalesUptoCardSaid : Prop := Claim7.holds Tryz.pinned (.plain (OpenSpec.upto vecScalesSpec)) vecScalesUptoCard

/-- THE SECOND FORM's CARD OF 'gussetlaw04.VecDets'. -/
def vecDetsUptoCard : Claim7 := { stood := { row := vecDetsUptoRow, standIns := [], harness := (true, "618a446003b6d4d452d15dcdc514b48769ececd39544837d0a549f167da7fc78"), looks := false }, kinds := [], alts := [], laidByText := true, laidKinds := [.data, .data, .pinned], laidTests := true, laidLooks := .later }
def VecDetsUptoCardSaid : Prop := Claim7.holds Tryz.pinned (.plain (OpenSpec.upto vecDetsSpec)) vecDetsUptoCard

/-- THE SECOND FORM's CARD OF 'gussetlaw04.VecTurned'. -/
def vecTurnedUptoCard : Claim7 := { stood := { row := vecTurnedUptoRow, standIns := [], harness := (true, "618a446003b6d4d452d15dcdc514b48769ececd39544837d0a549f167da7fc78"), looks := false }, kinds := [], alts := [], laidByText := true, laidKinds := [.data, .data, .pinned], laidTests := true, laidLooks := .later }
def VecTurnedUptoCardSaid : Prop := Claim7.holds Tryz.pinned (.plain (OpenSpec.upto vecTurnedSpec)) vecTurnedUptoCard

/-- THE SECOND FORM's CARD OF 'gussetlaw04.VecLinear'. -/
def vecLinearUptoCard : Claim7 := { stood := { row := vecLinearUptoRow, standIns := [], harness := (true, "618a446003b6d4d452d15dcdc514b48769ececd39544837d0a549f167da7fc78"), looks := false }, kinds := [], alts := [], laidByText := true, laidKinds := [.data, .data, .pinned], laidTests := true, laidLooks := .later }
def VecLinearUptoCardSaid : Prop := Claim7.holds Tryz.pinned (.plain (OpenSpec.upto vecLinearSpec)) vecLinearUptoCard

/-- THE SECOND FORM's CARD OF 'gussetlaw04.VecSquares'. -/
def vecSquaresUptoCard : Claim7 := { stood := { row := vecSquaresUptoRow, standIns := [], harness := (true, "618a446003b6d4d452d15dcdc514b48769ececd39544837d0a549f167da7fc78"), looks := false }, kinds := [], alts := [], laidByText := true, laidKinds := [.data, .data, .pinned], laidTests := true, laidLooks := .later }
def VecSquaresUptoCardSaid : Prop := Claim7.holds Tryz.pinned (.plain (OpenSpec.upto vecSquaresSpec)) vecSquaresUptoCard
end Rows
end Go.Proofs.YtlpafjbbeljbhaaGreatDoor
