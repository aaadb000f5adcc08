/-
  DERIVED. GIVEN WITH THE SEED: THE CARDS: each row of YtafikdacdfkkhaaGreatDoorRows.lean that lists a variable, with what it lists TIED to the program's text (the seventh form; the later family's looks); each row that meets fmt, with fmt's text TOLD by the authors' own Lean function (tested against real Go, not proved from fmt's source: count such statements apart). THE CARD IS WHAT COUNTS. Prove the row's statement (the work); the ties are given (YtafikdacdfkkhaaGreatDoorTie.lean); close each card by the builder's one call (the guide's Derived/Test/ToyasCard.lean, 'card_holds'). Laid BY PROGRAM, IN A SANDBOX (cutbox-door.mjs). By AI agents, Wed Nov 11 2026. No macro, syntax, notation, axiom, sorry.
-/
import Derived.Test.YtafikdacdfkkhaaGreatDoorRows
import GoSem.ClaimSeven
namespace Go.Proofs.YtafikdacdfkkhaaGreatDoor
namespace Rows

/-- THE TIED CARD OF 'gussetlaw05.GeomMeets'. -/
def geomMeetsCard : Claim7 := { stood := { row := geomMeetsRow, standIns := [], harness := (true, "6110eab053e2cc276ad8eddf0be1a79dfa65c7fcc9ec9016a604946f541ab9ce"), looks := false }, kinds := [], alts := [], laidByText := true, laidKinds := [.data, .data, .pinned], laidTests := true, laidLooks := .later }
def GeomMeetsCardSaid : Prop := Claim7.holds Tryz.pinned (.plain (OpenSpec.ofChange geomMeetsSpec)) geomMeetsCard

/-- THE TIED CARD OF 'gussetlaw05.GeomMoved'. -/
def geomMovedCard : Claim7 := { stood := { row := geomMovedRow, standIns := [], harness := (true, "6110eab053e2cc276ad8eddf0be1a79dfa65c7fcc9ec9016a604946f541ab9ce"), looks := false }, kinds := [], alts := [], laidByText := true, laidKinds := [.data], laidTests := true, laidLooks := .later }
def GeomMovedCardSaid : Prop := Claim7.holds Tryz.pinned (.plain (OpenSpec.ofChange geomMovedSpec)) geomMovedCard

/-- THE TIED CARD OF 'gussetlaw05.GeomAgree'. -/
def geomAgreeCard : Claim7 := { stood := { row := geomAgreeRow, standIns := [], harness := (true, "6110eab053e2cc276ad8eddf0be1a79dfa65c7fcc9ec9016a604946f541ab9ce"), looks := false }, kinds := [], alts := [], laidByText := true, laidKinds := [.data, .data, .pinned], laidTests := true, laidLooks := .later }
def GeomAgreeCardSaid : Prop := Claim7.holds Tryz.pinned (.plain (OpenSpec.ofChange geomAgreeSpec)) geomAgreeCard

/-- THE TIED CARD OF 'gussetlaw06.ConsPoints'. -/
def consPointsCard : Claim7 := { stood := { row := consPointsRow, standIns := [], harness := (true, "6110eab053e2cc276ad8eddf0be1a79dfa65c7fcc9ec9016a604946f541ab9ce"), looks := false }, kinds := [], alts := [], laidByText := true, laidKinds := [.data, .data, .pinned], laidTests := true, laidLooks := .later }
def ConsPointsCardSaid : Prop := Claim7.holds Tryz.pinned (.plain (OpenSpec.ofChange consPointsSpec)) consPointsCard

/-- THE TIED CARD OF 'gussetlaw06.ConsNear'. -/
def consNearCard : Claim7 := { stood := { row := consNearRow, standIns := [], harness := (true, "6110eab053e2cc276ad8eddf0be1a79dfa65c7fcc9ec9016a604946f541ab9ce"), looks := false }, kinds := [], alts := [], laidByText := true, laidKinds := [.data, .data, .pinned], laidTests := true, laidLooks := .later }
def ConsNearCardSaid : Prop := Claim7.holds Tryz.pinned (.plain (OpenSpec.ofChange consNearSpec)) consNearCard

/-- THE TIED CARD OF 'gussetlaw06.ConsShapes'. -/
def consShapesCard : Claim7 := { stood := { row := consShapesRow, standIns := [], harness := (true, "6110eab053e2cc276ad8eddf0be1a79dfa65c7fcc9ec9016a604946f541ab9ce"), looks := false }, kinds := [], alts := [], laidByText := true, laidKinds := [.data, .data, .pinned], laidTests := true, laidLooks := .later }
def ConsShapesCardSaid : Prop := Claim7.holds Tryz.pinned (.plain (OpenSpec.ofChange consShapesSpec)) consShapesCard

/-- THE SECOND FORM's CARD OF 'gussetlaw05.GeomMeets'. -/
def geomMeetsUptoCard : Claim7 := { stood := { row := geomMeetsUptoRow, standIns := [], harness := (true, "6110eab053e2cc276ad8eddf0be1a79dfa65c7fcc9ec9016a604946f541ab9ce"), looks := false }, kinds := [], alts := [], laidByText := true, laidKinds := [.data, .data, .pinned], laidTests := true, laidLooks := .later }
def GeomMeetsUptoCardSaid : Prop := Claim7.holds Tryz.pinned (.plain (OpenSpec.upto geomMeetsSpec)) geomMeetsUptoCard

/-- THE SECOND FORM's CARD OF 'gussetlaw05.GeomMoved'. -/
def geomMovedUptoCard : Claim7 := { stood := { row := geomMovedUptoRow, standIns := [], harness := (true, "6110eab053e2cc276ad8eddf0be1a79dfa65c7fcc9ec9016a604946f541ab9ce"), looks := false }, kinds := [], alts := [], laidByText := true, laidKinds := [.data], laidTests := true, laidLooks := .later }
def GeomMovedUptoCardSaid : Prop := Claim7.holds Tryz.pinned (.plain (OpenSpec.upto geomMovedSpec)) geomMovedUptoCard

/-- THE SECOND FORM's CARD OF 'gussetlaw05.GeomAgree'. -/
def geomAgreeUptoCard : Claim7 := { stood := { row := geomAgreeUptoRow, standIns := [], harness := (true, "6110eab053e2cc276ad8eddf0be1a79dfa65c7fcc9ec9016a604946f541ab9ce"), looks := false }, kinds := [], alts := [], laidByText := true, laidKinds := [.data, .data, .pinned], laidTests := true, laidLooks := .later }
def GeomAgreeUptoCardSaid : Prop := Claim7.holds Tryz.pinned (.plain (OpenSpec.upto geomAgreeSpec)) geomAgreeUptoCard

/-- THE SECOND FORM's CARD OF 'gussetlaw06.ConsPoints'. -/
def consPointsUptoCard : Claim7 := { stood := { row := consPointsUptoRow, standIns := [], harness := (true, "6110eab053e2cc276ad8eddf0be1a79dfa65c7fcc9ec9016a604946f541ab9ce"), looks := false }, kinds := [], alts := [], laidByText := true, laidKinds := [.data, .data, .pinned], laidTests := true, laidLooks := .later }
def ConsPointsUptoCardSaid : Prop := Claim7.holds Tryz.pinned (.plain (OpenSpec.upto consPointsSpec)) consPointsUptoCard

/-- THE SECOND FORM's CARD OF 'gussetlaw06.ConsNear'. -/
def consNearUptoCard : Claim7 := { stood := { row := consNearUptoRow, standIns := [], harness := (true, "6110eab053e2cc276ad8eddf0be1a79dfa65c7fcc9ec9016a604946f541ab9ce"), looks := false }, kinds := [], alts := [], laidByText := true, laidKinds := [.data, .data, .pinned], laidTests := true, laidLooks := .later }
def ConsNearUptoCardSaid : Prop := Claim7.holds Tryz.pinned (.plain (OpenSpec.upto consNearSpec)) consNearUptoCard

/-- THE SECOND FORM's CARD OF 'gussetlaw06.ConsShapes'. -/
def consShapesUptoCard : Claim7 := { stood := { row := consShapesUptoRow, standIns := [], harness := (true, "6110eab053e2cc276ad8eddf0be1a79dfa65c7fcc9ec9016a604946f541ab9ce"), looks := false }, kinds := [], alts := [], laidByText := true, laidKinds := [.data, .data, .pinned], laidTests := true, laidLooks := .later }
def ConsShapesUptoCardSaid : Prop := Claim7.holds Tryz.pinned (.plain (OpenSpec.upto consShapesSpec)) consShapesUptoCard
end Rows
end Go.Proofs.YtafikdacdfkkhaaGreatDoor
