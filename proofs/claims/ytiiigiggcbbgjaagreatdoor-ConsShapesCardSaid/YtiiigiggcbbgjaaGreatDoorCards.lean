/-
  DERIVED. GIVEN WITH THE SEED: THE CARDS: each row of YtiiigiggcbbgjaaGreatDoorRows.lean that lists a variable, with what it lists TIED to the program's text (the seventh form; the later family's looks); each row that meets fmt, with fmt's text TOLD by the authors' own Lean function (tested against real Go, not proved from fmt's source: count such statements apart). THE CARD IS WHAT COUNTS. Prove the row's statement (the work); the ties are given (YtiiigiggcbbgjaaGreatDoorTie.lean); close each card by the builder's one call (the guide's Derived/Test/ToyasCard.lean, 'card_holds'). Laid BY PROGRAM, IN A SANDBOX (cutbox-door.mjs). By AI agents, Wed Nov 11 2026. No macro, syntax, notation, axiom, sorry.
-/
import Derived.Test.YtiiigiggcbbgjaaGreatDoorRows
import GoSem.ClaimSeven
namespace Go.Proofs.YtiiigiggcbbgjaaGreatDoor
namespace Rows

/-- THE TIED CARD OF 'gussetlaw05.GeomAgree'. -/
def geomAgreeCard : Claim7 := { stood := { row := geomAgreeRow, standIns := [], harness := (true, "818831d14b8a2711c4fa2283923886afafbe940d16d2374906d0ec31e8f79335"), looks := false }, kinds := [], alts := [], laidByText := true, laidKinds := [.data, .data, .pinned], laidTests := true, laidLooks := .later }
def GeomAgreeCardSaid : Prop := Claim7.holds Tryz.pinned (.plain (OpenSpec.ofChange geomAgreeSpec)) geomAgreeCard

/-- THE TIED CARD OF 'gussetlaw06.ConsPoints'. -/
def consPointsCard : Claim7 := { stood := { row := consPointsRow, standIns := [], harness := (true, "818831d14b8a2711c4fa2283923886afafbe940d16d2374906d0ec31e8f79335"), looks := false }, kinds := [], alts := [], laidByText := true, laidKinds := [.data, .data, .pinned], laidTests := true, laidLooks := .later }
def ConsPointsCardSaid : Prop := Claim7.holds Tryz.pinned (.plain (OpenSpec.ofChange consPointsSpec)) consPointsCard

/-- THE TIED CARD OF 'gussetlaw06.ConsShapes'. -/
def consShapesCard : Claim7 := { stood := { row := consShapesRow, standIns := [], harness := (true, "818831d14b8a2711c4fa2283923886afafbe940d16d2374906d0ec31e8f79335"), looks := false }, kinds := [], alts := [], laidByText := true, laidKinds := [.data, .data, .pinned], laidTests := true, laidLooks := .later }
def ConsShapesCardSaid : Prop := Claim7.holds Tryz.pinned (.plain (OpenSpec.ofChange consShapesSpec)) consShapesCard

/-- THE TIED CARD OF 'gussetlaw06.ConsEven'. -/
def consEvenCard : Claim7 := { stood := { row := consEvenRow, standIns := [], harness := (true, "818831d14b8a2711c4fa2283923886afafbe940d16d2374906d0ec31e8f79335"), looks := false }, kinds := [], alts := [], laidByText := true, laidKinds := [.data, .data, .pinned], laidTests := true, laidLooks := .later }
def ConsEvenCardSaid : Prop := Claim7.holds Tryz.pinned (.plain (OpenSpec.ofChange consEvenSpec)) consEvenCard

/-- THE TIED CARD OF 'gussetlaw06.ConsNearest'. -/
def consNearestCard : Claim7 := { stood := { row := consNearestRow, standIns := [], harness := (true, "818831d14b8a2711c4fa2283923886afafbe940d16d2374906d0ec31e8f79335"), looks := false }, kinds := [], alts := [], laidByText := true, laidKinds := [.data, .data, .pinned], laidTests := true, laidLooks := .later }
def ConsNearestCardSaid : Prop := Claim7.holds Tryz.pinned (.plain (OpenSpec.ofChange consNearestSpec)) consNearestCard

/-- THE SECOND FORM's CARD OF 'gussetlaw05.GeomAgree'. -/
def geomAgreeUptoCard : Claim7 := { stood := { row := geomAgreeUptoRow, standIns := [], harness := (true, "818831d14b8a2711c4fa2283923886afafbe940d16d2374906d0ec31e8f79335"), looks := false }, kinds := [], alts := [], laidByText := true, laidKinds := [.data, .data, .pinned], laidTests := true, laidLooks := .later }
def GeomAgreeUptoCardSaid : Prop := Claim7.holds Tryz.pinned (.plain (OpenSpec.upto geomAgreeSpec)) geomAgreeUptoCard

/-- THE SECOND FORM's CARD OF 'gussetlaw06.ConsPoints'. -/
def consPointsUptoCard : Claim7 := { stood := { row := consPointsUptoRow, standIns := [], harness := (true, "818831d14b8a2711c4fa2283923886afafbe940d16d2374906d0ec31e8f79335"), looks := false }, kinds := [], alts := [], laidByText := true, laidKinds := [.data, .data, .pinned], laidTests := true, laidLooks := .later }
def ConsPointsUptoCardSaid : Prop := Claim7.holds Tryz.pinned (.plain (OpenSpec.upto consPointsSpec)) consPointsUptoCard

/-- THE SECOND FORM's CARD OF 'gussetlaw06.ConsShapes'. -/
def consShapesUptoCard : Claim7 := { stood := { row := consShapesUptoRow, standIns := [], harness := (true, "818831d14b8a2711c4fa2283923886afafbe940d16d2374906d0ec31e8f79335"), looks := false }, kinds := [], alts := [], laidByText := true, laidKinds := [.data, .data, .pinned], laidTests := true, laidLooks := .later }
def ConsShapesUptoCardSaid : Prop := Claim7.holds Tryz.pinned (.plain (OpenSpec.upto consShapesSpec)) consShapesUptoCard

/-- THE SECOND FORM's CARD OF 'gussetlaw06.ConsEven'. -/
def consEvenUptoCard : Claim7 := { stood := { row := consEvenUptoRow, standIns := [], harness := (true, "818831d14b8a2711c4fa2283923886afafbe940d16d2374906d0ec31e8f79335"), looks := false }, kinds := [], alts := [], laidByText := true, laidKinds := [.data, .data, .pinned], laidTests := true, laidLooks := .later }
def ConsEvenUptoCardSaid : Prop := Claim7.holds Tryz.pinned (.plain (OpenSpec.upto consEvenSpec)) consEvenUptoCard

/-- THE SECOND FORM's CARD OF 'gussetlaw06.ConsNearest'. -/
def consNearestUptoCard : Claim7 := { stood := { row := consNearestUptoRow, standIns := [], harness := (true, "818831d14b8a2711c4fa2283923886afafbe940d16d2374906d0ec31e8f79335"), looks := false }, kinds := [], alts := [], laidByText := true, laidKinds := [.data, .data, .pinned], laidTests := true, laidLooks := .later }
def ConsNearestUptoCardSaid : Prop := Claim7.holds Tryz.pinned (.plain (OpenSpec.upto consNearestSpec)) consNearestUptoCard
end Rows
end Go.Proofs.YtiiigiggcbbgjaaGreatDoor
