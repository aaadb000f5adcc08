/-
  DERIVED. GIVEN WITH THE SEED: THE CARDS: each row of YtmojdkjpcjfkeaaGreatDoorRows.lean that lists a variable, with what it lists TIED to the program's text (the seventh form; the later family's looks); each row that meets fmt, with fmt's text TOLD by the authors' own Lean function (tested against real Go, not proved from fmt's source: count such statements apart). THE CARD IS WHAT COUNTS. Prove the row's statement (the work); the ties are given (YtmojdkjpcjfkeaaGreatDoorTie.lean); close each card by the builder's one call (the guide's Derived/Test/ToyasCard.lean, 'card_holds'). Laid BY PROGRAM, IN A SANDBOX (cutbox-door.mjs). By AI agents, Wed Nov 11 2026. No macro, syntax, notation, axiom, sorry.
-/
import Derived.Test.YtmojdkjpcjfkeaaGreatDoorRows
import GoSem.ClaimSeven
namespace Go.Proofs.YtmojdkjpcjfkeaaGreatDoor
namespace Rows

/-- THE TIED CARD OF 'gussetlaw05.GeomMeets'. -/
def geomMeetsCard : Claim7 := { stood := { row := geomMeetsRow, standIns := [], harness := (true, "11db7620a2dd56497be568c628feee2f125f251356f3cecea4484ca065d46bd8"), looks := false }, kinds := [], alts := [], laidByText := true, laidKinds := [.data, .data, .pinned], laidTests := true, laidLooks := .later }
def GeomMeetsCardSaid : Prop := Claim7.holds Tryz.pinned (.plain (OpenSpec.ofChange geomMeetsSpec)) geomMeetsCard

/-- THE TIED CARD OF 'gussetlaw06.ConsNear'. -/
def consNearCard : Claim7 := { stood := { row := consNearRow, standIns := [], harness := (true, "11db7620a2dd56497be568c628feee2f125f251356f3cecea4484ca065d46bd8"), looks := false }, kinds := [], alts := [], laidByText := true, laidKinds := [.data, .data, .pinned], laidTests := true, laidLooks := .later }
def ConsNearCardSaid : Prop := Claim7.holds Tryz.pinned (.plain (OpenSpec.ofChange consNearSpec)) consNearCard

/-- THE TIED CARD OF 'gussetlaw06.ConsShapes'. -/
def consShapesCard : Claim7 := { stood := { row := consShapesRow, standIns := [], harness := (true, "11db7620a2dd56497be568c628feee2f125f251356f3cecea4484ca065d46bd8"), looks := false }, kinds := [], alts := [], laidByText := true, laidKinds := [.data, .data, .pinned], laidTests := true, laidLooks := .later }
def ConsShapesCardSaid : Prop := Claim7.holds Tryz.pinned (.plain (OpenSpec.ofChange consShapesSpec)) consShapesCard

/-- THE TIED CARD OF 'gussetlaw06.ConsNearest'. -/
def consNearestCard : Claim7 := { stood := { row := consNearestRow, standIns := [], harness := (true, "11db7620a2dd56497be568c628feee2f125f251356f3cecea4484ca065d46bd8"), looks := false }, kinds := [], alts := [], laidByText := true, laidKinds := [.data, .data, .pinned], laidTests := true, laidLooks := .later }
def ConsNearestCardSaid : Prop := Claim7.holds Tryz.pinned (.plain (OpenSpec.ofChange consNearestSpec)) consNearestCard

/-- THE TIED CARD OF 'gussetlaw06.ConsAngles'. -/
def consAnglesCard : Claim7 := { stood := { row := consAnglesRow, standIns := [], harness := (true, "11db7620a2dd56497be568c628feee2f125f251356f3cecea4484ca065d46bd8"), looks := false }, kinds := [], alts := [], laidByText := true, laidKinds := [.data, .data, .pinned], laidTests := true, laidLooks := .later }
def ConsAnglesCardSaid : Prop := Claim7.holds Tryz.pinned (.plain (OpenSpec.ofChange consAnglesSpec)) consAnglesCard

/-- THE TIED CARD OF 'gussetlaw06.ConsParts'. -/
def consPartsCard : Claim7 := { stood := { row := consPartsRow, standIns := [], harness := (true, "11db7620a2dd56497be568c628feee2f125f251356f3cecea4484ca065d46bd8"), looks := false }, kinds := [], alts := [], laidByText := true, laidKinds := [.data, .data, .pinned], laidTests := true, laidLooks := .later }
def ConsPartsCardSaid : Prop := Claim7.holds Tryz.pinned (.plain (OpenSpec.ofChange consPartsSpec)) consPartsCard

/-- THE SECOND FORM's CARD OF 'gussetlaw05.GeomMeets'. -/
def geomMeetsUptoCard : Claim7 := { stood := { row := geomMeetsUptoRow, standIns := [], harness := (true, "11db7620a2dd56497be568c628feee2f125f251356f3cecea4484ca065d46bd8"), looks := false }, kinds := [], alts := [], laidByText := true, laidKinds := [.data, .data, .pinned], laidTests := true, laidLooks := .later }
def GeomMeetsUptoCardSaid : Prop := Claim7.holds Tryz.pinned (.plain (OpenSpec.upto geomMeetsSpec)) geomMeetsUptoCard

/-- THE SECOND FORM's CARD OF 'gussetlaw06.ConsNear'. -/
def consNearUptoCard : Claim7 := { stood := { row := consNearUptoRow, standIns := [], harness := (true, "11db7620a2dd56497be568c628feee2f125f251356f3cecea4484ca065d46bd8"), looks := false }, kinds := [], alts := [], laidByText := true, laidKinds := [.data, .data, .pinned], laidTests := true, laidLooks := .later }
def ConsNearUptoCardSaid : Prop := Claim7.holds Tryz.pinned (.plain (OpenSpec.upto consNearSpec)) consNearUptoCard

/-- THE SECOND FORM's CARD OF 'gussetlaw06.ConsShapes'. -/
def consShapesUptoCard : Claim7 := { stood := { row := consShapesUptoRow, standIns := [], harness := (true, "11db7620a2dd56497be568c628feee2f125f251356f3cecea4484ca065d46bd8"), looks := false }, kinds := [], alts := [], laidByText := true, laidKinds := [.data, .data, .pinned], laidTests := true, laidLooks := .later }
def ConsShapesUptoCardSaid : Prop := Claim7.holds Tryz.pinned (.plain (OpenSpec.upto consShapesSpec)) consShapesUptoCard

/-- THE SECOND FORM's CARD OF 'gussetlaw06.ConsNearest'. -/
def consNearestUptoCard : Claim7 := { stood := { row := consNearestUptoRow, standIns := [], harness := (true, "11db7620a2dd56497be568c628feee2f125f251356f3cecea4484ca065d46bd8"), looks := false }, kinds := [], alts := [], laidByText := true, laidKinds := [.data, .data, .pinned], laidTests := true, laidLooks := .later }
def ConsNearestUptoCardSaid : Prop := Claim7.holds Tryz.pinned (.plain (OpenSpec.upto consNearestSpec)) consNearestUptoCard

/-- THE SECOND FORM's CARD OF 'gussetlaw06.ConsAngles'. -/
def consAnglesUptoCard : Claim7 := { stood := { row := consAnglesUptoRow, standIns := [], harness := (true, "11db7620a2dd56497be568c628feee2f125f251356f3cecea4484ca065d46bd8"), looks := false }, kinds := [], alts := [], laidByText := true, laidKinds := [.data, .data, .pinned], laidTests := true, laidLooks := .later }
def ConsAnglesUptoCardSaid : Prop := Claim7.holds Tryz.pinned (.plain (OpenSpec.upto consAnglesSpec)) consAnglesUptoCard

/-- THE SECOND FORM's CARD OF 'gussetlaw06.ConsParts'. -/
def consPartsUptoCard : Claim7 := { stood := { row := consPartsUptoRow, standIns := [], harness := (true, "11db7620a2dd56497be568c628feee2f125f251356f3cecea4484ca065d46bd8"), looks := false }, kinds := [], alts := [], laidByText := true, laidKinds := [.data, .data, .pinned], laidTests := true, laidLooks := .later }
def ConsPartsUptoCardSaid : Prop := Claim7.holds Tryz.pinned (.plain (OpenSpec.upto consPartsSpec)) consPartsUptoCard
end Rows
end Go.Proofs.YtmojdkjpcjfkeaaGreatDoor
