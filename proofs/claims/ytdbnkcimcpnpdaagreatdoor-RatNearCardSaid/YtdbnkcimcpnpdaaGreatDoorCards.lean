/-
  DERIVED. GIVEN WITH THE SEED: THE CARDS: each row of YtdbnkcimcpnpdaaGreatDoorRows.lean that lists a variable, with what it lists TIED to the program's text (the seventh form; the later family's looks); each row that meets fmt, with fmt's text TOLD by the authors' own Lean function (tested against real Go, not proved from fmt's source: count such statements apart). THE CARD IS WHAT COUNTS. Prove the row's statement (the work); the ties are given (YtdbnkcimcpnpdaaGreatDoorTie.lean); close each card by the builder's one call (the guide's Derived/Test/ToyasCard.lean, 'card_holds'). Laid BY PROGRAM, IN A SANDBOX (cutbox-door.mjs). By AI agents, Wed Nov 11 2026. No macro, syntax, notation, axiom, sorry.
-/
import Derived.Test.YtdbnkcimcpnpdaaGreatDoorRows
import GoSem.ClaimSeven
namespace Go.Proofs.YtdbnkcimcpnpdaaGreatDoor
namespace Rows

/-- THE TIED CARD OF 'gussetlaw03.RatSums'. -/
def ratSumsCard : Claim7 := { stood := { row := ratSumsRow, standIns := [], harness := (true, "d1978c13c146b4f7f498ab270afdcb909f36bb6f085b2648519b332a7eced7fd"), looks := false }, kinds := [], alts := [], laidByText := true, laidKinds := [.data, .data, .data, .data, .pinned], laidTests := true, laidLooks := .later }
def RatSumsCardSaid : Prop := Claim7.holds Tryz.pinned (.plain (OpenSpec.ofChange ratSumsSpec)) ratSumsCard

/-- THE TIED CARD OF 'gussetlaw03.RatProducts'. -/
def ratProductsCard : Claim7 := { stood := { row := ratProductsRow, standIns := [], harness := (true, "d1978c13c146b4f7f498ab270afdcb909f36bb6f085b2648519b332a7eced7fd"), looks := false }, kinds := [], alts := [], laidByText := true, laidKinds := [.data, .data, .data, .data, .pinned], laidTests := true, laidLooks := .later }
def RatProductsCardSaid : Prop := Claim7.holds Tryz.pinned (.plain (OpenSpec.ofChange ratProductsSpec)) ratProductsCard

/-- THE TIED CARD OF 'gussetlaw03.RatReads'. -/
def ratReadsCard : Claim7 := { stood := { row := ratReadsRow, standIns := [], harness := (true, "d1978c13c146b4f7f498ab270afdcb909f36bb6f085b2648519b332a7eced7fd"), looks := false }, kinds := [], alts := [], laidByText := true, laidKinds := [.data, .data, .data, .data, .pinned], laidTests := true, laidLooks := .later }
def RatReadsCardSaid : Prop := Claim7.holds Tryz.pinned (.plain (OpenSpec.ofChange ratReadsSpec)) ratReadsCard

/-- THE TIED CARD OF 'gussetlaw03.RatPrints'. -/
def ratPrintsCard : Claim7 := { stood := { row := ratPrintsRow, standIns := [], harness := (true, "d1978c13c146b4f7f498ab270afdcb909f36bb6f085b2648519b332a7eced7fd"), looks := false }, kinds := [], alts := [], laidByText := true, laidKinds := [.data, .data, .data, .data, .pinned], laidTests := true, laidLooks := .later }
def RatPrintsCardSaid : Prop := Claim7.holds Tryz.pinned (.plain (OpenSpec.ofChange ratPrintsSpec)) ratPrintsCard

/-- THE TIED CARD OF 'gussetlaw03.RatDecimals'. -/
def ratDecimalsCard : Claim7 := { stood := { row := ratDecimalsRow, standIns := [], harness := (true, "d1978c13c146b4f7f498ab270afdcb909f36bb6f085b2648519b332a7eced7fd"), looks := false }, kinds := [], alts := [], laidByText := true, laidKinds := [.data, .data, .data, .data, .pinned], laidTests := true, laidLooks := .later }
def RatDecimalsCardSaid : Prop := Claim7.holds Tryz.pinned (.plain (OpenSpec.ofChange ratDecimalsSpec)) ratDecimalsCard

/-- THE TIED CARD OF 'gussetlaw03.RatNear'. -/
def ratNearCard : Claim7 := { stood := { row := ratNearRow, standIns := [], harness := (true, "d1978c13c146b4f7f498ab270afdcb909f36bb6f085b2648519b332a7eced7fd"), looks := false }, kinds := [], alts := [], laidByText := true, laidKinds := [.data, .data, .data, .data, .pinned], laidTests := true, laidLooks := .later }
def RatNearCardSaid : Prop := Claim7.holds Tryz.pinned (.plain (OpenSpec.ofChange ratNearSpec)) ratNearCard

/-- THE SECOND FORM's CARD OF 'gussetlaw03.RatSums'. -/
def ratSumsUptoCard : Claim7 := { stood := { row := ratSumsUptoRow, standIns := [], harness := (true, "d1978c13c146b4f7f498ab270afdcb909f36bb6f085b2648519b332a7eced7fd"), looks := false }, kinds := [], alts := [], laidByText := true, laidKinds := [.data, .data, .data, .data, .pinned], laidTests := true, laidLooks := .later }
def RatSumsUptoCardSaid : Prop := Claim7.holds Tryz.pinned (.plain (OpenSpec.upto ratSumsSpec)) ratSumsUptoCard

/-- THE SECOND FORM's CARD OF 'gussetlaw03.RatProducts'. -/
def ratProductsUptoCard : Claim7 := { stood := { row := ratProductsUptoRow, standIns := [], harness := (true, "d1978c13c146b4f7f498ab270afdcb909f36bb6f085b2648519b332a7eced7fd"), looks := false }, kinds := [], alts := [], laidByText := true, laidKinds := [.data, .data, .data, .data, .pinned], laidTests := true, laidLooks := .later }
def RatProductsUptoCardSaid : Prop := Claim7.holds Tryz.pinned (.plain (OpenSpec.upto ratProductsSpec)) ratProductsUptoCard

/-- THE SECOND FORM's CARD OF 'gussetlaw03.RatReads'. -/
def ratReadsUptoCard : Claim7 := { stood := { row := ratReadsUptoRow, standIns := [], harness := (true, "d1978c13c146b4f7f498ab270afdcb909f36bb6f085b2648519b332a7eced7fd"), looks := false }, kinds := [], alts := [], laidByText := true, laidKinds := [.data, .data, .data, .data, .pinned], laidTests := true, laidLooks := .later }
def RatReadsUptoCardSaid : Prop := Claim7.holds Tryz.pinned (.plain (OpenSpec.upto ratReadsSpec)) ratReadsUptoCard

/-- THE SECOND FORM's CARD OF 'gussetlaw03.RatPrints'. -/
def ratPrintsUptoCard : Claim7 := { stood := { row := ratPrintsUptoRow, standIns := [], harness := (true, "d1978c13c146b4f7f498ab270afdcb909f36bb6f085b2648519b332a7eced7fd"), looks := false }, kinds := [], alts := [], laidByText := true, laidKinds := [.data, .data, .data, .data, .pinned], laidTests := true, laidLooks := .later }
def RatPrintsUptoCardSaid : Prop := Claim7.holds Tryz.pinned (.plain (OpenSpec.upto ratPrintsSpec)) ratPrintsUptoCard

/-- THE SECOND FORM's CARD OF 'gussetlaw03.RatDecimals'. -/
def ratDecimalsUptoCard : Claim7 := { stood := { row := ratDecimalsUptoRow, standIns := [], harness := (true, "d1978c13c146b4f7f498ab270afdcb909f36bb6f085b2648519b332a7eced7fd"), looks := false }, kinds := [], alts := [], laidByText := true, laidKinds := [.data, .data, .data, .data, .pinned], laidTests := true, laidLooks := .later }
def RatDecimalsUptoCardSaid : Prop := Claim7.holds Tryz.pinned (.plain (OpenSpec.upto ratDecimalsSpec)) ratDecimalsUptoCard

/-- THE SECOND FORM's CARD OF 'gussetlaw03.RatNear'. -/
def ratNearUptoCard : Claim7 := { stood := { row := ratNearUptoRow, standIns := [], harness := (true, "d1978c13c146b4f7f498ab270afdcb909f36bb6f085b2648519b332a7eced7fd"), looks := false }, kinds := [], alts := [], laidByText := true, laidKinds := [.data, .data, .data, .data, .pinned], laidTests := true, laidLooks := .later }
def RatNearUptoCardSaid : Prop := Claim7.holds Tryz.pinned (.plain (OpenSpec.upto ratNearSpec)) ratNearUptoCard
end Rows
end Go.Proofs.YtdbnkcimcpnpdaaGreatDoor
