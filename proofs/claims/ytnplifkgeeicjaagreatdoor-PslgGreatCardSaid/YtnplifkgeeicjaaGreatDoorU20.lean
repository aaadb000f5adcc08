/-
  A region whose order is open, state by state.
  Regions whose order is open, with a row that is laid at an open time.
-/
import Derived.Deep.CutRange
import Derived.Deep.DeepFit
import Derived.Deep.RegionHeld3
import Derived.Deep.RegionWith
import Derived.Laws.AppendOwn
import Derived.Laws.BytesArg
import Derived.Laws.CopyOwn
import Derived.Laws.ResultCell
import Derived.Laws.Rows
import Derived.Lib.BitFns
import Derived.Lib.ConvBytes
import Derived.Lib.Slices
import Derived.Lib.Small
import Derived.Lib.Strings
import Derived.Lib.Walk
import Derived.Shelf.Bytes.SlSmallAll
import Derived.Shelf.Strings.Builder1
import Derived.Shelf.Strings.Builder2
import Derived.WalkSmall
import Derived.Test.YtnplifkgeeicjaaGreatDoorU08
namespace Go.Proofs.YtnplifkgeeicjaaGreatDoor
open Go.RowKit
def ls (n : Nat) (l : List Nat) : Array Bool := (Array.range n).map fun i => l.contains i
theorem bset {N : Nat} {w wn : World} {g : Nat} (b : Below N w wn) (h : N ≤ g) (j : Nat) (v : Value) : Below N w (wn.setCell ⟨g, j, none⟩ v) := b.setCell h v
def PtS (z : List Value) (t : TypeId) (k : Nat) (v : Value) (w : World) : Prop := ∃ g, v = .slice (some ⟨g, 0, none⟩) k k ∧ Cel w g z t
end Go.Proofs.YtnplifkgeeicjaaGreatDoor
