/-
  What 'live' calls, at its own inputs.
-/
import Derived.BigQuiet
import Derived.BigRegion
import Derived.Deep.QuietTactic
import Derived.Deep.RegionLaw
import Derived.Handy
import Derived.Lib.ConvBytes
import Derived.RegionTactic
import Derived.Shelf.Spec.BitsCarry
import Derived.Test.YtnplifkgeeicjaaGreatDoorProg
import Derived.WalkKit
import Derived.WalkSmall
namespace Go.Proofs.YtnplifkgeeicjaaGreatDoor
open Go.RowKit
theorem Below.bytes (w : World) (e : TypeId) (s : ByteArray) : Below w.heap.size w (Lib.bytesWorld w e s) :=
 ⟨rfl, rfl, rfl, by rw [Lib.bytesWorld_size]; omega, fun k hk => Lib.bytesWorld_at_old w e s k hk⟩
end Go.Proofs.YtnplifkgeeicjaaGreatDoor
