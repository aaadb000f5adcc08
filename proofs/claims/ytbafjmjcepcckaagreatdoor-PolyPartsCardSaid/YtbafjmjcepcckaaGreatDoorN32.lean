/-
  Package whole: read of one number; powersUpTo of one limb.
-/
import Derived.BigQuiet
import Derived.BigRegion
import Derived.Deep.QuietTactic
import Derived.Deep.RegionHeld3
import Derived.Deep.RegionLaw
import Derived.Deep.RegionWith
import Derived.Handy
import Derived.Laws.AppendOwn
import Derived.Laws.BytesArg
import Derived.Laws.CopyOwn
import Derived.Laws.ResultCell
import Derived.Laws.Rows
import Derived.Lib.BitFns
import Derived.Lib.ConvBytes
import Derived.Lib.Mul64
import Derived.Lib.Slices
import Derived.Lib.Small
import Derived.Lib.Strings
import Derived.Lib.Walk
import Derived.RegionTactic
import Derived.Shelf.Bytes.SlSmallAll
import Derived.Shelf.Spec.BitsCarry
import Derived.Shelf.Strings.Builder1
import Derived.Shelf.Strings.Builder2
import Derived.Test.YtbafjmjcepcckaaGreatDoorProg
import Derived.WalkKit
import Derived.WalkSmall
namespace Go.Proofs.YtbafjmjcepcckaaGreatDoor
open Go.RowKit Go.Shelf
def slen : Value → Nat
 | .slice _ n _ => n
 | _ => 0
end Go.Proofs.YtbafjmjcepcckaaGreatDoor
