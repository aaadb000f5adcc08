/-
  Package cons: Ratio2, walked.
-/
import Derived.ArgAppend
import Derived.BigQuiet
import Derived.BigRegion
import Derived.Deep.CutBlock
import Derived.Deep.CutRange
import Derived.Deep.DeepFit
import Derived.Deep.QuietTactic
import Derived.Deep.RegionHeld3
import Derived.Deep.RegionLaw
import Derived.Deep.RegionWith
import Derived.Deep.Upon
import Derived.Handy
import Derived.Laws.AppendOwn
import Derived.Laws.AppendOwnNone
import Derived.Laws.BytesArg
import Derived.Laws.CopyOwn
import Derived.Laws.ResultCell
import Derived.Laws.Rows
import Derived.Lib.AppendIntMem
import Derived.Lib.AppendZeros
import Derived.Lib.BitFns
import Derived.Lib.BufferGrow
import Derived.Lib.ConvBytes
import Derived.Lib.Mul64
import Derived.Lib.SliceRun
import Derived.Lib.Slices
import Derived.Lib.Small
import Derived.Lib.Strings
import Derived.Lib.Walk
import Derived.RegionTactic
import Derived.Shelf.Bytes.SlSmallAll
import Derived.Shelf.LaysM
import Derived.Shelf.Spec.BitsCarry
import Derived.Shelf.Spec.TrailingZeros
import Derived.Shelf.Strconv.Itoa1
import Derived.Shelf.Strconv.Itoa2
import Derived.Shelf.Strings.Builder1
import Derived.Shelf.Strings.Builder2
import Derived.Shelf.Strings.BuilderK
import Derived.Shelf.Strings.Prefix
import Derived.Shelf.Strings.Repeat
import Derived.Shelf.Strings.Trim
import Derived.Test.YtbafjmjcepcckaaGreatDoorProg
import Derived.WalkKit
import Derived.WalkSmall
import Derived.Test.YtbafjmjcepcckaaGreatDoorN01
namespace Go.Proofs.YtbafjmjcepcckaaGreatDoor
open Go.RowKit
def t3 {α : Type} (k : Nat) (x y z : α) : α := match k with
 | 0 => x
 | 1 => y
 | _ => z
end Go.Proofs.YtbafjmjcepcckaaGreatDoor
