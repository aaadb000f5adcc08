import Derived.ArgAppend
import Derived.Deep.CutRange
import Derived.Deep.DeepFit
import Derived.Deep.Upon
import Derived.Lib.AppendZeros
import Derived.Lib.BufferGrow
import Derived.Lib.SliceRun
import Derived.Shelf.Spec.TrailingZeros
import Derived.Shelf.Strconv.Itoa1
import Derived.Shelf.Strings.BuilderK
import Derived.Shelf.Strings.Prefix
import Derived.Shelf.Strings.Repeat
import Derived.Shelf.Strings.Trim
import Derived.Test.YtnplifkgeeicjaaGreatDoorQ26
namespace Go.Proofs.YtnplifkgeeicjaaGreatDoor
open Go.RowKit
def cat (n : Nat) (x y : Nat → Int) : Nat → Int := fun j => if j < n then x j else y (j - n)
theorem Bd.sub {x y : Int} {k : Nat} (hx : Bd x k) (hy : Bd y k) : Bd (x - y) (k + 1) := by
 rw [Int.sub_eq_add_neg]; exact hx.add hy.neg
end Go.Proofs.YtnplifkgeeicjaaGreatDoor
