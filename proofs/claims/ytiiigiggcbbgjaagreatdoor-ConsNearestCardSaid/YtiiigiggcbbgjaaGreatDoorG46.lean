/-
  The angles of a triangle: not all are sharp; where none is, all sides are even.
-/
import Derived.ArgAppend
import Derived.BigQuiet
import Derived.BigRegion
import Derived.Deep.CutRange
import Derived.Deep.DeepFit
import Derived.Deep.QuietTactic
import Derived.Deep.RegionHeld3
import Derived.Deep.RegionLaw
import Derived.Deep.RegionWith
import Derived.Deep.Upon
import Derived.Handy
import Derived.Laws.AppendOwn
import Derived.Laws.AppendOwnNone
import Derived.Laws.BytesArg
import Derived.Laws.CopyOwn
import Derived.Laws.ResultCell
import Derived.Laws.Rows
import Derived.Lib.AppendIntMem
import Derived.Lib.AppendZeros
import Derived.Lib.BitFns
import Derived.Lib.BufferGrow
import Derived.Lib.ConvBytes
import Derived.Lib.Mul64
import Derived.Lib.SliceRun
import Derived.Lib.Slices
import Derived.Lib.Small
import Derived.Lib.Strings
import Derived.Lib.Walk
import Derived.RegionTactic
import Derived.Shelf.Bytes.SlSmallAll
import Derived.Shelf.LaysM
import Derived.Shelf.Spec.BitsCarry
import Derived.Shelf.Spec.TrailingZeros
import Derived.Shelf.Strconv.Itoa1
import Derived.Shelf.Strconv.Itoa2
import Derived.Shelf.Strings.Builder1
import Derived.Shelf.Strings.Builder2
import Derived.Shelf.Strings.BuilderK
import Derived.Shelf.Strings.Prefix
import Derived.Shelf.Strings.Repeat
import Derived.Shelf.Strings.Trim
import Derived.Test.YtiiigiggcbbgjaaGreatDoorProg
import Derived.WalkKit
import Derived.WalkSmall
import Derived.Test.YtiiigiggcbbgjaaGreatDoorG01
namespace Go.Proofs.YtiiigiggcbbgjaaGreatDoor
open Go.RowKit
theorem sq_pos {x y : Rat} (h : ¬ (x = 0 ∧ y = 0)) : 0 < x * x + y * y := by
 have sx : 0 ≤ x * x := by
  rcases Rat.le_total (a := 0) (b := x) with k | k
  ·exact Rat.mul_nonneg k k
  ·have := Rat.mul_nonneg (a := -x) (b := -x) (by grind) (by grind)
   grind
 have sy : 0 ≤ y * y := by
  rcases Rat.le_total (a := 0) (b := y) with k | k
  ·exact Rat.mul_nonneg k k
  ·have := Rat.mul_nonneg (a := -y) (b := -y) (by grind) (by grind)
   grind
 by_cases e : x * x + y * y = 0
 ·exfalso
  have e1 : x * x = 0 := by grind
  have e2 : y * y = 0 := by grind
  refine h ⟨?_, ?_⟩
  ·rcases Rat.mul_eq_zero.1 e1 with k | k <;> exact k
  ·rcases Rat.mul_eq_zero.1 e2 with k | k <;> exact k
 ·grind
end Go.Proofs.YtiiigiggcbbgjaaGreatDoor
