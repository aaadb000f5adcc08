/-
  gussetref03: Sign; a denominator 1.
-/
import Derived.ArgAppend
import Derived.Deep.Upon
import Derived.Lib.AppendIntMem
import Derived.Lib.SliceRun
import Derived.Shelf.LaysM
import Derived.Shelf.Spec.TrailingZeros
import Derived.Shelf.Strconv.Itoa1
import Derived.Shelf.Strconv.Itoa2
import Derived.Shelf.Strings.BuilderK
import Derived.Shelf.Strings.Prefix
import Derived.Shelf.Strings.Repeat
import Derived.Shelf.Strings.Trim
import Derived.Test.YtdbnkcimcpnpdaaGreatDoorG27
namespace Go.Proofs.YtdbnkcimcpnpdaaGreatDoor
open Go.RowKit Go.Shelf

theorem one_of {d : ByteArray} (h : (d.toList == [1]) = true) : natOf d = 1 := by
 have e : d = ⟨#[1]⟩ := by
  have h2 : d.toList = [1] := by simpa using h
  by_cases hd : d = ⟨#[1]⟩
  ·exact hd
  ·have := ne1 hd
   rw [h] at this
   cases this
 rw [e]; exact natOf_one

end Go.Proofs.YtdbnkcimcpnpdaaGreatDoor
