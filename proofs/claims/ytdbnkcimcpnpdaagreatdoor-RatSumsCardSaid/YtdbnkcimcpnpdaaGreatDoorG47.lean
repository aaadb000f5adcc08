/-
  gussetref03: Sign; a denominator 1.
-/
import Derived.ArgAppend
import Derived.Deep.Upon
import Derived.Lib.AppendIntMem
import Derived.Lib.SliceRun
import Derived.Shelf.LaysM
import Derived.Shelf.Spec.TrailingZeros
import Derived.Shelf.Strconv.Itoa1
import Derived.Shelf.Strconv.Itoa2
import Derived.Shelf.Strings.BuilderK
import Derived.Shelf.Strings.Prefix
import Derived.Shelf.Strings.Repeat
import Derived.Shelf.Strings.Trim
import Derived.Test.YtdbnkcimcpnpdaaGreatDoorG27
namespace Go.Proofs.YtdbnkcimcpnpdaaGreatDoor
open Go.RowKit Go.Shelf

set_option maxRecDepth 100000 in
set_option maxHeartbeats 4000000 in
theorem rsign_neg (s0 d0 : ByteArray) (w : World)
 :
   Calls Tryz.prog 18 #[.agg #[.bool true, .string s0, .string d0]] w fun e w' => e = .returned (.int .i64 (-1)) ∧ Below w.heap.size w w' := by
  go_enter Tryz.func18, Tryz.ntmps18
  go_wp2
  go_ret
  exact ⟨rfl, bel_al _ _⟩
set_option maxRecDepth 100000 in
set_option maxHeartbeats 4000000 in
theorem rsign_zero (d0 : ByteArray) (w : World)
 :
   Calls Tryz.prog 18 #[.agg #[.bool false, .string ByteArray.empty, .string d0]] w fun e w' => e = .returned (.int .i64 (0)) ∧ Below w.heap.size w w' := by
  go_enter Tryz.func18, Tryz.ntmps18
  go_wp2
  go_ret
  exact ⟨rfl, bel_al _ _⟩
set_option maxRecDepth 100000 in
set_option maxHeartbeats 4000000 in
theorem rsign_pos (s0 d0 : ByteArray) (h : s0.toList.isEmpty = false) (w : World)
 :
   Calls Tryz.prog 18 #[.agg #[.bool false, .string s0, .string d0]] w fun e w' => e = .returned (.int .i64 (1)) ∧ Below w.heap.size w w' := by
  go_enter Tryz.func18, Tryz.ntmps18
  go_wp2
  go_ret
  exact ⟨rfl, bel_al _ _⟩

theorem one_of {d : ByteArray} (h : (d.toList == [1]) = true) : natOf d = 1 := by
 have e : d = ⟨#[1]⟩ := by
  have h2 : d.toList = [1] := by simpa using h
  by_cases hd : d = ⟨#[1]⟩
  ·exact hd
  ·have := ne1 hd
   rw [h] at this
   cases this
 rw [e]; exact natOf_one

end Go.Proofs.YtdbnkcimcpnpdaaGreatDoor
