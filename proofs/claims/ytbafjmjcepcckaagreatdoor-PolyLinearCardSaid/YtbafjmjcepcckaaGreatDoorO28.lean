/-
  Contracts of Go's library off the shelf: strings.TrimLeft, strconv's small numbers, strings.HasPrefix, strings.Repeat, WriteString, bits.TrailingZeros64.
-/
import Derived.Shelf.Spec.TrailingZeros
import Derived.Shelf.Strconv.Itoa1
import Derived.Shelf.Strings.Builder1
import Derived.Shelf.Strings.Builder2
import Derived.Shelf.Strings.BuilderK
import Derived.Shelf.Strings.Prefix
import Derived.Shelf.Strings.Repeat
import Derived.Shelf.Strings.Trim
import Derived.Test.YtbafjmjcepcckaaGreatDoorProg
namespace Go.Proofs.YtbafjmjcepcckaaGreatDoor
open Go.Shelf Go.RowKit
def lays729_ren : Go.Shelf.Ren := ⟨fun | 29 => 153 | n => n, fun | 22 => 118 | 3 => 3 | 4 => 4 | 25 => 157 | 54 => 213 | 0 => 0 | 5 => 5 | n => n, fun | 1 => 4 | n => n⟩
theorem lays729 : Go.Proofs.Lays7.n29 Tryz.prog lays729_ren := {
 mixed := by kernel_rfl
 f29 := Tryz.func153.trans (congrArg some (by kernel_rfl))
 t0 := Tryz.underlying0
 a0 := Tryz.isAgg0
 z0 := Tryz.sizeOf0
 v0 := Tryz.zeroValue0
 i0 := by kernel_rfl
 t3 := Tryz.underlying3
 a3 := Tryz.isAgg3
 z3 := Tryz.sizeOf3
 v3 := Tryz.zeroValue3
 i3 := by kernel_rfl
 t4 := Tryz.underlying4
 a4 := Tryz.isAgg4
 z4 := Tryz.sizeOf4
 v4 := Tryz.zeroValue4
 i4 := by kernel_rfl
 t5 := Tryz.underlying5
 a5 := Tryz.isAgg5
 z5 := Tryz.sizeOf5
 v5 := Tryz.zeroValue5
 i5 := by kernel_rfl
 t22 := Tryz.underlying118
 a22 := Tryz.isAgg118
 z22 := Tryz.sizeOf118
 v22 := Tryz.zeroValue118
 i22 := by kernel_rfl
 t25 := Tryz.underlying157
 a25 := Tryz.isAgg157
 z25 := Tryz.sizeOf157
 v25 := Tryz.zeroValue157
 i25 := by kernel_rfl
 t54 := Tryz.underlying213
 a54 := Tryz.isAgg213
 z54 := Tryz.sizeOf213
 g1 := by kernel_rfl }
theorem tz64 (x : Nat) (hx : x < 18446744073709551616) (w : World) (hT : x ≠ 0 → TabAt (lays729_ren.g 1) Lib.deBruijn64tab w) :
  Calls Tryz.prog 153 #[.int .u64 x] w fun e w' => e = .returned (.int .i64 (Lib.ctz 64 x)) ∧ w' = w := Any7.bits_TrailingZeros64 lays729 x hx w hT
end Go.Proofs.YtbafjmjcepcckaaGreatDoor
