import Derived.Shelf.Spec.TrailingZeros
import Derived.Shelf.Strconv.Itoa1
import Derived.Shelf.Strings.Builder1
import Derived.Shelf.Strings.Builder2
import Derived.Shelf.Strings.BuilderK
import Derived.Shelf.Strings.Prefix
import Derived.Shelf.Strings.Repeat
import Derived.Shelf.Strings.Trim
import Derived.Test.YtnplifkgeeicjaaGreatDoorProg
namespace Go.Proofs.YtnplifkgeeicjaaGreatDoor
open Go.Shelf Go.RowKit
def Fg : Go.Shelf.Ren := ⟨fun | 29 => 239 | n => n, fun | 22 => 170 | 3 => 3 | 4 => 4 | 25 => 217 | 54 => 328 | 0 => 0 | 5 => 5 | n => n, fun | 1 => 14 | n => n⟩
theorem Beh : Go.Proofs.Lays7.n29 Tryz.prog Fg := {
 mixed := by kernel_rfl
 f29 := Tryz.func239.trans (congrArg some (by kernel_rfl))
 t0 := Tryz.underlying0
 a0 := Tryz.isAgg0
 z0 := Tryz.sizeOf0
 v0 := Tryz.zeroValue0
 i0 := by kernel_rfl
 t3 := Tryz.underlying3
 a3 := Tryz.isAgg3
 z3 := Tryz.sizeOf3
 v3 := Tryz.zeroValue3
 i3 := by kernel_rfl
 t4 := Tryz.underlying4
 a4 := Tryz.isAgg4
 z4 := Tryz.sizeOf4
 v4 := Tryz.zeroValue4
 i4 := by kernel_rfl
 t5 := Tryz.underlying5
 a5 := Tryz.isAgg5
 z5 := Tryz.sizeOf5
 v5 := Tryz.zeroValue5
 i5 := by kernel_rfl
 t22 := Tryz.underlying170
 a22 := Tryz.isAgg170
 z22 := Tryz.sizeOf170
 v22 := Tryz.zeroValue170
 i22 := by kernel_rfl
 t25 := Tryz.underlying217
 a25 := Tryz.isAgg217
 z25 := Tryz.sizeOf217
 v25 := Tryz.zeroValue217
 i25 := by kernel_rfl
 t54 := Tryz.underlying328
 a54 := Tryz.isAgg328
 z54 := Tryz.sizeOf328
 g1 := by kernel_rfl }
theorem Bh6 (x : Nat) (hx : x < 18446744073709551616) (w : World) (hT : x ≠ 0 → TabAt (Fg.g 1) Lib.deBruijn64tab w) :
  Calls Tryz.prog 239 #[.int .u64 x] w fun e w' => e = .returned (.int .i64 (Lib.ctz 64 x)) ∧ w' = w := Any7.bits_TrailingZeros64 Beh x hx w hT
end Go.Proofs.YtnplifkgeeicjaaGreatDoor
