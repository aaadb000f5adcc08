/-
  strings.Cut, off the shelf; internal/bytealg.MaxLen holds some int; texts around a sign.
-/
import Derived.BigQuiet
import Derived.Deep.QuietTactic
import Derived.Handy
import Derived.Shelf.Spec.BitsCarry
import Derived.Shelf.Strings.Cut
import Derived.Shelf.Vars
import Derived.Test.YtnplifkgeeicjaaGreatDoorProg
import Derived.WalkKit
namespace Go.Proofs.YtnplifkgeeicjaaGreatDoor
open Go.RowKit Go.Shelf
def lays145_ren : Go.Shelf.Ren := ⟨fun | 145 => 215 | 217 => 278 | 219 => 269 | 220 => 245 | 224 => 280 | 225 => 279 | 266 => 284 | 267 => 281 | 314 => 285 | n => n, fun | 3 => 3 | 4 => 4 | 5 => 5 | 9 => 9 | 46 => 217 | 51 => 314 | 59 => 285 | 146 => 338 | n => n, fun | 1 => 13 | n => n⟩
theorem lays145 : Go.Proofs.Lays.n145 Tryz.prog lays145_ren := {
 mixed := by kernel_rfl
 f145 := Tryz.func215.trans (congrArg some (by kernel_rfl))
 f217 := Tryz.func278.trans (congrArg some (by kernel_rfl))
 f219 := Tryz.func269.trans (congrArg some (by kernel_rfl))
 f220 := Tryz.func245.trans (congrArg some (by kernel_rfl))
 f224 := Tryz.func280.trans (congrArg some (by kernel_rfl))
 f225 := Tryz.func279.trans (congrArg some (by kernel_rfl))
 f266 := Tryz.func284.trans (congrArg some (by kernel_rfl))
 f267 := Tryz.func281.trans (congrArg some (by kernel_rfl))
 f314 := Tryz.func285.trans (congrArg some (by kernel_rfl))
 t3 := Tryz.underlying3
 a3 := Tryz.isAgg3
 z3 := Tryz.sizeOf3
 v3 := Tryz.zeroValue3
 t4 := Tryz.underlying4
 a4 := Tryz.isAgg4
 z4 := Tryz.sizeOf4
 v4 := Tryz.zeroValue4
 t5 := Tryz.underlying5
 a5 := Tryz.isAgg5
 z5 := Tryz.sizeOf5
 v5 := Tryz.zeroValue5
 t9 := Tryz.underlying9
 a9 := Tryz.isAgg9
 z9 := Tryz.sizeOf9
 v9 := Tryz.zeroValue9
 t46 := Tryz.underlying217
 a46 := Tryz.isAgg217
 z46 := Tryz.sizeOf217
 v46 := Tryz.zeroValue217
 t51 := Tryz.underlying314
 a51 := Tryz.isAgg314
 z51 := Tryz.sizeOf314
 v51 := Tryz.zeroValue314
 t59 := Tryz.underlying285
 a59 := Tryz.isAgg285
 z59 := Tryz.sizeOf285
 v59 := Tryz.zeroValue285
 t146 := Tryz.underlying338
 a146 := Tryz.isAgg338
 z146 := Tryz.sizeOf338
 v146 := Tryz.zeroValue338
 g1 := by kernel_rfl }
end Go.Proofs.YtnplifkgeeicjaaGreatDoor
