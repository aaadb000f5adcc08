/-
  A contract of Go's library off the shelf: strings.FieldsFunc, at blanks.
-/
import Derived.Handy
import Derived.Shelf.Strings.FieldsFuncAny
import Derived.Test.YtnplifkgeeicjaaGreatDoorProg
import Derived.WalkKit
import Derived.WalkSmall
import Derived.Test.YtnplifkgeeicjaaGreatDoorU43
namespace Go.Proofs.YtnplifkgeeicjaaGreatDoor
open Go.RowKit Go.Shelf Go.Lib
def lays229_ren : Go.Shelf.Ren := ⟨fun | 229 => 82 | n => n, fun | 0 => 0 | 3 => 3 | 4 => 4 | 9 => 9 | 21 => 21 | 31 => 91 | 40 => 137 | 152 => 194 | 154 => 196 | n => n, fun  | n => n⟩
theorem lays229 : Go.Proofs.Lays.n229 Tryz.prog lays229_ren := {
 mixed := by kernel_rfl
 f229 := Tryz.func82.trans (congrArg some (by kernel_rfl))
 t0 := Tryz.underlying0
 a0 := Tryz.isAgg0
 z0 := Tryz.sizeOf0
 v0 := Tryz.zeroValue0
 t3 := Tryz.underlying3
 a3 := Tryz.isAgg3
 z3 := Tryz.sizeOf3
 v3 := Tryz.zeroValue3
 t4 := Tryz.underlying4
 a4 := Tryz.isAgg4
 z4 := Tryz.sizeOf4
 v4 := Tryz.zeroValue4
 t9 := Tryz.underlying9
 a9 := Tryz.isAgg9
 z9 := Tryz.sizeOf9
 v9 := Tryz.zeroValue9
 t21 := Tryz.underlying21
 a21 := Tryz.isAgg21
 z21 := Tryz.sizeOf21
 v21 := Tryz.zeroValue21
 t31 := Tryz.underlying91
 a31 := Tryz.isAgg91
 z31 := Tryz.sizeOf91
 v31 := Tryz.zeroValue91
 t40 := Tryz.underlying137
 a40 := Tryz.isAgg137
 z40 := Tryz.sizeOf137
 v40 := Tryz.zeroValue137
 t152 := Tryz.underlying194
 a152 := Tryz.isAgg194
 z152 := Tryz.sizeOf194
 v152 := Tryz.zeroValue194
 t154 := Tryz.underlying196
 a154 := Tryz.isAgg196
 z154 := Tryz.sizeOf196
 v154 := Tryz.zeroValue196 }
theorem isBlank_at (W : World) (r : Nat) : FnGives Tryz.prog 83 #[] #[.int .i32 (r : Nat)] (.bool (bl r)) W := by
 unfold FnGives bl
 by_cases h1 : r = 32
 ·subst h1
  go_enter Tryz.func83, Tryz.ntmps83
  go_wp2
  go_ret
  exact ⟨rfl, 0, rfl⟩
 ·have h1' : ¬ (r : Int) = 32 := by omega
  have e1 : (r == 32) = false := by simpa using h1
  rw [e1]
  by_cases h2 : r = 9
  ·subst h2
   go_enter Tryz.func83, Tryz.ntmps83
   go_wp2
   go_ret
   exact ⟨rfl, 0, rfl⟩
  ·have h2' : ¬ (r : Int) = 9 := by omega
   have e2 : (r == 9) = false := by simpa using h2
   rw [e2]
   by_cases h3 : r = 10
   ·subst h3
    go_enter Tryz.func83, Tryz.ntmps83
    go_wp2
    go_ret
    exact ⟨rfl, 0, rfl⟩
   ·have h3' : ¬ (r : Int) = 10 := by omega
    have e3 : (r == 10) = false := by simpa using h3
    rw [e3]
    go_enter Tryz.func83, Tryz.ntmps83
    go_wp2
    go_ret
    exact ⟨congrArg (fun b => Ending.returned (Value.bool b)) (show (((r : Int) == 32 || (r : Int) == 9) || (r : Int) == 10) = false by simp [h1', h2', h3']), 0, rfl⟩
theorem fields_any (s : ByteArray) (w : World) (hs : s.size ≤ 4294967296) : Calls Tryz.prog 82 #[.string s, .func (.func 83) #[] #[]] w fun e w' => ∃ A, e = .returned (.slice (some ⟨A, 0, none⟩) (toks s).length (toks s).length) ∧ w.heap.size ≤ A ∧
  w'.ownsRow w.heap.size 9 1 (.slice (some ⟨A, 0, none⟩) (toks s).length (toks s).length) (toks s).length ((toks s).map Value.string) ∧ Below w.heap.size w w' := by
 have := Any.strings_FieldsFunc lays229 83 #[] (enters_of Tryz.func83 (by kernel_rfl) rfl) bl s w hs (fun W r _ => isBlank_at W r) (by kernel_rfl) (by kernel_rfl)
 rwa [fields_toks] at this
end Go.Proofs.YtnplifkgeeicjaaGreatDoor
