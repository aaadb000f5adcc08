/-
  gussetref04: Check, Scale; gussetlaw04: VecScales, walked.
-/
import Derived.Laws.AppendOwnNone
import Derived.Lib.AppendIntMem
import Derived.Lib.AppendZeros
import Derived.Lib.BufferGrow
import Derived.Shelf.LaysM
import Derived.Shelf.Strconv.Itoa2
import Derived.Test.YtgihiaaodkkkbaaGreatDoorK31
namespace Go.Proofs.YtgihiaaodkkkbaaGreatDoor
open Go.RowKit Go.Shelf

set_option maxRecDepth 100000 in
set_option maxHeartbeats 4000000 in
theorem rchk4_walk (n0 n1 : Bool) (s0 d0 s1 d1 : ByteArray) (E : Int) (w : World)
  (H1 : Hid (∀ w1, Calls Tryz.prog 86 #[.agg #[.bool n0, .string s0, .string d0], .agg #[.bool n1, .string s1, .string d1]] w1 fun e w' => e = .returned (.int .i64 E) ∧ Below w1.heap.size w1 w')) :
  Calls Tryz.prog 52 #[.agg #[.bool n0, .string s0, .string d0, .bool n1, .string s1, .string d1]] w fun e w' => e = .returned (.int .i64 E) ∧ Below w.heap.size w w' := by
 go_enter Tryz.func52, Tryz.ntmps52
 go_wp2_with fail
 go_fit (H1.out _)
 rintro e w1 ⟨rfl, b1⟩
 obtain ⟨ka, b1⟩ := al1 b1
 have sz := b1.size
 have bb := b1
 clear b1
 have ta := ka.lt
 go_wp2
 go_ret
 exact ⟨rfl, bb⟩
end Go.Proofs.YtgihiaaodkkkbaaGreatDoor
