/-
  Package whole: Of.
  Package whole: read of one number; powersUpTo of one limb.
-/
import Derived.Deep.RegionHeld3
import Derived.Deep.RegionWith
import Derived.Laws.AppendOwn
import Derived.Laws.BytesArg
import Derived.Laws.CopyOwn
import Derived.Laws.ResultCell
import Derived.Laws.Rows
import Derived.Lib.BitFns
import Derived.Lib.Mul64
import Derived.Lib.Slices
import Derived.Lib.Small
import Derived.Lib.Strings
import Derived.Lib.Walk
import Derived.Shelf.Bytes.SlSmallAll
import Derived.Shelf.Strings.Builder1
import Derived.Shelf.Strings.Builder2
import Derived.Test.YtiiigiggcbbgjaaGreatDoorK14
namespace Go.Proofs.YtiiigiggcbbgjaaGreatDoor
open Go.RowKit
theorem boxRow (w : World) (m : Nat) : ∃ w0, w0 = (w.alloc (.cells #[.bool false, .string { data := #[] }] 24)).alloc (.cells #[.int .u64 (m : Nat)] 123) ∧
  Cel w0 w.heap.size [.bool false, .string { data := #[] }] 24 ∧ Rd w0 (.slice (some ⟨w.heap.size + 1, 0, none⟩) 1 1) [m] ∧ Below w.heap.size w w0 := by
 refine ⟨_, rfl, (Cel.new w _ 24).alloc _, rd1 _ (by simp) m, by go_grown⟩
end Go.Proofs.YtiiigiggcbbgjaaGreatDoor
namespace Go.Proofs.YtiiigiggcbbgjaaGreatDoor
open Go.RowKit Go.Shelf
def slen : Value → Nat
 | .slice _ n _ => n
 | _ => 0
end Go.Proofs.YtiiigiggcbbgjaaGreatDoor
