/-
  'live' answers true.
  What 'live' calls, at its own inputs.
-/
import Derived.Lib.ConvBytes
import Derived.WalkSmall
import Derived.Test.YtbafjmjcepcckaaGreatDoorO05
namespace Go.Proofs.YtbafjmjcepcckaaGreatDoor
open Go.RowKit
theorem low_of_all {b : Nat} {xs : List Nat} (h : xs.all (fun x => decide (x < b)) = true) : M.Low b xs := by
 intro x hx; simpa using List.all_eq_true.1 h x hx
theorem rd_lit {w : World} {g : Nat} (hg : g = w.heap.size) (xs : List Nat) : Rd (w.alloc (.cells (cellsOf xs) 118)) (.slice (some ⟨g, 0, none⟩) xs.length xs.length) xs := by
 subst hg; exact (blk_new w xs).rd0 _ (Nat.le_refl _)
theorem rd1 (w : World) {g : Nat} (hg : g = w.heap.size) (x : Nat) : Rd (w.alloc (.cells #[.int .u64 (x : Nat)] 118)) (.slice (some ⟨g, 0, none⟩) 1 1) [x] := rd_lit hg [x]
theorem Below.bytes (w : World) (e : TypeId) (s : ByteArray) : Below w.heap.size w (Lib.bytesWorld w e s) :=
 ⟨rfl, rfl, rfl, by rw [Lib.bytesWorld_size]; omega, fun k hk => Lib.bytesWorld_at_old w e s k hk⟩
end Go.Proofs.YtbafjmjcepcckaaGreatDoor
