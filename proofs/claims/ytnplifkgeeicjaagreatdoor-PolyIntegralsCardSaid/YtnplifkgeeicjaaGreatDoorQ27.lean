import Derived.Lib.ConvBytes
import Derived.WalkSmall
import Derived.Test.YtnplifkgeeicjaaGreatDoorQ07
namespace Go.Proofs.YtnplifkgeeicjaaGreatDoor
open Go.RowKit
theorem Ky {b : Nat} {xs : List Nat} (h : xs.all (fun x => decide (x < b)) = true) : M.Low b xs := by
 intro x hx; simpa using List.all_eq_true.1 h x hx
theorem Bgd {w : World} {g : Nat} (hg : g = w.heap.size) (xs : List Nat) : Rd (w.alloc (.cells (Dd xs) 170)) (.slice (some ⟨g, 0, none⟩) xs.length xs.length) xs := by
 subst hg; exact (Nd w xs).rd0 _ (Jb _)
theorem rd1 (w : World) {g : Nat} (hg : g = w.heap.size) (x : Nat) : Rd (w.alloc (.cells #[.int .u64 (x : Nat)] 170)) (.slice (some ⟨g, 0, none⟩) 1 1) [x] := Bgd hg [x]
end Go.Proofs.YtnplifkgeeicjaaGreatDoor
