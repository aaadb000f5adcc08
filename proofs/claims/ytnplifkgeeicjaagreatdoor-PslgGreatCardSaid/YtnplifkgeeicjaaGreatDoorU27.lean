/-
  'live' answers true.
-/
import Derived.Lib.ConvBytes
import Derived.Test.YtnplifkgeeicjaaGreatDoorU07
namespace Go.Proofs.YtnplifkgeeicjaaGreatDoor
open Go.RowKit
theorem low_of_all {b : Nat} {xs : List Nat} (h : xs.all (fun x => decide (x < b)) = true) : M.Low b xs := by
 intro x hx; simpa using List.all_eq_true.1 h x hx
theorem digs_eq {b : Nat} (hb : 2 ≤ b) {xs ys : List Nat} (hl : M.Low b ys) (ht : M.Trim ys) (e : M.val b xs = M.val b ys) : M.digs b (M.val b xs) = ys := by
 rw [e]; exact (M.eq_digs hb hl ht).symm
theorem trim_last {xs : List Nat} (h : (match xs.getLast? with | some x => decide (x ≠ 0) | none => true) = true) : M.Trim xs := by
 intro n hn
 have e : xs.getLast? = some (xs.getD n 0) := by
  rw [List.getLast?_eq_getElem?, List.getD_eq_getElem?_getD, hn]
  simp
  rw [List.getElem?_eq_getElem (by omega)]; rfl
 rw [e] at h
 simpa using h
theorem rd_lit {w : World} {g : Nat} (hg : g = w.heap.size) (xs : List Nat) : Rd (w.alloc (.cells (cellsOf xs) 170)) (.slice (some ⟨g, 0, none⟩) xs.length xs.length) xs := by
 subst hg; exact (blk_new w xs).rd0 _ (Nat.le_refl _)
theorem rd1 (w : World) {g : Nat} (hg : g = w.heap.size) (x : Nat) : Rd (w.alloc (.cells #[.int .u64 (x : Nat)] 170)) (.slice (some ⟨g, 0, none⟩) 1 1) [x] := rd_lit hg [x]
end Go.Proofs.YtnplifkgeeicjaaGreatDoor
