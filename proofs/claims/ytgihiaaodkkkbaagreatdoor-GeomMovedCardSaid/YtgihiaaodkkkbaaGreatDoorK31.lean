/-
  Package long: the contracts of numbers that are not long.
  Blocks by what stands at each place; package vec: cleared.
  Package vec: cleared.
  Package rat: product, walked.
-/
import Derived.Test.YtgihiaaodkkkbaaGreatDoorK30
namespace Go.Proofs.YtgihiaaodkkkbaaGreatDoor
open Go.RowKit

/-- A number's sign and bytes. -/
def nfZ (z : Int) : Bool := decide (z < 0)
def sfZ (z : Int) : ByteArray := strOf z.natAbs
theorem okZ_nz (z : Int) : OkZ (nfZ z) (sfZ z) := okZ_zI z
theorem zOf_nz (z : Int) : zOf (nfZ z) (sfZ z) = z := zOf_zI z
end Go.Proofs.YtgihiaaodkkkbaaGreatDoor
namespace Go.Proofs.YtgihiaaodkkkbaaGreatDoor
open Go.RowKit

/-- Block g holds n cells, f i at place i, none of them frozen. -/
def Cells (w : World) (g : Nat) (t : TypeId) (n : Nat) (f : Nat → Value) : Prop := ∃ cs : Array Value, w.heap[g]? = some (.cells cs t (0, 0)) ∧ cs.size = n ∧ ∀ i, i < n → cs[i]? = some (f i)
theorem Cells.cell {w : World} {g n : Nat} {t : TypeId} {f : Nat → Value} (h : Cells w g t n f) {i : Nat} (hi : i < n) : w.cell? ⟨g, i, none⟩ = some (f i) := by
 obtain ⟨cs, h1, h2, h3⟩ := h
 simp [World.cell?, h1, h3 i hi]
theorem Cells.frozen {w : World} {g n : Nat} {t : TypeId} {f : Nat → Value} (h : Cells w g t n f) (i : Nat) : w.frozen? ⟨g, i, none⟩ = false := by
 obtain ⟨cs, h1, h2, h3⟩ := h
 simp [World.frozen?, h1]
theorem Cells.lt {w : World} {g n : Nat} {t : TypeId} {f : Nat → Value} (h : Cells w g t n f) : g < w.heap.size := by
 obtain ⟨cs, h1, -⟩ := h
 by_cases hg : g < w.heap.size
 ·exact hg
 ·rw [Array.getElem?_eq_none (by omega)] at h1; cases h1
theorem Cells.below {w w' : World} {g n : Nat} {t : TypeId} {f : Nat → Value} (h : Cells w g t n f) (hb : Below w.heap.size w w') : Cells w' g t n f := by
 have hl := h.lt
 obtain ⟨cs, h1, h2, h3⟩ := h
 exact ⟨cs, by rw [hb.block g hl]; exact h1, h2, h3⟩
theorem Cells.alloc {w : World} {g n : Nat} {t : TypeId} {f : Nat → Value} (h : Cells w g t n f) (o : Obj) : Cells (w.alloc o) g t n f := h.below ((Below.refl _ _).alloc (Nat.le_refl _) o)
theorem Cells.other {w : World} {g g' n : Nat} {t : TypeId} {f : Nat → Value} (h : Cells w g t n f) (hne : g ≠ g') (j : Nat) (v : Value) : Cells (w.setCell ⟨g', j, none⟩ v) g t n f := by
 obtain ⟨cs, h1, h2, h3⟩ := h
 exact ⟨cs, by rw [Below.heap_setCell _ _ _ _ (by exact hne)]; exact h1, h2, h3⟩
theorem Cells.set {w : World} {g n : Nat} {t : TypeId} {f : Nat → Value} (h : Cells w g t n f) (j : Nat) (v : Value) : Cells (w.setCell ⟨g, j, none⟩ v) g t n (fun i => if i = j then v else f i) := by
 obtain ⟨cs, h1, h2, h3⟩ := h
 refine ⟨cs.setIfInBounds j v, by simp [World.setCell, Array.getElem?_modify, h1], by simp [h2], fun i hi => ?_⟩
 show _ = some (if i = j then v else f i)
 by_cases e : i = j
 ·subst e
  rw [if_pos rfl]
  simp [h2, hi]
 ·rw [if_neg e, Array.getElem?_setIfInBounds_ne (fun q => e q.symm)]
  exact h3 i hi
theorem Cells.congr {w : World} {g n : Nat} {t : TypeId} {f f' : Nat → Value} (h : Cells w g t n f) (he : ∀ i, i < n → f i = f' i) : Cells w g t n f' := by
 obtain ⟨cs, h1, h2, h3⟩ := h
 exact ⟨cs, h1, h2, fun i hi => by rw [← he i hi]; exact h3 i hi⟩

/-- Numbers, one behind the other. -/
def fz (z : Nat → Int) (i : Nat) : Value := if i % 2 = 0 then .bool (nfZ (z (i / 2))) else .string (sfZ (z (i / 2)))
theorem fz_0 (z : Nat → Int) (j : Nat) : fz z (j * 2) = .bool (nfZ (z j)) := by
 unfold fz
 rw [if_pos (by omega), show j * 2 / 2 = j by omega]
theorem fz_1 (z : Nat → Int) (j : Nat) : fz z (j * 2 + 1) = .string (sfZ (z j)) := by
 unfold fz
 rw [if_neg (by omega), show (j * 2 + 1) / 2 = j by omega]
theorem Cells.z0 {w : World} {g n : Nat} {t : TypeId} {z : Nat → Int} (h : Cells w g t (n * 2) (fz z)) {j : Nat} (hj : j < n) : w.cell? ⟨g, j * 2, none⟩ = some (.bool (nfZ (z j))) := by
 rw [h.cell (by omega), fz_0]
theorem Cells.z1 {w : World} {g n : Nat} {t : TypeId} {z : Nat → Int} (h : Cells w g t (n * 2) (fz z)) {j : Nat} (hj : j < n) : w.cell? ⟨g, j * 2 + 1, none⟩ = some (.string (sfZ (z j))) := by
 rw [h.cell (by omega), fz_1]
end Go.Proofs.YtgihiaaodkkkbaaGreatDoor
namespace Go.Proofs.YtgihiaaodkkkbaaGreatDoor
open Go.RowKit

end Go.Proofs.YtgihiaaodkkkbaaGreatDoor
namespace Go.Proofs.YtgihiaaodkkkbaaGreatDoor
open Go.RowKit

end Go.Proofs.YtgihiaaodkkkbaaGreatDoor
