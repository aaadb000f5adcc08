/-
  Rows of whole numbers; slices.Grow and slices.Concat over them.
  Package vec: without.
  Determinants of whole numbers: how long they get; rows of rows without the first.
  Package vec: expanded.
-/
import Derived.Lib.AppendZeros
import Derived.Lib.BufferGrow
import Derived.Test.YtgihiaaodkkkbaaGreatDoorK31
namespace Go.Proofs.YtgihiaaodkkkbaaGreatDoor
open Go.RowKit

/-- The slice at a reads in w as n numbers. -/
def RdZ (w : World) (a : Option Addr) (n : Nat) (z : Nat → Int) : Prop := ∀ i, i < n * 2 → ∃ b off, a = some ⟨b, off, none⟩ ∧ w.cell? ⟨b, off + i, none⟩ = some (fz z i)
theorem RdZ.below {w w' : World} {a : Option Addr} {n : Nat} {z : Nat → Int} (h : RdZ w a n z) (hb : Below w.heap.size w w') : RdZ w' a n z := by
 intro i hi
 obtain ⟨b, off, rfl, h0⟩ := h i hi
 exact ⟨b, off, rfl, cell_below h0 hb⟩
theorem RdZ.z0 {w : World} {b off n : Nat} {z : Nat → Int} (h : RdZ w (some ⟨b, off, none⟩) n z) {j : Nat} (hj : j < n) : w.cell? ⟨b, off + j * 2, none⟩ = some (.bool (nfZ (z j))) := by
 obtain ⟨b', off', e, h0⟩ := h (j * 2) (by omega)
 simp only [Option.some.injEq, Addr.mk.injEq] at e
 obtain ⟨rfl, rfl, -⟩ := e
 rw [h0, fz_0]
theorem RdZ.z1 {w : World} {b off n : Nat} {z : Nat → Int} (h : RdZ w (some ⟨b, off, none⟩) n z) {j : Nat} (hj : j < n) : w.cell? ⟨b, off + j * 2 + 1, none⟩ = some (.string (sfZ (z j))) := by
 obtain ⟨b', off', e, h0⟩ := h (j * 2 + 1) (by omega)
 simp only [Option.some.injEq, Addr.mk.injEq] at e
 obtain ⟨rfl, rfl, -⟩ := e
 rw [Nat.add_assoc, h0, fz_1]
/-- Two rows, one behind the other. -/
def cat (n : Nat) (x y : Nat → Int) : Nat → Int := fun j => if j < n then x j else y (j - n)
end Go.Proofs.YtgihiaaodkkkbaaGreatDoor
namespace Go.Proofs.YtgihiaaodkkkbaaGreatDoor
open Go.RowKit

/-- The slice at a reads in w as n rows of m numbers. -/
def RdM (w : World) (a : Option Addr) (n m : Nat) (M : Nat → Nat → Int) : Prop := ∀ i, i < n → ∃ b off g o c, a = some ⟨b, off, none⟩ ∧ w.cell? ⟨b, off + i, none⟩ = some (.slice (some ⟨g, o, none⟩) m c) ∧ m ≤ c ∧ RdZ w (some ⟨g, o, none⟩) m (M i)
theorem RdM.below {w w' : World} {a : Option Addr} {n m : Nat} {M : Nat → Nat → Int} (h : RdM w a n m M) (hb : Below w.heap.size w w') : RdM w' a n m M := by
 intro i hi
 obtain ⟨b, off, g, o, c, rfl, h0, hc, h1⟩ := h i hi
 exact ⟨b, off, g, o, c, rfl, cell_below h0 hb, hc, h1.below hb⟩
/-- The first k rows stand, each in a block behind g. -/
def Rows1 (w : World) (g k n m : Nat) (M : Nat → Nat → Int) : Prop := ∃ f, Cells w g 86 n f ∧ ∀ i, i < k → ∃ h c, f i = .slice (some ⟨h, 0, none⟩) m c ∧ m ≤ c ∧ g < h ∧ RdZ w (some ⟨h, 0, none⟩) m (M i)
theorem Rows1.below {w w' : World} {g k n m : Nat} {M : Nat → Nat → Int} (h : Rows1 w g k n m M) (hb : Below w.heap.size w w') : Rows1 w' g k n m M := by
 obtain ⟨f, h1, h2⟩ := h
 refine ⟨f, h1.below hb, fun i hi => ?_⟩
 obtain ⟨h, c, e, hc, hg, r⟩ := h2 i hi
 exact ⟨h, c, e, hc, hg, r.below hb⟩
theorem RdZ.setX {w : World} {b o n g j : Nat} {v : Value} {z : Nat → Int} (h : RdZ w (some ⟨b, o, none⟩) n z) (hne : b ≠ g) : RdZ (w.setCell ⟨g, j, none⟩ v) (some ⟨b, o, none⟩) n z := by
 intro i hi
 obtain ⟨b', off', e, h0⟩ := h i hi
 simp only [Option.some.injEq, Addr.mk.injEq] at e
 obtain ⟨rfl, rfl, -⟩ := e
 exact ⟨_, _, rfl, by rw [World.cell?_of_block (w := w) (Below.heap_setCell _ _ _ _ (by exact hne))]; exact h0⟩
theorem Rows1.put {w : World} {g k n m : Nat} {M : Nat → Nat → Int} (h : Rows1 w g k n m M) (hk : k < n) {b c : Nat} (hc : m ≤ c) (hb : g < b) (r : RdZ w (some ⟨b, 0, none⟩) m (M k)) : Rows1 (w.setCell ⟨g, k, none⟩ (.slice (some ⟨b, 0, none⟩) m c)) g (k + 1) n m M := by
 obtain ⟨f, h1, h2⟩ := h
 refine ⟨_, h1.set k _, fun i hi => ?_⟩
 by_cases e : i = k
 ·subst e
  exact ⟨b, c, by rw [if_pos rfl], hc, hb, r.setX (by omega)⟩
 ·obtain ⟨h, c', e', hc', hg', r'⟩ := h2 i (by omega)
  exact ⟨h, c', by rw [if_neg e]; exact e', hc', hg', r'.setX (by omega)⟩
theorem RdZ.drew {w : World} {a : Option Addr} {n : Nat} {z : Nat → Int} (h : RdZ w a n z) : RdZ w.drew a n z := h
theorem RdZ.alloc {w : World} {a : Option Addr} {n : Nat} {z : Nat → Int} (h : RdZ w a n z) (o : Obj) : RdZ (w.alloc o) a n z := h.below ((Below.refl _ _).alloc (Nat.le_refl _) o)
end Go.Proofs.YtgihiaaodkkkbaaGreatDoor
namespace Go.Proofs.YtgihiaaodkkkbaaGreatDoor
open Go.RowKit

theorem RdM.alloc {w : World} {a : Option Addr} {n m : Nat} {M : Nat → Nat → Int} (h : RdM w a n m M) (o : Obj) : RdM (w.alloc o) a n m M := h.below ((Below.refl _ _).alloc (Nat.le_refl _) o)
theorem RdM.tail {w : World} {b off n m : Nat} {M : Nat → Nat → Int} (h : RdM w (some ⟨b, off, none⟩) (n + 1) m M) : RdM w (some ⟨b, off + 1, none⟩) n m (fun i => M (i + 1)) := by
 intro i hi
 obtain ⟨b', off', g, o, c, e, h0, hc, h1⟩ := h (i + 1) (by omega)
 simp only [Option.some.injEq, Addr.mk.injEq] at e
 obtain ⟨rfl, rfl, -⟩ := e
 exact ⟨b, off + 1, g, o, c, rfl, by rw [show off + 1 + i = off + (i + 1) by omega]; exact h0, hc, h1⟩
end Go.Proofs.YtgihiaaodkkkbaaGreatDoor
namespace Go.Proofs.YtgihiaaodkkkbaaGreatDoor
open Go.RowKit

end Go.Proofs.YtgihiaaodkkkbaaGreatDoor
