/-
  Package rat: sum, walked.
  Package rat: sum and product, of numbers that may be.
  Package rat: difference, quotient.
  Package rat: Add, Sub, Mul, Div, of any two numbers.
  Package rat: Add, Sub, Mul where a number may not be.
-/
import Derived.ArgAppend
import Derived.Deep.CutRange
import Derived.Deep.DeepFit
import Derived.Deep.Upon
import Derived.Lib.SliceRun
import Derived.Shelf.Spec.TrailingZeros
import Derived.Shelf.Strconv.Itoa1
import Derived.Shelf.Strings.BuilderK
import Derived.Shelf.Strings.Prefix
import Derived.Shelf.Strings.Repeat
import Derived.Shelf.Strings.Trim
import Derived.Test.YtgihiaaodkkkbaaGreatDoorK23
namespace Go.Proofs.YtgihiaaodkkkbaaGreatDoor
open Go.RowKit

end Go.Proofs.YtgihiaaodkkkbaaGreatDoor
namespace Go.Proofs.YtgihiaaodkkkbaaGreatDoor
open Go.RowKit

/-- Signs and bytes behind names; those of no sign apart. -/
theorem named0 : ∃ (nf : Int → Bool) (sf : Int → ByteArray), (∀ z, zI z = .agg #[.bool (nf z), .string (sf z)]) ∧ (∀ z, OkZ (nf z) (sf z)) ∧ (∀ z k, Bd z k → (sf z).size ≤ k) ∧ (∀ z, zOf (nf z) (sf z) = z) ∧ (∀ z, natOf (sf z) = z.natAbs) ∧ (∀ m : Nat, nf (m : Int) = false) ∧ (∀ m : Nat, sf (m : Int) = strOf m) ∧ (∀ m : Nat, natOf (sf (m : Int)) = m) ∧ (∀ m : Nat, zI (m : Int) = .agg #[.bool false, .string (sf (m : Int))]) := by
 obtain ⟨nf, sf, h1, h2, h3, h4, -, h6, h7, h8⟩ := named
 have hn : ∀ m : Nat, nf (m : Int) = false := fun m => by rw [h7]; simp
 exact ⟨nf, sf, h1, h2, h3, h4, h6, hn, fun m => by rw [h8]; rfl, fun m => by rw [h6]; rfl, fun m => by rw [h1, hn]⟩
theorem bd_nat {s : ByteArray} {k : Nat} (h : s.size ≤ k) : Bd ((natOf s : Nat) : Int) k := bd_zOf (n := false) h
theorem zOf_false (s : ByteArray) : zOf false s = ((natOf s : Nat) : Int) := rfl

end Go.Proofs.YtgihiaaodkkkbaaGreatDoor
namespace Go.Proofs.YtgihiaaodkkkbaaGreatDoor
open Go.RowKit

end Go.Proofs.YtgihiaaodkkkbaaGreatDoor
namespace Go.Proofs.YtgihiaaodkkkbaaGreatDoor
open Go.RowKit

end Go.Proofs.YtgihiaaodkkkbaaGreatDoor
namespace Go.Proofs.YtgihiaaodkkkbaaGreatDoor
open Go.RowKit

end Go.Proofs.YtgihiaaodkkkbaaGreatDoor
