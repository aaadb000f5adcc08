/-
  Package vec: Plus, Minus, Scale, of any points.
  Package vec: Cross, Dot, Norm2, of any points.
  gussetlaw04: live.
-/
import Derived.Laws.AppendOwnNone
import Derived.Lib.AppendZeros
import Derived.Lib.BufferGrow
import Derived.Test.YtgihiaaodkkkbaaGreatDoorK31
namespace Go.Proofs.YtgihiaaodkkkbaaGreatDoor
open Go.RowKit

end Go.Proofs.YtgihiaaodkkkbaaGreatDoor
namespace Go.Proofs.YtgihiaaodkkkbaaGreatDoor
open Go.RowKit

end Go.Proofs.YtgihiaaodkkkbaaGreatDoor
namespace Go.Proofs.YtgihiaaodkkkbaaGreatDoor
open Go.RowKit

theorem okq_int (z : Int) : OkQ (nfZ z) (sfZ z) ⟨#[1]⟩ := ⟨okZ_nz z, by rw [← strOf_one]; exact okS_strOf 1, by rw [natOf_one]; omega, by rw [natOf_one]; exact Nat.gcd_one_right _⟩
theorem qOf_int (z : Int) : qOf (nfZ z) (sfZ z) ⟨#[1]⟩ = (z : Rat) := by
 unfold qOf
 rw [zOf_nz, natOf_one, Rat.mkRat_one]
theorem sz_int (z : Int) (h1 : -200 ≤ z) (h2 : z ≤ 200) : (sfZ z).size ≤ 170 ∧ (⟨#[1]⟩ : ByteArray).size ≤ 170 := by
 refine ⟨Nat.le_trans (Bd.size (k := 1) ?_) (by omega), by decide⟩
 unfold Bd
 simp
 omega
theorem chk_int (z : Int) (h1 : -200 ≤ z) (h2 : z ≤ 200) : chkq (nfZ z) (sfZ z) ⟨#[1]⟩ = 0 := chkq_ok (okq_int z) (by have := (sz_int z h1 h2).1; omega) (by decide)
end Go.Proofs.YtgihiaaodkkkbaaGreatDoor
