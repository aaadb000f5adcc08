/-
  Sharp, Area2, Ratio2 in numbers' one form, both sides.
-/
import Derived.Deep.CutBlock
import Derived.Test.YtphpoknionnnfaaGreatDoorL41
namespace Go.Proofs.YtphpoknionnnfaaGreatDoor
open Go.RowKit
theorem rq_int (z : Int) : rq ((z : Int) : Rat) = .agg #[.bool (nfZ z), .string (sfZ z), .string ⟨#[1]⟩] := by
 have e : strOf 1 = ⟨#[1]⟩ := by decide +kernel
 simp only [rq, Rat.num_intCast, Rat.den_intCast, e]
end Go.Proofs.YtphpoknionnnfaaGreatDoor
