/-
  gussetlaw04: VecScales, walked.
  gussetlaw04: VecScales, of any point and number.
-/
import Derived.Test.YtlpafjbbeljbhaaGreatDoorG35
import Derived.Test.YtlpafjbbeljbhaaGreatDoorG39
import Derived.Test.YtlpafjbbeljbhaaGreatDoorG40
namespace Go.Proofs.YtlpafjbbeljbhaaGreatDoor
open Go.RowKit Go.Shelf

end Go.Proofs.YtlpafjbbeljbhaaGreatDoor
namespace Go.Proofs.YtlpafjbbeljbhaaGreatDoor
open Go.RowKit Go.Shelf

theorem rchk4_any (n0 n1 : Bool) (s0 d0 s1 d1 : ByteArray) (w : World) (z0 : s0.size ≤ 8000) (y0 : d0.size ≤ 8000) (z1 : s1.size ≤ 8000) (y1 : d1.size ≤ 8000) :
  Calls Tryz.prog 17 #[.agg #[.bool n0, .string s0, .string d0, .bool n1, .string s1, .string d1]] w fun e w' => e = .returned (.int .i64 (twoq n0 s0 d0 n1 s1 d1 : Nat)) ∧ Below w.heap.size w w' :=
 rchk4_walk n0 n1 s0 d0 s1 d1 _ w (fun w1 => bothq_any n0 n1 s0 d0 s1 d1 w1 z0 y0 z1 y1)
theorem sh_true {s d : ByteArray} (h : sh s d = true) : s.size ≤ 80 ∧ d.size ≤ 80 := of_decide_eq_true h
end Go.Proofs.YtlpafjbbeljbhaaGreatDoor
