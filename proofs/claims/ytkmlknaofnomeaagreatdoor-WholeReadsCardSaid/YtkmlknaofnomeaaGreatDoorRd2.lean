/-
  gussetlaw02.WholeReads.
-/
import Derived.Test.YtkmlknaofnomeaaGreatDoorRd1
import Derived.Test.YtkmlknaofnomeaaGreatDoorG35
import Derived.Test.YtkmlknaofnomeaaGreatDoorG26
namespace Go.Proofs.YtkmlknaofnomeaaGreatDoor
open Go.RowKit Go.Shelf

theorem reads_law (s : ByteArray) (n : Int) (h1 : -9223372036854775808 ≤ n) (h2 : n ≤ 9223372036854775807) (w : World) (hT : Tab w) :
    Calls Tryz.prog 5 #[.string s, .int .i64 n] w fun e w' => e = .returned (.bool true) ∧ Below w.heap.size w w' := by
  obtain ⟨nf, sf, hf, -⟩ := named
  obtain ⟨z, E, P1, P2⟩ := parse_both s
  rw [hf z] at P1 P2
  refine reads_walk s (sf z) (sf n) (nf z) (nf n) n E w hT P1 P2 ?_ ?_
  · intro w
    have := zof_any n h1 (by omega) w
    rwa [hf n] at this
  · intro w
    have := rof_any n h1 (by omega) w
    rwa [hf n] at this
end Go.Proofs.YtkmlknaofnomeaaGreatDoor
