/-
  Words: what a call answers.
-/
import Derived.Below
import Derived.Test.YtnplifkgeeicjaaGreatDoorProg
namespace Go.Proofs.YtnplifkgeeicjaaGreatDoor
open Go.RowKit
abbrev Re (w : World) (v : Value) : Ending → World → Prop := fun e w' => e = .returned v ∧ Below w.heap.size w w'
theorem un {N M : Nat} {v w v' w' : World} (b : Below N v v') (h : Below N v v' → Below M w w' := by exact fun b => ⟨b.os, b.tape, b.output, b.size, b.block⟩) : Below M w w' := h b
end Go.Proofs.YtnplifkgeeicjaaGreatDoor
