/-
  What the rows of gussetlaw04 have in common: the tables that are laid, and numbers that came in.
-/
import Derived.ArgAppend
import Derived.ChangeOld
import Derived.Deep.CutRange
import Derived.Deep.DeepFit
import Derived.Deep.Upon
import Derived.LaidMore
import Derived.Lay
import Derived.Lib.AppendIntMem
import Derived.Lib.LaidTab
import Derived.Lib.SliceRun
import Derived.OpenShut
import Derived.ProofKit
import Derived.Shelf.LaysM
import Derived.Shelf.Strconv.Itoa2
import Derived.Test.YtiiigiggcbbgjaaGreatDoorCards
import Derived.Test.YtiiigiggcbbgjaaGreatDoorTie
import Derived.Test.YtiiigiggcbbgjaaGreatDoorK28
namespace Go.Proofs.YtiiigiggcbbgjaaGreatDoor
open Go.ChangeShapes Go.WideShapes Go.ChangeAt Go.RowKit
theorem own : ownKnob Tryz.prog.godebug = none := by kernel_rfl
theorem laidOut : laidOutB Tryz.prog = true := by kernel_rfl
theorem cellsZ : Tryz.prog.cellsOf 24 = 2 := by kernel_rfl
theorem cellsQ : Tryz.prog.cellsOf 26 = 3 := by kernel_rfl
theorem cellsP : Tryz.prog.cellsOf 28 = 6 := by kernel_rfl
theorem cellsB : Tryz.prog.cellsOf 4 = 1 := by kernel_rfl
theorem cellsN : Tryz.prog.cellsOf 22 = 1 := by kernel_rfl
theorem cells8 : Tryz.prog.cellsOf 5 = 1 := by kernel_rfl
theorem cells64 : Tryz.prog.cellsOf 221 = 64 := by kernel_rfl
def laids : List (String × DataW Unit) := [("math/bits.deBruijn64tab", Rows.laid_math_bits_deBruijn64tab), ("unicode/utf8.acceptRanges", Rows.laid_unicode_utf8_acceptRanges), ("unicode/utf8.first", Rows.laid_unicode_utf8_first)]
def tabZ : List Int := Lib.deBruijn64tab.map fun (n : Nat) => (n : Int)
theorem tabD : (Rows.laid_math_bits_deBruijn64tab : DataW Unit) = Lib.tabData .u8 tabZ := by kernel_rfl
theorem tab_of_laid {W : World} (h : laidMetH Tryz.prog laids W) : Tab W := by
 rw [MakeChecks.laidMetH_plain _ _ _ (by kernel_rfl)] at h
 obtain ⟨ps, ⟨g1, t1, cs1, f1, p1, q1, hg1, ht1, hv1, hd1, -⟩, -⟩ := h
 obtain rfl := Option.some.inj ((show Tryz.prog.globalNamed "math/bits.deBruijn64tab" = some 1 by kernel_rfl).symm.trans hg1)
 obtain rfl := Option.some.inj ((show (Tryz.prog.globals[1]?).map (·.type) = some 221 by kernel_rfl).symm.trans ht1)
 have hT : Lib.TabIs Tryz.prog W "math/bits.deBruijn64tab" .u8 tabZ := by
  unfold Lib.TabIs
  rw [hv1, ← Lib.cells_of_tab Tryz.underlying221 Tryz.underlying5 cells8 cells64 (by rw [← tabD]; exact hd1)]
 intro j hj
 have := hT.cell (show Tryz.prog.globalNamed "math/bits.deBruijn64tab" = some 1 by kernel_rfl) j (by unfold tabZ; simpa using hj)
 rw [show tabZ.getD j 0 = ((Lib.deBruijn64tab.getD j 0 : Nat) : Int) from by unfold tabZ; simp [hj]] at this
 exact this
set_option maxRecDepth 100000 in
theorem laid_met (os : Os) (args : Array Value) : laidMetH Tryz.prog laids ((World.laidAll Tryz.prog os laids).forCall (fun _ _ => 0) ⟨#[], args, []⟩).memory := by
 rw [MakeChecks.laidMetH_plain _ _ _ (by kernel_rfl)]
 exact laidMet_laidAll _ (by kernel_rfl) (by kernel_rfl)
end Go.Proofs.YtiiigiggcbbgjaaGreatDoor
