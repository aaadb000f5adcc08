/-
  What the rows of gussetlaw03 have in common: the tables that are laid, and numbers that came in.
-/
import Derived.ChangeOld
import Derived.LaidMore
import Derived.Lay
import Derived.Lib.LaidTab
import Derived.OpenShut
import Derived.ProofKit
import Derived.Test.YtnplifkgeeicjaaGreatDoorCards
import Derived.Test.YtnplifkgeeicjaaGreatDoorTie
import Derived.Test.YtnplifkgeeicjaaGreatDoorU39
namespace Go.Proofs.YtnplifkgeeicjaaGreatDoor
open Go.ChangeShapes Go.WideShapes Go.ChangeAt Go.RowKit
theorem own : ownKnob Tryz.prog.godebug = none := by kernel_rfl
theorem cells8 : Tryz.prog.cellsOf 5 = 1 := by kernel_rfl
theorem cells64 : Tryz.prog.cellsOf 328 = 64 := by kernel_rfl
theorem cells20 : Tryz.prog.cellsOf 313 = 20 := by kernel_rfl
theorem cells1u : Tryz.prog.cellsOf 170 = 1 := by kernel_rfl
def tabZ : List Int := Lib.deBruijn64tab.map fun (n : Nat) => (n : Int)
theorem tabD : (Rows.laid_math_bits_deBruijn64tab : DataW Unit) = Lib.tabData .u8 tabZ := by kernel_rfl
theorem tabPD : (Rows.laid_internal_strconv_uint64pow10 : DataW Unit) = Lib.tabData .u64 Lib.pow10Tab := by kernel_rfl
end Go.Proofs.YtnplifkgeeicjaaGreatDoor
