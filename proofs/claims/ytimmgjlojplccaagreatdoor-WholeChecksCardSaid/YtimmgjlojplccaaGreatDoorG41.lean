/-
  The powers of ten that strconv lays.
-/
import Derived.Test.YtimmgjlojplccaaGreatDoorG27
import Derived.Test.YtimmgjlojplccaaGreatDoorG39
namespace Go.Proofs.YtimmgjlojplccaaGreatDoor
open Go.ChangeShapes Go.WideShapes Go.ChangeAt Go.RowKit

theorem cells20 : Tryz.prog.cellsOf 150 = 20 := by kernel_rfl
theorem cells1u : Tryz.prog.cellsOf 56 = 1 := by kernel_rfl
theorem tabPD : (Rows.laid_internal_strconv_uint64pow10 : DataW Unit) = Lib.tabData .u64 Lib.pow10Tab := by kernel_rfl
theorem tabP_of_laid {W : World} (h : laidMetH Tryz.prog laids W) : TabP W := by
  rw [MakeChecks.laidMetH_plain _ _ _ (by kernel_rfl)] at h
  obtain ⟨ps, ⟨g0, t0, cs0, f0, p0, q0, hg0, ht0, hv0, hd0, ⟨g1, t1, cs1, f1, p1, q1, hg1, ht1, hv1, hd1, ⟨g2, t2, cs2, f2, p2, q2, hg2, ht2, hv2, hd2, -⟩, -⟩, -⟩, -⟩ := h
  obtain rfl := Option.some.inj ((show Tryz.prog.globalNamed "internal/strconv.uint64pow10" = some 3 by kernel_rfl).symm.trans hg2)
  obtain rfl := Option.some.inj ((show (Tryz.prog.globals[3]?).map (·.type) = some 150 by kernel_rfl).symm.trans ht2)
  unfold TabP Lib.TabIs
  rw [hv2, ← Lib.cells_of_tab Tryz.underlying150 Tryz.underlying56 cells1u cells20 (by rw [← tabPD]; exact hd2)]
end Go.Proofs.YtimmgjlojplccaaGreatDoor
