/-
  How a call hands back a struct of a sign and bytes.
-/
import Derived.Laws.ResultCell
import Derived.Laws.Rows
import Derived.Test.YtafikdacdfkkhaaGreatDoorG04
namespace Go.Proofs.YtafikdacdfkkhaaGreatDoor
open Go.RowKit

theorem load24 {w : World} {g : Nat} {x y : Value} (h : Cel w g [x, y] 24) : (loadVar 24 ⟨g, 0, none⟩).run Tryz.prog w = .ok (.agg #[x, y]) w :=
 run_loadVar_row w g 24 24 #[x, y] (0, 0) _ h Tryz.underlying24 rfl (by kernel_rfl)

theorem post_z {fn : Func} {p : Tmp} {R : Ending → World → Prop} {a : Act} {w : World} {g : Nat} {x y : Value} (h : fn.results = #[.cell p 24]) (hp : a.tmps.getD p undef = .pointer (some ⟨g, 0, none⟩)) (hd : a.defers = [])
  (hc : Cel w g [x, y] 24) (hR : R (.returned (.agg #[x, y])) w) : bodyPost Tryz.prog fn R .ret a w := by
 refine ⟨hd, .agg #[x, y], ?_, hR⟩
 exact results_cell_row (P := Tryz.prog) h _ w g 24 #[x, y] (0, 0) _ hp hc Tryz.underlying24 rfl (by kernel_rfl)
theorem post_z1 {fn : Func} {p u : Tmp} {R : Ending → World → Prop} {a : Act} {w : World} {g : Nat} {x y z : Value} (h : fn.results = #[.cell p 24, .tmp u]) (hp : a.tmps.getD p undef = .pointer (some ⟨g, 0, none⟩)) (hu : a.tmps.getD u undef = z) (hd : a.defers = [])
  (hc : Cel w g [x, y] 24) (hR : R (.returned (.tuple #[.agg #[x, y], z])) w) : bodyPost Tryz.prog fn R .ret a w := by
 refine ⟨hd, .tuple #[.agg #[x, y], z], ?_, hR⟩
 rw [results_cell_tmp h, hp, hu]
 simp [asAddr, load24 hc, Result.andThen]
end Go.Proofs.YtafikdacdfkkhaaGreatDoor
