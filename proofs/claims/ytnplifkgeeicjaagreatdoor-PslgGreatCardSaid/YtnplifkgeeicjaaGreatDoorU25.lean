/-
  How a call hands back a struct of a sign and bytes.
-/
import Derived.Laws.ResultCell
import Derived.Laws.Rows
import Derived.Test.YtnplifkgeeicjaaGreatDoorU03
namespace Go.Proofs.YtnplifkgeeicjaaGreatDoor
open Go.RowKit
theorem load24 {w : World} {g : Nat} {x y : Value} (h : Cel w g [x, y] 24) : (loadVar 24 ⟨g, 0, none⟩).run Tryz.prog w = .ok (.agg #[x, y]) w :=
 run_loadVar_row w g 24 24 #[x, y] (0, 0) _ h Tryz.underlying24 rfl (by kernel_rfl)
theorem post_z {fn : Func} {p : Tmp} {R : Ending → World → Prop} {a : Act} {w : World} {g : Nat} {x y : Value} (h : fn.results = #[.cell p 24]) (hp : a.tmps.getD p undef = .pointer (some ⟨g, 0, none⟩)) (hd : a.defers = [])
  (hc : Cel w g [x, y] 24) (hR : R (.returned (.agg #[x, y])) w) : bodyPost Tryz.prog fn R .ret a w := by
 refine ⟨hd, .agg #[x, y], ?_, hR⟩
 exact results_cell_row (P := Tryz.prog) h _ w g 24 #[x, y] (0, 0) _ hp hc Tryz.underlying24 rfl (by kernel_rfl)
theorem post_z1 {fn : Func} {p u : Tmp} {R : Ending → World → Prop} {a : Act} {w : World} {g : Nat} {x y z : Value} (h : fn.results = #[.cell p 24, .tmp u]) (hp : a.tmps.getD p undef = .pointer (some ⟨g, 0, none⟩)) (hu : a.tmps.getD u undef = z) (hd : a.defers = [])
  (hc : Cel w g [x, y] 24) (hR : R (.returned (.tuple #[.agg #[x, y], z])) w) : bodyPost Tryz.prog fn R .ret a w := by
 refine ⟨hd, .tuple #[.agg #[x, y], z], ?_, hR⟩
 rw [results_cell_tmp h, hp, hu]
 simp [asAddr, load24 hc, Result.andThen]
theorem post_zz1 {fn : Func} {p q u : Tmp} {R : Ending → World → Prop} {a : Act} {w : World} {g g' : Nat} {x y x' y' z : Value} (h : fn.results = #[.cell p 24, .cell q 24, .tmp u]) (hp : a.tmps.getD p undef = .pointer (some ⟨g, 0, none⟩)) (hq : a.tmps.getD q undef = .pointer (some ⟨g', 0, none⟩)) (hu : a.tmps.getD u undef = z) (hd : a.defers = [])
  (hc : Cel w g [x, y] 24) (hc' : Cel w g' [x', y'] 24) (hR : R (.returned (.tuple #[.agg #[x, y], .agg #[x', y'], z])) w) : bodyPost Tryz.prog fn R .ret a w := by
 refine ⟨hd, .tuple #[.agg #[x, y], .agg #[x', y'], z], ?_, hR⟩
 have hp' : a.tmps[p]?.getD undef = .pointer (some ⟨g, 0, none⟩) := by simpa using hp
 have hq' : a.tmps[q]?.getD undef = .pointer (some ⟨g', 0, none⟩) := by simpa using hq
 have hu' : a.tmps[u]?.getD undef = z := by simpa using hu
 simp only [results, h]
 simp [Sem.run_bind, Result.andThen, hp', hq', hu', asAddr, load24 hc, load24 hc']
end Go.Proofs.YtnplifkgeeicjaaGreatDoor
