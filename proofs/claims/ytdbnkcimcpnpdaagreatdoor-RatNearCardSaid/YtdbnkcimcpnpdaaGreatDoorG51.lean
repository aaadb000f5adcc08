/-
  What the rows of gussetlaw03 have in common: the tables that are laid, and numbers that came in.
-/
import Derived.Below
import Derived.ChangeOld
import Derived.LaidMore
import Derived.Lay
import Derived.Lib.LaidTab
import Derived.OpenShut
import Derived.ProofKit
import Derived.Test.YtdbnkcimcpnpdaaGreatDoorCards
import Derived.Test.YtdbnkcimcpnpdaaGreatDoorTie
import Derived.Test.YtdbnkcimcpnpdaaGreatDoorG33
import Derived.Test.YtdbnkcimcpnpdaaGreatDoorG36
namespace Go.Proofs.YtdbnkcimcpnpdaaGreatDoor
open Go.ChangeShapes Go.WideShapes Go.ChangeAt Go.RowKit

theorem own : ownKnob Tryz.prog.godebug = none := by kernel_rfl
theorem laidOut : laidOutB Tryz.prog = true := by kernel_rfl
theorem cellsZ : Tryz.prog.cellsOf 24 = 2 := by kernel_rfl
theorem cellsQ : Tryz.prog.cellsOf 26 = 3 := by kernel_rfl
theorem cellsB : Tryz.prog.cellsOf 4 = 1 := by kernel_rfl
theorem cellsN : Tryz.prog.cellsOf 22 = 1 := by kernel_rfl
theorem cells8 : Tryz.prog.cellsOf 5 = 1 := by kernel_rfl
theorem cells64 : Tryz.prog.cellsOf 197 = 64 := by kernel_rfl
theorem cells20 : Tryz.prog.cellsOf 186 = 20 := by kernel_rfl
theorem cells1u : Tryz.prog.cellsOf 73 = 1 := by kernel_rfl

/-- What the rows list. -/
def laids : List (String × DataW Unit) := [("math/bits.deBruijn32tab", Rows.laid_math_bits_deBruijn32tab), ("math/bits.deBruijn64tab", Rows.laid_math_bits_deBruijn64tab), ("internal/strconv.uint64pow10", Rows.laid_internal_strconv_uint64pow10), ("unicode/utf8.acceptRanges", Rows.laid_unicode_utf8_acceptRanges), ("unicode/utf8.first", Rows.laid_unicode_utf8_first)]
def tabZ : List Int := Lib.deBruijn64tab.map fun (n : Nat) => (n : Int)
theorem tabD : (Rows.laid_math_bits_deBruijn64tab : DataW Unit) = Lib.tabData .u8 tabZ := by kernel_rfl
theorem tab_of_laid {W : World} (h : laidMetH Tryz.prog laids W) : Tab W := by
 rw [MakeChecks.laidMetH_plain _ _ _ (by kernel_rfl)] at h
 obtain ⟨ps, ⟨g0, t0, cs0, f0, p0, q0, hg0, ht0, hv0, hd0, ⟨g1, t1, cs1, f1, p1, q1, hg1, ht1, hv1, hd1, -⟩, -⟩, -⟩ := h
 obtain rfl := Option.some.inj ((show Tryz.prog.globalNamed "math/bits.deBruijn64tab" = some 4 by kernel_rfl).symm.trans hg1)
 obtain rfl := Option.some.inj ((show (Tryz.prog.globals[4]?).map (·.type) = some 197 by kernel_rfl).symm.trans ht1)
 have hT : Lib.TabIs Tryz.prog W "math/bits.deBruijn64tab" .u8 tabZ := by
  unfold Lib.TabIs
  rw [hv1, ← Lib.cells_of_tab Tryz.underlying197 Tryz.underlying5 cells8 cells64 (by rw [← tabD]; exact hd1)]
 intro j hj
 have := hT.cell (show Tryz.prog.globalNamed "math/bits.deBruijn64tab" = some 4 by kernel_rfl) j (by unfold tabZ; simpa using hj)
 rw [show tabZ.getD j 0 = ((Lib.deBruijn64tab.getD j 0 : Nat) : Int) from by unfold tabZ; simp [hj]] at this
 exact this
theorem tabPD : (Rows.laid_internal_strconv_uint64pow10 : DataW Unit) = Lib.tabData .u64 Lib.pow10Tab := by kernel_rfl
theorem tabP_of_laid {W : World} (h : laidMetH Tryz.prog laids W) : TabP W := by
 rw [MakeChecks.laidMetH_plain _ _ _ (by kernel_rfl)] at h
 obtain ⟨ps, ⟨g0, t0, cs0, f0, p0, q0, hg0, ht0, hv0, hd0, ⟨g1, t1, cs1, f1, p1, q1, hg1, ht1, hv1, hd1, ⟨g2, t2, cs2, f2, p2, q2, hg2, ht2, hv2, hd2, -⟩, -⟩, -⟩, -⟩ := h
 obtain rfl := Option.some.inj ((show Tryz.prog.globalNamed "internal/strconv.uint64pow10" = some 1 by kernel_rfl).symm.trans hg2)
 obtain rfl := Option.some.inj ((show (Tryz.prog.globals[1]?).map (·.type) = some 186 by kernel_rfl).symm.trans ht2)
 unfold TabP Lib.TabIs
 rw [hv2, ← Lib.cells_of_tab Tryz.underlying186 Tryz.underlying73 cells1u cells20 (by rw [← tabPD]; exact hd2)]

set_option maxRecDepth 100000 in
/-- A rational number that came in. -/
theorem open_q {H : Type} {enc : TypeId × Value → H} {W : World} {base : Nat} {sp : Nat → Bool} {held : Bool} {r : Reach} {b0 : Nat} {v : Value} {d : DataW H} {ps : List MemPlace}
  (hval : Value.okWide Tryz.prog W r b0 26 v) (hd : DataW.Trod enc Tryz.prog W base sp held 26 v d ps) : ∃ n s d, v = .agg #[.bool n, .string s, .string d] := by
 obtain ⟨cs, rfl, hsz⟩ := okWide_struct Tryz.underlying26 hval
 rw [cellsQ] at hsz
 obtain ⟨fuel, hf⟩ := hd
 obtain ⟨y0, y1, m, hx, hl, hy0, hy1⟩ := trod_struct2 Tryz.underlying26 hf
 obtain ⟨z0, z1, m', hx', hl', hz0, hz1⟩ := trod_struct2 Tryz.underlying24 hy0
 obtain ⟨l⟩ := cs
 match l, hsz with
 | [c0, c1, c2], _ =>
  obtain ⟨n, e0, -⟩ := DataW.trod_bool Tryz.underlying4 hz0
  obtain ⟨s, e1, -⟩ := DataW.trod_string Tryz.underlying22 hz1
  obtain ⟨d, e2, -⟩ := DataW.trod_string Tryz.underlying22 hy1
  rw [cellsB] at e0
  rw [cellsN] at e1 e2
  rw [cellsZ] at e0 e1
  simp [Value.cells] at e0 e1 e2
  subst e0 e1 e2
  exact ⟨n, s, d, rfl⟩
set_option maxRecDepth 100000 in
/-- The witness's start. -/
theorem laid_met (os : Os) (args : Array Value) : laidMetH Tryz.prog laids ((World.laidAll Tryz.prog os laids).forCall (fun _ _ => 0) ⟨#[], args, []⟩).memory := by
 rw [MakeChecks.laidMetH_plain _ _ _ (by kernel_rfl)]
 exact laidMet_laidAll _ (by kernel_rfl) (by kernel_rfl)
end Go.Proofs.YtdbnkcimcpnpdaaGreatDoor
