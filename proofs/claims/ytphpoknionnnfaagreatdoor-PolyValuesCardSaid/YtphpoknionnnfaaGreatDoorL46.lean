/-
  What the rows of gussetlaw04 have in common: the tables that are laid, and numbers that came in.
-/
import Derived.ArgAppend
import Derived.ChangeOld
import Derived.Deep.Upon
import Derived.LaidMore
import Derived.Lay
import Derived.Lib.AppendIntMem
import Derived.Lib.LaidTab
import Derived.Lib.SliceRun
import Derived.OpenShut
import Derived.ProofKit
import Derived.Shelf.LaysM
import Derived.Shelf.Spec.TrailingZeros
import Derived.Shelf.Strconv.Itoa1
import Derived.Shelf.Strconv.Itoa2
import Derived.Shelf.Strings.BuilderK
import Derived.Shelf.Strings.Prefix
import Derived.Shelf.Strings.Repeat
import Derived.Shelf.Strings.Trim
import Derived.Test.YtphpoknionnnfaaGreatDoorCards
import Derived.Test.YtphpoknionnnfaaGreatDoorTie
import Derived.Test.YtphpoknionnnfaaGreatDoorL27
namespace Go.Proofs.YtphpoknionnnfaaGreatDoor
open Go.ChangeShapes Go.WideShapes Go.ChangeAt Go.RowKit
theorem own : ownKnob Tryz.prog.godebug = none := by kernel_rfl
theorem laidOut : laidOutB Tryz.prog = true := by kernel_rfl
theorem cellsZ : Tryz.prog.cellsOf 24 = 2 := by kernel_rfl
theorem cellsQ : Tryz.prog.cellsOf 26 = 3 := by kernel_rfl
theorem cellsP : Tryz.prog.cellsOf 30 = 6 := by kernel_rfl
theorem cellsB : Tryz.prog.cellsOf 4 = 1 := by kernel_rfl
theorem cellsN : Tryz.prog.cellsOf 22 = 1 := by kernel_rfl
theorem cells8 : Tryz.prog.cellsOf 5 = 1 := by kernel_rfl
theorem cells64 : Tryz.prog.cellsOf 213 = 64 := by kernel_rfl
def tabZ : List Int := Lib.deBruijn64tab.map fun (n : Nat) => (n : Int)
theorem tabD : (Rows.laid_math_bits_deBruijn64tab : DataW Unit) = Lib.tabData .u8 tabZ := by kernel_rfl
set_option maxRecDepth 100000 in
theorem open_p {H : Type} {enc : TypeId × Value → H} {W : World} {base : Nat} {sp : Nat → Bool} {held : Bool} {r : Reach} {b0 : Nat} {v : Value} {d : DataW H} {ps : List MemPlace}
  (hval : Value.okWide Tryz.prog W r b0 30 v) (hd : DataW.Trod enc Tryz.prog W base sp held 30 v d ps) : ∃ n0 s0 d0 n1 s1 d1, v = .agg #[.bool n0, .string s0, .string d0, .bool n1, .string s1, .string d1] := by
 obtain ⟨cs, rfl, hsz⟩ := okWide_struct Tryz.underlying30 hval
 rw [cellsP] at hsz
 obtain ⟨fuel, hf⟩ := hd
 obtain ⟨x0, x1, m, hx, hl, hx0, hx1⟩ := trod_struct2 Tryz.underlying30 hf
 obtain ⟨y0, y1, m', hy, hl', hy0, hy1⟩ := trod_struct2 Tryz.underlying26 hx0
 obtain ⟨u0, u1, m'', hu, hl'', hu0, hu1⟩ := trod_struct2 Tryz.underlying26 hx1
 obtain ⟨z0, z1, m3, hz, hl3, hz0, hz1⟩ := trod_struct2 Tryz.underlying24 hy0
 obtain ⟨t0, t1, m4, ht, hl4, ht0, ht1⟩ := trod_struct2 Tryz.underlying24 hu0
 obtain ⟨l⟩ := cs
 match l, hsz with
 | [c0, c1, c2, c3, c4, c5], _ =>
  obtain ⟨n0, e0, -⟩ := DataW.trod_bool Tryz.underlying4 hz0
  obtain ⟨s0, e1, -⟩ := DataW.trod_string Tryz.underlying22 hz1
  obtain ⟨d0, e2, -⟩ := DataW.trod_string Tryz.underlying22 hy1
  obtain ⟨n1, e3, -⟩ := DataW.trod_bool Tryz.underlying4 ht0
  obtain ⟨s1, e4, -⟩ := DataW.trod_string Tryz.underlying22 ht1
  obtain ⟨d1, e5, -⟩ := DataW.trod_string Tryz.underlying22 hu1
  rw [cellsB] at e0 e3
  rw [cellsN] at e1 e2 e4 e5
  rw [cellsZ] at e0 e1 e3 e4
  rw [cellsQ] at e0 e1 e2 e3 e4 e5
  simp [Value.cells] at e0 e1 e2 e3 e4 e5
  subst e0 e1 e2 e3 e4 e5
  exact ⟨n0, s0, d0, n1, s1, d1, rfl⟩
end Go.Proofs.YtphpoknionnnfaaGreatDoor
