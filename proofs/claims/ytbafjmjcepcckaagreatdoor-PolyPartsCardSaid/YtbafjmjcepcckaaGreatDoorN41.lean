/-
  Rows of gussetlaw05: the table laid; four points that came in.
-/
import Derived.Deep.Slices
import Derived.Laws.AppendOwnNone
import Derived.Lib.AppendZeros
import Derived.Lib.BufferGrow
import Derived.Lib.SmallJoins
import Derived.Test.YtbafjmjcepcckaaGreatDoorN26
import Derived.Test.YtbafjmjcepcckaaGreatDoorN40
namespace Go.Proofs.YtbafjmjcepcckaaGreatDoor
open Go.ChangeShapes Go.WideShapes Go.RowKit Go.Deep
set_option maxRecDepth 100000 in
theorem open_pc {H : Type} {enc : TypeId × Value → H} {W : World} {base : Nat} {sp : Nat → Bool} {held : Bool} {n : Nat} {cs : List Value} {x : DataW H × List MemPlace} (h : DataW.trod enc Tryz.prog W base sp held n 30 cs = some x) : ∃ n0 s0 d0 n1 s1 d1, cs = [.bool n0, .string s0, .string d0, .bool n1, .string s1, .string d1] := by
 obtain ⟨x0, x1, m, hx, hl, hx0, hx1⟩ := trod_struct2 Tryz.underlying30 h
 obtain ⟨y0, y1, m', hy, hl', hy0, hy1⟩ := trod_struct2 Tryz.underlying26 hx0
 obtain ⟨u0, u1, m'', hu, hl'', hu0, hu1⟩ := trod_struct2 Tryz.underlying26 hx1
 obtain ⟨z0, z1, m3, hz, hl3, hz0, hz1⟩ := trod_struct2 Tryz.underlying24 hy0
 obtain ⟨t0, t1, m4, ht, hl4, ht0, ht1⟩ := trod_struct2 Tryz.underlying24 hu0
 rw [cellsP] at hl
 match cs, hl with
 | [c0, c1, c2, c3, c4, c5], _ =>
  obtain ⟨n0, e0, -⟩ := DataW.trod_bool Tryz.underlying4 hz0
  obtain ⟨s0, e1, -⟩ := DataW.trod_string Tryz.underlying22 hz1
  obtain ⟨d0, e2, -⟩ := DataW.trod_string Tryz.underlying22 hy1
  obtain ⟨n1, e3, -⟩ := DataW.trod_bool Tryz.underlying4 ht0
  obtain ⟨s1, e4, -⟩ := DataW.trod_string Tryz.underlying22 ht1
  obtain ⟨d1, e5, -⟩ := DataW.trod_string Tryz.underlying22 hu1
  rw [cellsB] at e0 e3
  rw [cellsN] at e1 e2 e4 e5
  rw [cellsZ] at e0 e1 e3 e4
  rw [cellsQ] at e0 e1 e2 e3 e4 e5
  simp at e0 e1 e2 e3 e4 e5
  subst e0 e1 e2 e3 e4 e5
  exact ⟨n0, s0, d0, n1, s1, d1, rfl⟩
end Go.Proofs.YtbafjmjcepcckaaGreatDoor
