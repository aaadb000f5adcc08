/-
  What the rows of gussetlaw04 have in common: the tables that are laid, and numbers that came in.
  Rows of gussetlaw05: the table laid; four points that came in.
  Rows of gussetlaw07: the tables that are laid, and a polynomial that came in.
  Rows of gussetlaw07: triangles, halves of triangles, one table more.
-/
import Derived.ChangeOld
import Derived.Deep.Slices
import Derived.LaidMore
import Derived.Lay
import Derived.Lib.LaidTab
import Derived.Lib.SmallJoins
import Derived.OpenShut
import Derived.ProofKit
import Derived.SevenTiedAt
import Derived.Stop.Joined
import Derived.Test.YtbafjmjcepcckaaGreatDoorCards
import Derived.Test.YtbafjmjcepcckaaGreatDoorTie
import Derived.Test.YtbafjmjcepcckaaGreatDoorO41
set_option maxRecDepth 100000
namespace Go.Proofs.YtbafjmjcepcckaaGreatDoor
open Go.ChangeShapes Go.WideShapes Go.ChangeAt Go.RowKit
theorem own : ownKnob Tryz.prog.godebug = none := by kernel_rfl
theorem laidOut : laidOutB Tryz.prog = true := by kernel_rfl
theorem cellsZ : Tryz.prog.cellsOf 24 = 2 := by kernel_rfl
theorem cellsQ : Tryz.prog.cellsOf 26 = 3 := by kernel_rfl
theorem cellsP : Tryz.prog.cellsOf 30 = 6 := by kernel_rfl
theorem cellsB : Tryz.prog.cellsOf 4 = 1 := by kernel_rfl
theorem cellsN : Tryz.prog.cellsOf 22 = 1 := by kernel_rfl
theorem cells8 : Tryz.prog.cellsOf 5 = 1 := by kernel_rfl
theorem cells64 : Tryz.prog.cellsOf 213 = 64 := by kernel_rfl
def tabZ : List Int := Lib.deBruijn64tab.map fun (n : Nat) => (n : Int)
theorem tabD : (Rows.laid_math_bits_deBruijn64tab : DataW Unit) = Lib.tabData .u8 tabZ := by kernel_rfl
end Go.Proofs.YtbafjmjcepcckaaGreatDoor
namespace Go.Proofs.YtbafjmjcepcckaaGreatDoor
open Go.ChangeShapes Go.WideShapes Go.RowKit Go.Deep
theorem open_pc {H : Type} {enc : TypeId × Value → H} {W : World} {base : Nat} {sp : Nat → Bool} {held : Bool} {n : Nat} {cs : List Value} {x : DataW H × List MemPlace} (h : DataW.trod enc Tryz.prog W base sp held n 30 cs = some x) : ∃ n0 s0 d0 n1 s1 d1, cs = [.bool n0, .string s0, .string d0, .bool n1, .string s1, .string d1] := by
 obtain ⟨x0, x1, m, hx, hl, hx0, hx1⟩ := trod_struct2 Tryz.underlying30 h
 obtain ⟨y0, y1, m', hy, hl', hy0, hy1⟩ := trod_struct2 Tryz.underlying26 hx0
 obtain ⟨u0, u1, m'', hu, hl'', hu0, hu1⟩ := trod_struct2 Tryz.underlying26 hx1
 obtain ⟨z0, z1, m3, hz, hl3, hz0, hz1⟩ := trod_struct2 Tryz.underlying24 hy0
 obtain ⟨t0, t1, m4, ht, hl4, ht0, ht1⟩ := trod_struct2 Tryz.underlying24 hu0
 rw [cellsP] at hl
 match cs, hl with
 | [c0, c1, c2, c3, c4, c5], _ =>
  obtain ⟨n0, e0, -⟩ := DataW.trod_bool Tryz.underlying4 hz0
  obtain ⟨s0, e1, -⟩ := DataW.trod_string Tryz.underlying22 hz1
  obtain ⟨d0, e2, -⟩ := DataW.trod_string Tryz.underlying22 hy1
  obtain ⟨n1, e3, -⟩ := DataW.trod_bool Tryz.underlying4 ht0
  obtain ⟨s1, e4, -⟩ := DataW.trod_string Tryz.underlying22 ht1
  obtain ⟨d1, e5, -⟩ := DataW.trod_string Tryz.underlying22 hu1
  rw [cellsB] at e0 e3
  rw [cellsN] at e1 e2 e4 e5
  rw [cellsZ] at e0 e1 e3 e4
  rw [cellsQ] at e0 e1 e2 e3 e4 e5
  simp at e0 e1 e2 e3 e4 e5
  subst e0 e1 e2 e3 e4 e5
  exact ⟨n0, s0, d0, n1, s1, d1, rfl⟩
end Go.Proofs.YtbafjmjcepcckaaGreatDoor
namespace Go.Proofs.YtbafjmjcepcckaaGreatDoor
open Go.ChangeShapes Go.WideShapes Go.RowKit Go.Deep
def laids7 : List (String × DataW Unit) := [("math/bits.deBruijn64tab", Rows.laid_math_bits_deBruijn64tab), ("unicode/utf8.acceptRanges", Rows.laid_unicode_utf8_acceptRanges), ("gusset/poly.nodes", Rows.laid_gusset_poly_nodes), ("gusset/poly.integralWeights", Rows.laid_gusset_poly_integralWeights), ("gusset/poly.loadWeights", Rows.laid_gusset_poly_loadWeights), ("gusset/poly.squareWeights", Rows.laid_gusset_poly_squareWeights), ("unicode/utf8.first", Rows.laid_unicode_utf8_first)]
theorem laidVars_cons {P : Program} {w : World} {n : String} {d : DataW Unit} {r : List (String × DataW Unit)} {ps : List MemPlace} (h : DataW.LaidVars P w ((n, d) :: r) ps) :
  ∃ g t cs fuel p q, P.globalNamed n = some g ∧ (P.globals[g]?).map (·.type) = some t ∧ w.var? P n = some cs ∧ DataW.trod (fun _ => ()) P w 0 (fun _ => true) false fuel t cs.toList = some (d, p) ∧ DataW.LaidVars P w r q := by
 unfold DataW.LaidVars at h
 obtain ⟨g, t, cs, fuel, p, q, h1, h2, h3, h4, h5, -⟩ := h
 exact ⟨g, t, cs, fuel, p, q, h1, h2, h3, h4, h5⟩
theorem tab_of_laid7 {W : World} (h : laidMetH Tryz.prog laids7 W) : Tab W := by
 rw [MakeChecks.laidMetH_plain _ _ _ (by kernel_rfl)] at h
 unfold laidMet laids7 at h
 obtain ⟨ps, h, -⟩ := h
 obtain ⟨g1, t1, cs1, f1, p1, q1, hg1, ht1, hv1, hd1, -⟩ := laidVars_cons h
 clear h
 obtain rfl := Option.some.inj ((show Tryz.prog.globalNamed "math/bits.deBruijn64tab" = some 4 by kernel_rfl).symm.trans hg1)
 obtain rfl := Option.some.inj ((show (Tryz.prog.globals[4]?).map (·.type) = some 213 by kernel_rfl).symm.trans ht1)
 have hT : Lib.TabIs Tryz.prog W "math/bits.deBruijn64tab" .u8 tabZ := by
  unfold Lib.TabIs
  rw [hv1, ← Lib.cells_of_tab Tryz.underlying213 Tryz.underlying5 cells8 cells64 (by rw [← tabD]; exact hd1)]
 intro j hj
 have := hT.cell (show Tryz.prog.globalNamed "math/bits.deBruijn64tab" = some 4 by kernel_rfl) j (by unfold tabZ; simpa using hj)
 rw [show tabZ.getD j 0 = ((Lib.deBruijn64tab.getD j 0 : Nat) : Int) from by unfold tabZ; simp [hj]] at this
 exact this
theorem chunks {n m : Nat} : ∀ {L : List Value} {R : Nat → List Value}, L.length = n * m → (∀ i, i < n → (L.drop (i * m)).take m = R i) → L = (List.range n).flatMap R := by
 induction n with
 | zero =>
  intro L R hl _
  rw [Nat.zero_mul] at hl
  rw [List.length_eq_zero_iff.1 hl]
  rfl
 | succ n ih =>
  intro L R hl h
  have h0 := h 0 (by omega)
  rw [Nat.zero_mul, List.drop_zero] at h0
  have h1 := ih (L := L.drop m) (R := fun i => R (i + 1)) (by rw [List.length_drop, hl, Nat.succ_mul]; omega) (fun i hi => by
   rw [List.drop_drop, ← h (i + 1) (by omega), Nat.succ_mul, Nat.add_comm m])
  rw [List.range_succ_eq_map, List.flatMap_cons, List.flatMap_map, ← h0]
  conv => lhs; rw [← List.take_append_drop m L, h1]
theorem var_heap {P : Program} {W : World} {n : String} {g : Nat} {cs : Array Value} (hg : P.globalNamed n = some g) (hv : W.var? P n = some cs) : ∃ tg fr, W.heap[g]? = some (.cells cs tg fr) := by
 unfold World.var? at hv
 rw [hg] at hv
 simp only [Option.bind_some] at hv
 split at hv
 ·rename_i c t f hh
  injection hv with hv
  subst hv
  exact ⟨t, f, hh⟩
 ·cases hv
theorem tab2 {W : World} {base : Nat} {sp : Nat → Bool} {held : Bool} {fuel n m : Nat} {t e i : TypeId} {L : List Value} {p : List MemPlace} (rows : List (List Int)) (ht : Tryz.prog.underlying t = some (.array n e)) (he : Tryz.prog.underlying e = some (.array m i)) (hi : Tryz.prog.underlying i = some (.int .i64)) (hci : Tryz.prog.cellsOf i = 1) (hce : Tryz.prog.cellsOf e = m) (hct : Tryz.prog.cellsOf t = n * m)
  (h : DataW.trod (fun _ => ()) Tryz.prog W base sp held fuel t L = some (.agg (rows.map fun z => Lib.tabData .i64 z), p)) : L = (List.range n).flatMap fun k => (rows.getD k []).map fun z => Value.int .i64 z := by
 obtain ⟨xs, k, rfl, hx, hl, hn, hq⟩ := DataW.trod_array ht h
 simp only [Prod.mk.injEq, DataW.agg.injEq] at hx
 obtain ⟨hx1, -⟩ := hx
 rw [hct] at hl
 refine chunks hl (fun j hj => ?_)
 have h1 := hq j hj
 rw [hce] at h1
 have hjl : j < xs.length := by omega
 rw [List.getElem?_eq_getElem hjl] at h1
 have h2 : (xs[j]).1 = Lib.tabData .i64 (rows.getD j []) := by
  have hlen : rows.length = n := by have := congrArg List.length hx1; simpa [hn] using this
  have := congrArg (fun l => l[j]?) hx1
  simp only [List.getElem?_map, List.getElem?_eq_getElem hjl, List.getElem?_eq_getElem (show j < rows.length by omega), Option.map_some, Option.some.injEq] at this
  rw [← this, List.getD_eq_getElem?_getD, List.getElem?_eq_getElem (show j < rows.length by omega)]
  rfl
 have h3 : DataW.trod (fun _ => ()) Tryz.prog W base sp held k e ((L.drop (j * m)).take m) = some (Lib.tabData .i64 (rows.getD j []), (xs[j]).2) := by rw [h1, ← h2]
 exact Lib.cells_of_tab he hi hci hce h3
theorem cellsI : Tryz.prog.cellsOf 3 = 1 := by kernel_rfl
theorem cellsA3 : Tryz.prog.cellsOf 93 = 3 := by kernel_rfl
theorem cellsA6 : Tryz.prog.cellsOf 62 = 6 := by kernel_rfl
theorem cellsA63 : Tryz.prog.cellsOf 109 = 6 * 3 := by kernel_rfl
theorem cellsA36 : Tryz.prog.cellsOf 112 = 6 * 6 := by kernel_rfl
theorem ptab_of_laid7 {W : World} (h : laidMetH Tryz.prog laids7 W) : PTab W := by
 rw [MakeChecks.laidMetH_plain _ _ _ (by kernel_rfl)] at h
 unfold laidMet laids7 at h
 obtain ⟨ps, h, -⟩ := h
 obtain ⟨g1, t1, cs1, f1, p1, q1, hg1, ht1, hv1, hd1, h⟩ := laidVars_cons h
 obtain ⟨g2, t2, cs2, f2, p2, q2, hg2, ht2, hv2, hd2, h⟩ := laidVars_cons h
 obtain ⟨g3, t3, cs3, f3, p3, q3, hg3, ht3, hv3, hd3, h⟩ := laidVars_cons h
 obtain ⟨g4, t4, cs4, f4, p4, q4, hg4, ht4, hv4, hd4, h⟩ := laidVars_cons h
 obtain ⟨g5, t5, cs5, f5, p5, q5, hg5, ht5, hv5, hd5, h⟩ := laidVars_cons h
 obtain ⟨g6, t6, cs6, f6, p6, q6, hg6, ht6, hv6, hd6, h⟩ := laidVars_cons h
 clear h
 clear hd1 hd2 hd5 hg1 hg2 hg5 ht1 ht2 ht5 hv1 hv2 hv5
 obtain rfl := Option.some.inj ((show Tryz.prog.globalNamed "gusset/poly.nodes" = some 2 by kernel_rfl).symm.trans hg3)
 obtain rfl := Option.some.inj ((show (Tryz.prog.globals[2]?).map (·.type) = some 109 by kernel_rfl).symm.trans ht3)
 obtain rfl := Option.some.inj ((show Tryz.prog.globalNamed "gusset/poly.integralWeights" = some 0 by kernel_rfl).symm.trans hg4)
 obtain rfl := Option.some.inj ((show (Tryz.prog.globals[0]?).map (·.type) = some 62 by kernel_rfl).symm.trans ht4)
 obtain rfl := Option.some.inj ((show Tryz.prog.globalNamed "gusset/poly.squareWeights" = some 3 by kernel_rfl).symm.trans hg6)
 obtain rfl := Option.some.inj ((show (Tryz.prog.globals[3]?).map (·.type) = some 112 by kernel_rfl).symm.trans ht6)
 have e3 := tab2 (n := 6) (m := 3) [[2, 0, 0], [0, 2, 0], [0, 0, 2], [1, 1, 0], [0, 1, 1], [1, 0, 1]] Tryz.underlying109 Tryz.underlying93 Tryz.underlying3 cellsI cellsA3 cellsA63 hd3
 have e4 := Lib.cells_of_tab (zs := [0, 0, 0, 20, 20, 20]) Tryz.underlying62 Tryz.underlying3 cellsI cellsA6 hd4
 have e6 := tab2 (n := 6) (m := 6) [[6, -1, -1, 0, -4, 0], [-1, 6, -1, 0, 0, -4], [-1, -1, 6, -4, 0, 0], [0, 0, -4, 32, 16, 16], [-4, 0, 0, 16, 32, 16], [0, -4, 0, 16, 16, 32]] Tryz.underlying112 Tryz.underlying62 Tryz.underlying3 cellsI cellsA6 cellsA36 hd6
 obtain ⟨tg3, fr3, k3⟩ := var_heap hg3 hv3
 obtain ⟨tg4, fr4, k4⟩ := var_heap hg4 hv4
 obtain ⟨tg6, fr6, k6⟩ := var_heap hg6 hv6
 have c3 : cs3 = #[.int .i64 2, .int .i64 0, .int .i64 0, .int .i64 0, .int .i64 2, .int .i64 0, .int .i64 0, .int .i64 0, .int .i64 2, .int .i64 1, .int .i64 1, .int .i64 0, .int .i64 0, .int .i64 1, .int .i64 1, .int .i64 1, .int .i64 0, .int .i64 1] := by rw [← Array.toArray_toList (xs := cs3), e3]; rfl
 have c4 : cs4 = #[.int .i64 0, .int .i64 0, .int .i64 0, .int .i64 20, .int .i64 20, .int .i64 20] := by rw [← Array.toArray_toList (xs := cs4), e4]; rfl
 have c6 : cs6 = #[.int .i64 6, .int .i64 (-1), .int .i64 (-1), .int .i64 0, .int .i64 (-4), .int .i64 0, .int .i64 (-1), .int .i64 6, .int .i64 (-1), .int .i64 0, .int .i64 0, .int .i64 (-4), .int .i64 (-1), .int .i64 (-1), .int .i64 6, .int .i64 (-4), .int .i64 0, .int .i64 0, .int .i64 0, .int .i64 0, .int .i64 (-4), .int .i64 32, .int .i64 16, .int .i64 16, .int .i64 (-4), .int .i64 0, .int .i64 0, .int .i64 16, .int .i64 32, .int .i64 16, .int .i64 0, .int .i64 (-4), .int .i64 0, .int .i64 16, .int .i64 16, .int .i64 32] := by rw [← Array.toArray_toList (xs := cs6), e6]; rfl
 rw [c3] at k3
 rw [c4] at k4
 rw [c6] at k6
 exact ⟨⟨tg3, fr3, k3⟩, ⟨tg4, fr4, k4⟩, ⟨tg6, fr6, k6⟩⟩
theorem laid_met7 (os : Os) (args : Array Value) : laidMetH Tryz.prog laids7 ((World.laidAll Tryz.prog os laids7).forCall (fun _ _ => 0) ⟨#[], args, []⟩).memory := by
 rw [MakeChecks.laidMetH_plain _ _ _ (by kernel_rfl)]
 exact laidMet_laidAll _ (by kernel_rfl) (by kernel_rfl)
theorem open_qc7 {H : Type} {enc : TypeId × Value → H} {W : World} {base : Nat} {sp : Nat → Bool} {held : Bool} {n : Nat} {cs : List Value} {x : DataW H × List MemPlace} (h : DataW.trod enc Tryz.prog W base sp held n 26 cs = some x) : ∃ n s d, cs = [.bool n, .string s, .string d] := by
 obtain ⟨y0, y1, m, hx, hl, hy0, hy1⟩ := trod_struct2 Tryz.underlying26 h
 obtain ⟨z0, z1, m', hx', hl', hz0, hz1⟩ := trod_struct2 Tryz.underlying24 hy0
 rw [cellsQ] at hl
 match cs, hl with
 | [c0, c1, c2], _ =>
  obtain ⟨n, e0, -⟩ := DataW.trod_bool Tryz.underlying4 hz0
  obtain ⟨s, e1, -⟩ := DataW.trod_string Tryz.underlying22 hz1
  obtain ⟨d, e2, -⟩ := DataW.trod_string Tryz.underlying22 hy1
  rw [cellsB] at e0
  rw [cellsN] at e1 e2
  rw [cellsZ] at e0 e1
  simp at e0 e1 e2
  subst e0 e1 e2
  exact ⟨n, s, d, rfl⟩
theorem okWide_arr {P : Program} {w : World} {r : Reach} {base : Nat} {t : TypeId} {v : Value} {n : Nat} {e : TypeId} (ht : P.underlying t = some (.array n e)) (h : Value.okWide P w r base t v) : ∃ cs, v = .agg cs ∧ cs.size = P.cellsOf t := by
 simp only [Value.okWide, ht] at h
 obtain ⟨cs, h1, h2, _⟩ := h
 exact ⟨cs, h1, h2⟩
theorem cellsF18 : Tryz.prog.cellsOf 28 = 18 := by kernel_rfl
theorem open_poly {H : Type} {enc : TypeId × Value → H} {W : World} {base : Nat} {sp : Nat → Bool} {held : Bool} {r : Reach} {b0 : Nat} {v : Value} {d : DataW H} {ps : List MemPlace} (hval : Value.okWide Tryz.prog W r b0 28 v) (hd : DataW.Trod enc Tryz.prog W base sp held 28 v d ps) :
  ∃ n0 n1 n2 n3 n4 n5 s0 d0 s1 d1 s2 d2 s3 d3 s4 d4 s5 d5, v = .agg #[.bool n0, .string s0, .string d0, .bool n1, .string s1, .string d1, .bool n2, .string s2, .string d2, .bool n3, .string s3, .string d3, .bool n4, .string s4, .string d4, .bool n5, .string s5, .string d5] := by
 obtain ⟨cs, rfl, hsz⟩ := okWide_arr Tryz.underlying28 hval
 rw [cellsF18] at hsz
 obtain ⟨fuel, hf⟩ := hd
 obtain ⟨xs, k, rfl, hx, hl, hn, hq⟩ := DataW.trod_array Tryz.underlying28 hf
 have hg : ∀ j, j < 6 → ∃ n s d, ((Value.cells (.agg cs)).toList.drop (j * 3)).take 3 = [.bool n, .string s, .string d] := fun j hj => by
  have h1 := hq j hj
  rw [cellsQ, List.getElem?_eq_getElem (show j < xs.length by omega)] at h1
  exact open_qc7 h1
 obtain ⟨n0, s0, d0, e0⟩ := hg 0 (by omega)
 obtain ⟨n1, s1, d1, e1⟩ := hg 1 (by omega)
 obtain ⟨n2, s2, d2, e2⟩ := hg 2 (by omega)
 obtain ⟨n3, s3, d3, e3⟩ := hg 3 (by omega)
 obtain ⟨n4, s4, d4, e4⟩ := hg 4 (by omega)
 obtain ⟨n5, s5, d5, e5⟩ := hg 5 (by omega)
 clear hg hq hx
 obtain ⟨l⟩ := cs
 match l, hsz with
 | [c0, c1, c2, c3, c4, c5, c6, c7, c8, c9, c10, c11, c12, c13, c14, c15, c16, c17], _ =>
  simp [Value.cells] at e0 e1 e2 e3 e4 e5
  obtain ⟨rfl, rfl, rfl⟩ := e0
  obtain ⟨rfl, rfl, rfl⟩ := e1
  obtain ⟨rfl, rfl, rfl⟩ := e2
  obtain ⟨rfl, rfl, rfl⟩ := e3
  obtain ⟨rfl, rfl, rfl⟩ := e4
  obtain ⟨rfl, rfl, rfl⟩ := e5
  exact ⟨n0, n1, n2, n3, n4, n5, s0, d0, s1, d1, s2, d2, s3, d3, s4, d4, s5, d5, rfl⟩
end Go.Proofs.YtbafjmjcepcckaaGreatDoor
namespace Go.Proofs.YtbafjmjcepcckaaGreatDoor
open Go.ChangeShapes Go.WideShapes Go.RowKit Go.Deep
theorem open_t18c {H : Type} {enc : TypeId × Value → H} {W : World} {base : Nat} {sp : Nat → Bool} {held : Bool} {n : Nat} {cs : List Value} {x : DataW H × List MemPlace} (hd : DataW.trod enc Tryz.prog W base sp held n 32 cs = some x) :
  ∃ p0 p1 p2 p3 p4 p5 q0 r0 q1 r1 q2 r2 q3 r3 q4 r4 q5 r5, cs = [.bool p0, .string q0, .string r0, .bool p1, .string q1, .string r1, .bool p2, .string q2, .string r2, .bool p3, .string q3, .string r3, .bool p4, .string q4, .string r4, .bool p5, .string q5, .string r5] := by
 obtain ⟨xs, k, rfl, hx, hl, hn, hq⟩ := DataW.trod_array Tryz.underlying32 hd
 rw [show Tryz.prog.cellsOf 32 = 18 by kernel_rfl] at hl
 have hg : ∀ j, j < 3 → ∃ n0 s0 d0 n1 s1 d1, (cs.drop (j * 6)).take 6 = [.bool n0, .string s0, .string d0, .bool n1, .string s1, .string d1] := fun j hj => by
  have h1 := hq j hj
  rw [cellsP, List.getElem?_eq_getElem (show j < xs.length by omega)] at h1
  exact open_pc h1
 obtain ⟨p0, q0, r0, p1, q1, r1, e0⟩ := hg 0 (by omega)
 obtain ⟨p2, q2, r2, p3, q3, r3, e1⟩ := hg 1 (by omega)
 obtain ⟨p4, q4, r4, p5, q5, r5, e2⟩ := hg 2 (by omega)
 clear hg hq hx
 match cs, hl with
 | [c0, c1, c2, c3, c4, c5, c6, c7, c8, c9, c10, c11, c12, c13, c14, c15, c16, c17], _ =>
  simp at e0 e1 e2
  obtain ⟨rfl, rfl, rfl, rfl, rfl, rfl⟩ := e0
  obtain ⟨rfl, rfl, rfl, rfl, rfl, rfl⟩ := e1
  obtain ⟨rfl, rfl, rfl, rfl, rfl, rfl⟩ := e2
  exact ⟨p0, p1, p2, p3, p4, p5, q0, r0, q1, r1, q2, r2, q3, r3, q4, r4, q5, r5, rfl⟩
theorem open_t18 {H : Type} {enc : TypeId × Value → H} {W : World} {base : Nat} {sp : Nat → Bool} {held : Bool} {r : Reach} {b0 : Nat} {v : Value} {d : DataW H} {ps : List MemPlace} (hval : Value.okWide Tryz.prog W r b0 32 v) (hd : DataW.Trod enc Tryz.prog W base sp held 32 v d ps) :
  ∃ p0 p1 p2 p3 p4 p5 q0 r0 q1 r1 q2 r2 q3 r3 q4 r4 q5 r5, v = .agg #[.bool p0, .string q0, .string r0, .bool p1, .string q1, .string r1, .bool p2, .string q2, .string r2, .bool p3, .string q3, .string r3, .bool p4, .string q4, .string r4, .bool p5, .string q5, .string r5] := by
 obtain ⟨cs, rfl, hsz⟩ := okWide_arr Tryz.underlying32 hval
 obtain ⟨fuel, hf⟩ := hd
 obtain ⟨p0, p1, p2, p3, p4, p5, q0, r0, q1, r1, q2, r2, q3, r3, q4, r4, q5, r5, e⟩ := open_t18c hf
 refine ⟨p0, p1, p2, p3, p4, p5, q0, r0, q1, r1, q2, r2, q3, r3, q4, r4, q5, r5, ?_⟩
 obtain ⟨l⟩ := cs
 have e' : l = _ := e
 rw [e']
theorem ltab_of_laid7 {W : World} (h : laidMetH Tryz.prog laids7 W) : LTab W := by
 rw [MakeChecks.laidMetH_plain _ _ _ (by kernel_rfl)] at h
 unfold laidMet laids7 at h
 obtain ⟨ps, h, -⟩ := h
 obtain ⟨g1, t1, cs1, f1, p1, q1, hg1, ht1, hv1, hd1, h⟩ := laidVars_cons h
 obtain ⟨g2, t2, cs2, f2, p2, q2, hg2, ht2, hv2, hd2, h⟩ := laidVars_cons h
 obtain ⟨g3, t3, cs3, f3, p3, q3, hg3, ht3, hv3, hd3, h⟩ := laidVars_cons h
 obtain ⟨g4, t4, cs4, f4, p4, q4, hg4, ht4, hv4, hd4, h⟩ := laidVars_cons h
 obtain ⟨g5, t5, cs5, f5, p5, q5, hg5, ht5, hv5, hd5, h⟩ := laidVars_cons h
 clear h hd1 hd2 hd3 hd4 hg1 hg2 hg3 hg4 ht1 ht2 ht3 ht4 hv1 hv2 hv3 hv4
 obtain rfl := Option.some.inj ((show Tryz.prog.globalNamed "gusset/poly.loadWeights" = some 1 by kernel_rfl).symm.trans hg5)
 obtain rfl := Option.some.inj ((show (Tryz.prog.globals[1]?).map (·.type) = some 86 by kernel_rfl).symm.trans ht5)
 have e5 := tab2 (n := 3) (m := 6) [[2, -1, -1, 8, 4, 8], [-1, 2, -1, 8, 8, 4], [-1, -1, 2, 4, 8, 8]] Tryz.underlying86 Tryz.underlying62 Tryz.underlying3 cellsI cellsA6 (by kernel_rfl) hd5
 obtain ⟨tg5, fr5, k5⟩ := var_heap hg5 hv5
 have c5 : cs5 = #[.int .i64 2, .int .i64 (-1), .int .i64 (-1), .int .i64 8, .int .i64 4, .int .i64 8, .int .i64 (-1), .int .i64 2, .int .i64 (-1), .int .i64 8, .int .i64 8, .int .i64 4, .int .i64 (-1), .int .i64 (-1), .int .i64 2, .int .i64 4, .int .i64 8, .int .i64 8] := by rw [← Array.toArray_toList (xs := cs5), e5]; rfl
 rw [c5] at k5
 exact ⟨tg5, fr5, k5⟩
end Go.Proofs.YtbafjmjcepcckaaGreatDoor
