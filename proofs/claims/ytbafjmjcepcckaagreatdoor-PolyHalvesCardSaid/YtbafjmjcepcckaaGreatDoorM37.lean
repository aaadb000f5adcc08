/-
  Rows of numbers of package span: made, filled one by one, read.
  Package poly: a polynomial made whole, at a place, walked.
  Package span: a number in its one form.
  gussetlaw06: ConsNear holds.
  How long the numbers of a way and of a centre are.
  Package poly: Check, clearedOf, walked.
  Package span: whether points may be asked.
  Package span: Shared, walked.
-/
import Derived.Test.YtbafjmjcepcckaaGreatDoorM35
import Derived.Test.YtbafjmjcepcckaaGreatDoorM36
set_option maxRecDepth 100000
set_option maxHeartbeats 16000000
namespace Go.Proofs.YtbafjmjcepcckaaGreatDoor
open Go.RowKit
def fnn (m : Nat → Bool) (v : Nat → Value) (k i : Nat) : Value := if i / 2 < k then (if i % 2 = 0 then .bool (m (i / 2)) else v (i / 2)) else (if i % 2 = 0 then .bool false else .slice none 0 0)
theorem fnn_0 (m : Nat → Bool) (v : Nat → Value) {k j : Nat} (h : j < k) : fnn m v k (j * 2) = .bool (m j) := by
 unfold fnn
 rw [show j * 2 / 2 = j by omega, if_pos h, if_pos (by omega)]
theorem fnn_1 (m : Nat → Bool) (v : Nat → Value) {k j : Nat} (h : j < k) : fnn m v k (j * 2 + 1) = v j := by
 unfold fnn
 rw [show (j * 2 + 1) / 2 = j by omega, if_pos h, if_neg (by omega)]
theorem cellsN0 : Value.cells (.agg #[.bool false, .slice none 0 0]) = #[.bool false, .slice none 0 0] := by kernel_rfl
theorem run_mkN (n : Nat) (hn : n ≤ 1000000) (w : World) :
  ∃ w', (Instr.makeSlice 65 (.int .i64 n) (.int .i64 n)).run Tryz.prog w = .ok (.slice (some ⟨w.heap.size, 0, none⟩) n n) w' ∧ Cells w' w.heap.size 68 (n * 2) (fnn (fun _ => false) (fun _ => .slice none 0 0) 0) ∧ Below w.heap.size w w' := by
 obtain ⟨i0, hi, hz0, hz1, hz2⟩ := info_parts (show (Tryz.prog.info? 68).map (fun i => (i.zero, i.size, i.bytes)) = some (some (.agg #[.bool false, .slice none 0 0]), 2, 32) by kernel_rfl)
 have h := run_make (P := Tryz.prog) w 65 68 i0 (.agg #[.bool false, .slice none 0 0]) Tryz.underlying65 hi hz0 .i64 .i64 n n (by omega) (by omega) (by rw [hz2]; omega) (by omega)
 rw [hz1, cellsN0, Int.toNat_natCast] at h
 refine ⟨_, h, ⟨_, heap_alloc_new w _, size_madeCells _ _, fun i hi => ?_⟩, (Below.refl _ _).alloc (Nat.le_refl _) _⟩
 have e : (madeCells #[Value.bool false, .slice none 0 0] (n * 2))[i]? = some (#[Value.bool false, .slice none 0 0][i % 2]!) := by
  simp [madeCells, hi]
 rw [e]
 unfold fnn
 rw [if_neg (by omega)]
 by_cases e0 : i % 2 = 0
 ·rw [if_pos e0, e0]; rfl
 ·rw [if_neg e0, show i % 2 = 1 by omega]; rfl
theorem wpList_mkN {w : World} {ops : Array Oper} {rest : List Oper} {o : Oper} {a : Act} {Q : Exit → Act → World → Prop}
  (hg : o.guard = none) (l c : Operand) (hop : o.op = Op.makeSlice 65 l c) (L : Int) (n : Nat) (hl : a.eval l = .int .i64 L) (hc : a.eval c = .int .i64 L) (hL : L = (n : Int)) (hn : n ≤ 1000000)
  (hK : ∀ w1, Cells w1 w.heap.size 68 (n * 2) (fnn (fun _ => false) (fun _ => .slice none 0 0) 0) → Below w.heap.size w w1 → wpList Tryz.prog ops Q rest (a.put o.dst (.slice (some ⟨w.heap.size, 0, none⟩) n n)) w1) :
  wpList Tryz.prog ops Q (o :: rest) a w := by
 refine wpList_plain hg fun K hK' => ?_
 subst hL
 obtain ⟨w', hrun, hc', hb⟩ := run_mkN n hn w
 unfold Oper.wp
 simp [execOp, hop, hl, hc, hrun, Result.andThen]
 exact hK' _ _ (hK _ hc' hb)
theorem Cells.fill {w : World} {g n : Nat} {m : Nat → Bool} {v : Nat → Value} {k : Nat} (h : Cells w g 68 (n * 2) (fnn m v k)) (x : Bool) (y : Value) :
  Cells ((w.setCell ⟨g, k * 2, none⟩ (.bool x)).setCell ⟨g, k * 2 + 1, none⟩ y) g 68 (n * 2) (fnn (fun j => if j = k then x else m j) (fun j => if j = k then y else v j) (k + 1)) := by
 refine ((h.set (k * 2) (.bool x)).set (k * 2 + 1) y).congr fun i _ => ?_
 unfold fnn
 by_cases h1 : i = k * 2 + 1
 ·rw [if_pos h1, h1, show (k * 2 + 1) / 2 = k by omega, if_pos (by omega), if_neg (by omega)]
  simp
 ·rw [if_neg h1]
  by_cases h0 : i = k * 2
  ·rw [if_pos h0, h0, show k * 2 / 2 = k by omega, if_pos (by omega), if_pos (by omega)]
   simp
  ·rw [if_neg h0]
   by_cases hk : i / 2 < k
   ·have e : ¬ i / 2 = k := by omega
    rw [if_pos hk, if_pos (show i / 2 < k + 1 by omega)]
    simp only [e, if_false]
   ·rw [if_neg hk, if_neg (show ¬ i / 2 < k + 1 by omega)]
theorem NV.setC {w : World} {n : Bool} {u : Value} {z : Int} {L g N k : Nat} {m : Nat → Bool} {v : Nat → Value} (h : NV w n u z L) (hc : Cells w g 68 N (fnn m v k)) (hv : ∀ j, j < k → ∃ a l c, v j = .slice a l c) (x y : Value) (i : Nat) : NV ((w.setCell ⟨g, i, none⟩ x).setCell ⟨g, i + 1, none⟩ y) n u z L := by
 obtain ⟨q, r, h1, h2⟩ := h
 have rx : RdX w u (M.digs B64 q) g := by
  obtain ⟨a, cap, rfl, hcap, r⟩ := r
  refine ⟨a, cap, rfl, hcap, fun j hj => ?_⟩
  obtain ⟨b, off, rfl, hcell⟩ := r j hj
  refine ⟨b, off, rfl, ?_, hcell⟩
  intro hbg
  subst hbg
  have hl : off + j < N := by
   obtain ⟨cs, hh, hs, -⟩ := hc
   rcases Nat.lt_or_ge (off + j) N with hq | hq
   ·exact hq
   ·have e : cs[off + j]? = some (.int .u64 (lm (M.digs B64 q) j : Nat)) := by simpa [World.cell?, hh] using hcell
    rw [Array.getElem?_eq_none (by omega)] at e
    cases e
  rw [hc.cell hl] at hcell
  unfold fnn at hcell
  split at hcell
  ·rename_i hk
   split at hcell
   ·cases hcell
   ·obtain ⟨a', l', c', e⟩ := hv _ hk
    rw [e] at hcell
    cases hcell
  ·split at hcell <;> cases hcell
 exact ⟨q, ((rx.setX i x).setX (i + 1) y).rd, h1, h2⟩
theorem post_tn {fn : Func} {p u : Tmp} {R : Ending → World → Prop} {a : Act} {w : World} {g : Nat} {x y v : Value} (h : fn.results = #[.tmp u, .cell p 68]) (hp : a.tmps.getD p undef = .pointer (some ⟨g, 0, none⟩)) (hu : a.tmps.getD u undef = v) (hd : a.defers = [])
  (hc : Cel w g [x, y] 68) (hR : R (.returned (.tuple #[v, .agg #[x, y]])) w) : bodyPost Tryz.prog fn R .ret a w := by
 refine ⟨hd, .tuple #[v, .agg #[x, y]], ?_, hR⟩
 have hp' : a.tmps[p]?.getD undef = .pointer (some ⟨g, 0, none⟩) := by simpa using hp
 have hu' : a.tmps[u]?.getD undef = v := by simpa using hu
 simp only [results, h]
 simp [Result.andThen, hp', hu', asAddr, load_n hc]
def NVs (w : World) (m : Nat → Bool) (v : Nat → Value) (Z : Nat → Int) (L k : Nat) : Prop := ∀ q, q < k → NV w (m q) (v q) (Z q) L ∧ ∃ a l c, v q = .slice a l c
theorem NVs.below {w w' : World} {m : Nat → Bool} {v : Nat → Value} {Z : Nat → Int} {L k : Nat} (h : NVs w m v Z L k) (hb : Below w.heap.size w w') : NVs w' m v Z L k := fun q hq => ⟨(h q hq).1.below hb, (h q hq).2⟩
theorem NVs.fill {w : World} {g N : Nat} {m : Nat → Bool} {v : Nat → Value} {Z : Nat → Int} {L k : Nat} (h : NVs w m v Z L k) (hc : Cells w g 68 N (fnn m v k)) {x : Bool} {a : Option Addr} {l c : Nat} (hn : NV w x (.slice a l c) (Z k) L) (i : Nat) :
  NVs ((w.setCell ⟨g, i, none⟩ (.bool x)).setCell ⟨g, i + 1, none⟩ (.slice a l c)) (fun j => if j = k then x else m j) (fun j => if j = k then .slice a l c else v j) Z L (k + 1) := fun q hq => by
 have hv : ∀ j, j < k → ∃ a l c, v j = .slice a l c := fun j hj => (h j hj).2
 by_cases e : q = k
 ·subst e
  simp only [if_true]
  exact ⟨hn.setC hc hv _ _ i, a, l, c, rfl⟩
 ·simp only [e, if_false]
  exact ⟨(h q (by omega)).1.setC hc hv _ _ i, (h q (by omega)).2⟩
theorem Cel.oth2 {w : World} {g g' : Nat} {cs : List Value} {t : TypeId} (h : Cel w g cs t) (hne : g ≠ g') (x0 x1 : Value) : Cel ((w.setCell ⟨g', 0, none⟩ x0).setCell ⟨g', 1, none⟩ x1) g cs t := (h.other hne 0 x0).other hne 1 x1
abbrev xc12 (w : World) (g : Nat) (x0 x1 x2 x3 x4 x5 x6 x7 x8 x9 x10 x11 : Value) : Prop := w.cell? ⟨g, 0, none⟩ = some x0 ∧ w.cell? ⟨g, 1, none⟩ = some x1 ∧ w.cell? ⟨g, 2, none⟩ = some x2 ∧ w.cell? ⟨g, 3, none⟩ = some x3 ∧ w.cell? ⟨g, 4, none⟩ = some x4 ∧ w.cell? ⟨g, 5, none⟩ = some x5 ∧ w.cell? ⟨g, 6, none⟩ = some x6 ∧ w.cell? ⟨g, 7, none⟩ = some x7 ∧ w.cell? ⟨g, 8, none⟩ = some x8 ∧ w.cell? ⟨g, 9, none⟩ = some x9 ∧ w.cell? ⟨g, 10, none⟩ = some x10 ∧ w.cell? ⟨g, 11, none⟩ = some x11
theorem xk12 {w : World} {g : Nat} {t : TypeId} {x0 x1 x2 x3 x4 x5 x6 x7 x8 x9 x10 x11 : Value} (h : Cel w g [x0, x1, x2, x3, x4, x5, x6, x7, x8, x9, x10, x11] t) : xc12 w g x0 x1 x2 x3 x4 x5 x6 x7 x8 x9 x10 x11 := ⟨h.cell 0, h.cell 1, h.cell 2, h.cell 3, h.cell 4, h.cell 5, h.cell 6, h.cell 7, h.cell 8, h.cell 9, h.cell 10, h.cell 11⟩
theorem mk5n (w : World) (c0 c1 c2 c3 c4 : List Value) (t0 t1 t2 t3 t4 : TypeId) : ∃ w', w' = ((((w.alloc (.cells c0.toArray t0)).alloc (.cells c1.toArray t1)).alloc (.cells c2.toArray t2)).alloc (.cells c3.toArray t3)).alloc (.cells c4.toArray t4) ∧ Cel w' w.heap.size c0 t0 ∧ Cel w' (w.heap.size + 1) c1 t1 ∧ Cel w' (w.heap.size + 1 + 1) c2 t2 ∧ Cel w' (w.heap.size + 1 + 1 + 1) c3 t3 ∧ Cel w' (w.heap.size + 1 + 1 + 1 + 1) c4 t4 ∧ Below w.heap.size w w' := by
 obtain ⟨v, hv, k0, k1, k2, k3, b⟩ := mk4 w c0 c1 c2 c3 t0 t1 t2 t3
 obtain ⟨u, hu, k4, b'⟩ := mk1 v c4 t4
 have hs : v.heap.size = w.heap.size + 1 + 1 + 1 + 1 := by rw [hv]; simp
 refine ⟨u, by rw [hu, hv], k0.below b', k1.below b', k2.below b', k3.below b', by rw [← hs]; exact k4, Below.after b b'⟩
theorem at_walk (r0 r1 r2 r3 r4 r5 : Bool) (ra0 ra1 ra2 ra3 ra4 ra5 : Option Addr) (rl0 rc0 rl1 rc1 rl2 rc2 rl3 rc3 rl4 rc4 rl5 rc5 : Nat) (uv xn yn tn : Bool) (ua xa ya ta : Option Addr) (ul uc xl xc yl yc tl tc : Nat) (Z0 Z1 Z2 Z3 Z4 Z5 X Y T : Int) (La Lx G : Nat) (w : World) (hL : La + Lx + Lx + 10 ≤ 1000)
  (kG : Cel w G [.bool r0, .slice ra0 rl0 rc0, .bool r1, .slice ra1 rl1 rc1, .bool r2, .slice ra2 rl2 rc2, .bool r3, .slice ra3 rl3 rc3, .bool r4, .slice ra4 rl4 rc4, .bool r5, .slice ra5 rl5 rc5] 68)
  (n0 : NV w r0 (.slice ra0 rl0 rc0) Z0 La)
  (n1 : NV w r1 (.slice ra1 rl1 rc1) Z1 La)
  (n2 : NV w r2 (.slice ra2 rl2 rc2) Z2 La)
  (n3 : NV w r3 (.slice ra3 rl3 rc3) Z3 La)
  (n4 : NV w r4 (.slice ra4 rl4 rc4) Z4 La)
  (n5 : NV w r5 (.slice ra5 rl5 rc5) Z5 La)
  (nx : NV w xn (.slice xa xl xc) X Lx)
  (ny : NV w yn (.slice ya yl yc) Y Lx)
  (nt : NV w tn (.slice ta tl tc) T Lx) :
  Calls Tryz.prog 35 #[.agg #[.slice (some ⟨G, 0, none⟩) 6 6, .bool uv, .slice ua ul uc], .agg #[.bool xn, .slice xa xl xc], .agg #[.bool yn, .slice ya yl yc], .agg #[.bool tn, .slice ta tl tc]] w fun e w' => ∃ m a l c, e = .returned (.agg #[.bool m, .slice a l c]) ∧ NV w' m (.slice a l c) ((Z0 * T + Z1 * X + Z2 * Y) * T + (Z3 * X + Z4 * Y) * X + Z5 * Y * Y) (La + Lx + Lx + 4) ∧ Below w.heap.size w w' := by
 go_enter Tryz.func35, Tryz.ntmps35
 go_wp2_with fail
 obtain ⟨w1, hw, k4, kx, ky, kt, kr, bb⟩ := mk5n w [.slice (some ⟨G, 0, none⟩) 6 6, .bool uv, .slice ua ul uc] [.bool xn, .slice xa xl xc] [.bool yn, .slice ya yl yc] [.bool tn, .slice ta tl tc] [.bool false, .slice none 0 0] 70 68 68 68 68
 rw [← hw]
 clear hw k4
 have tG := kG.lt
 replace kG := kG.below bb
 replace n0 := n0.below bb
 replace n1 := n1.below bb
 replace n2 := n2.below bb
 replace n3 := n3.below bb
 replace n4 := n4.below bb
 replace n5 := n5.below bb
 replace nx := nx.below bb
 replace ny := ny.below bb
 replace nt := nt.below bb
 have tr := kr.lt
 have mk : Hid (∀ w', SB w1 w' → xc12 w' G (.bool r0) (.slice ra0 rl0 rc0) (.bool r1) (.slice ra1 rl1 rc1) (.bool r2) (.slice ra2 rl2 rc2) (.bool r3) (.slice ra3 rl3 rc3) (.bool r4) (.slice ra4 rl4 rc4) (.bool r5) (.slice ra5 rl5 rc5) ∧ xc2 w' (w.heap.size + 1) (.bool xn) (.slice xa xl xc) ∧ xc2 w' (w.heap.size + 1 + 1) (.bool yn) (.slice ya yl yc)) := fun w' h => ⟨xk12 (kG.below h), xk2 (kx.below h), xk2 (ky.below h)⟩
 go_cut [10] from 15 to 27 (fun v wx => ∃ gc m24 a24 l24 c24, v = .pointer (some ⟨gc, 0, none⟩) ∧ w1.heap.size ≤ gc ∧ Cel wx gc [.bool m24, .slice a24 l24 c24] 68 ∧ NV wx m24 (.slice a24 l24 c24) ((((Z3) * (X)) + ((Z4) * (Y))) * (X)) (((La + Lx) + 1) + Lx) ∧ Below w1.heap.size w1 wx)
 case first =>
  refine wp_region_held_drew (S := SB w1) (by kernel_rfl) (bdrew _) (fun bc => ?_)
  refine WA.start (n := 15) (by kernel_rfl) ?_
  refine WA.tk 0 rfl ?_
  refine WA.tk 1 rfl ?_
  refine WA.tl 2 rfl ?_
  refine WA.tl 3 rfl ?_
  refine WA.tk 5 rfl ?_
  refine WA.tk 6 rfl ?_
  refine WA.tl 7 rfl ?_
  refine WA.tl 8 rfl ?_
  refine WA.tl 11 rfl ?_
  refine WA.gen (i := 13) (s := 10) undef (Pt w1 [.bool false, .slice none 0 0] 68) (fun b x hz => ?_)
  simp only [Act.put, List.setIfInBounds_toArray, List.set_cons_zero, List.set_cons_succ]
  revert b x
  refine WA.one 15 2543 4 13 rfl rfl bc ?_
  clear bc
  intro b x w' hz bx bc K hK
  clear bx
  simp only [List.getElem_toArray, List.getElem_cons_succ, List.getElem_cons_zero]
  go_simp
  go_fit (ntimes_any _ _ _ _ (Z3) (X) La Lx _ (by omega) (by omega) (n3.below bc) (nx.below bc))
  rintro e wn ⟨m21, v21, rfl, nv21, -, bn⟩
  obtain ⟨a21, l21, c21, rfl⟩ := nv21.slice
  replace bc := Below.after bc bn
  try go_wp2_with fail
  refine hK.out _ _ bc (fun _ => ?_)
  replace hz := fun h => (hz h).below bn
  clear hK K bn
  revert b x
  refine WA.one 15 2559 9 13 rfl rfl bc ?_
  clear bc
  intro b x w' hz bx bc K hK
  replace nv21 := nv21.below bx
  clear bx
  simp only [List.getElem_toArray, List.getElem_cons_succ, List.getElem_cons_zero]
  go_simp
  go_fit (ntimes_any _ _ _ _ (Z4) (Y) La Lx _ (by omega) (by omega) (n4.below bc) (ny.below bc))
  rintro e wn ⟨m22, v22, rfl, nv22, -, bn⟩
  obtain ⟨a22, l22, c22, rfl⟩ := nv22.slice
  replace bc := Below.after bc bn
  try go_wp2_with fail
  refine hK.out _ _ bc (fun _ => ?_)
  replace hz := fun h => (hz h).below bn
  replace nv21 := nv21.below bn
  clear hK K bn
  revert b x
  refine WA.one 15 3071 10 13 rfl rfl bc ?_
  clear bc
  intro b x w' hz bx bc K hK
  replace nv21 := nv21.below bx
  replace nv22 := nv22.below bx
  clear bx
  simp only [List.getElem_toArray, List.getElem_cons_succ, List.getElem_cons_zero]
  go_simp
  go_fit (nplus_any _ _ _ _ ((Z3) * (X)) ((Z4) * (Y)) (La + Lx) _ (by omega) nv21 nv22)
  rintro e wn ⟨m23, v23, rfl, nv23, bn⟩
  obtain ⟨a23, l23, c23, rfl⟩ := nv23.slice
  replace bc := Below.after bc bn
  try go_wp2_with fail
  refine hK.out _ _ bc (fun _ => ?_)
  replace hz := fun h => (hz h).below bn
  clear hK K bn nv21 nv22
  revert b x
  refine WA.one 15 4095 12 13 rfl rfl bc ?_
  clear bc
  intro b x w' hz bx bc K hK
  replace nv23 := nv23.below bx
  clear bx
  simp only [List.getElem_toArray, List.getElem_cons_succ, List.getElem_cons_zero]
  go_simp
  go_fit (ntimes_any _ _ _ _ (((Z3) * (X)) + ((Z4) * (Y))) (X) ((La + Lx) + 1) Lx _ (by omega) (by omega) nv23 (nx.below bc))
  rintro e wn ⟨m24, v24, rfl, nv24, -, bn⟩
  obtain ⟨a24, l24, c24, rfl⟩ := nv24.slice
  replace bc := Below.after bc bn
  try go_wp2_with fail
  refine hK.out _ _ bc (fun _ => ?_)
  replace hz := fun h => (hz h).below bn
  clear hK K bn nv23
  revert b x
  refine WA.fin 13 rfl bc ?_
  clear bc
  intro x w' hz bx bc
  replace nv24 := nv24.below bx
  obtain ⟨g0, rfl, h0, k0⟩ := hz
  clear bx
  obtain ⟨e0, e1⟩ := xk2 k0
  have f0 := Cel.frozen k0 0
  have f1 := Cel.frozen k0 1
  refine WA.call 14 rfl (fun K hK => ?_)
  simp only [List.getElem_toArray, List.getElem_cons_succ, List.getElem_cons_zero]
  go_simp
  try go_wp2_with fail
  clear e0 f0 e1 f1
  replace bc := (bset (bset bc h0 0 (.bool m24)) h0 1 (.slice a24 l24 c24))
  refine hK.out _ _ bc (fun _ => ?_)
  clear hK K
  replace nv24 := nv24.set2 k0 (.bool m24) (.slice a24 l24 c24)
  replace k0 := (Cel.set (Cel.set k0 0 (.bool m24)) 1 (.slice a24 l24 c24))
  refine WA.done (by kernel_rfl) ?_
  go_wp2_with fail
  go_meet
  exact ⟨_, m24, a24, l24, c24, rfl, h0, k0, nv24, bc⟩
 case rest =>
 obtain ⟨gp, m24, a24, l24, c24, rfl, lp, kp, nv24, b1⟩ := hcut
 clear mk; have sz := b1.size
 replace kx := kx.below b1
 replace ky := ky.below b1
 replace kt := kt.below b1
 replace kG := kG.below b1
 replace kr := kr.below b1
 replace bb := Below.after bb b1
 replace n0 := n0.below b1
 replace n1 := n1.below b1
 replace n2 := n2.below b1
 replace n3 := n3.below b1
 replace n4 := n4.below b1
 replace n5 := n5.below b1
 replace nx := nx.below b1
 replace ny := ny.below b1
 replace nt := nt.below b1
 clear b1
 have tp := kp.lt
 go_wp2_with fail
 have mk : Hid (∀ w', SB wc w' → xc12 w' G (.bool r0) (.slice ra0 rl0 rc0) (.bool r1) (.slice ra1 rl1 rc1) (.bool r2) (.slice ra2 rl2 rc2) (.bool r3) (.slice ra3 rl3 rc3) (.bool r4) (.slice ra4 rl4 rc4) (.bool r5) (.slice ra5 rl5 rc5) ∧ xc2 w' (w.heap.size + 1 + 1) (.bool yn) (.slice ya yl yc)) := fun w' h => ⟨xk12 (kG.below h), xk2 (ky.below h)⟩
 go_cut [11] from 28 to 34 (fun v wx => ∃ gc m26 a26 l26 c26, v = .pointer (some ⟨gc, 0, none⟩) ∧ wc.heap.size ≤ gc ∧ Cel wx gc [.bool m26, .slice a26 l26 c26] 68 ∧ NV wx m26 (.slice a26 l26 c26) (((Z5) * (Y)) * (Y)) ((La + Lx) + Lx) ∧ Below wc.heap.size wc wx)
 case first =>
  refine wp_region_held_drew (S := SB wc) (by kernel_rfl) (bdrew _) (fun bc => ?_)
  refine WA.start (n := 9) (by kernel_rfl) ?_
  refine WA.tk 0 rfl ?_
  refine WA.tk 1 rfl ?_
  refine WA.tl 2 rfl ?_
  refine WA.tl 3 rfl ?_
  refine WA.tl 5 rfl ?_
  refine WA.gen (i := 7) (s := 11) undef (Pt wc [.bool false, .slice none 0 0] 68) (fun b x hz => ?_)
  simp only [Act.put, List.setIfInBounds_toArray, List.set_cons_zero, List.set_cons_succ]
  revert b x
  refine WA.one 9 47 4 7 rfl rfl bc ?_
  clear bc
  intro b x w' hz bx bc K hK
  clear bx
  simp only [List.getElem_toArray, List.getElem_cons_succ, List.getElem_cons_zero]
  go_simp
  go_fit (ntimes_any _ _ _ _ (Z5) (Y) La Lx _ (by omega) (by omega) (n5.below bc) (ny.below bc))
  rintro e wn ⟨m25, v25, rfl, nv25, -, bn⟩
  obtain ⟨a25, l25, c25, rfl⟩ := nv25.slice
  replace bc := Below.after bc bn
  try go_wp2_with fail
  refine hK.out _ _ bc (fun _ => ?_)
  replace hz := fun h => (hz h).below bn
  clear hK K bn
  revert b x
  refine WA.one 9 63 6 7 rfl rfl bc ?_
  clear bc
  intro b x w' hz bx bc K hK
  replace nv25 := nv25.below bx
  clear bx
  simp only [List.getElem_toArray, List.getElem_cons_succ, List.getElem_cons_zero]
  go_simp
  go_fit (ntimes_any _ _ _ _ ((Z5) * (Y)) (Y) (La + Lx) Lx _ (by omega) (by omega) nv25 (ny.below bc))
  rintro e wn ⟨m26, v26, rfl, nv26, -, bn⟩
  obtain ⟨a26, l26, c26, rfl⟩ := nv26.slice
  replace bc := Below.after bc bn
  try go_wp2_with fail
  refine hK.out _ _ bc (fun _ => ?_)
  replace hz := fun h => (hz h).below bn
  clear hK K bn nv25
  revert b x
  refine WA.fin 7 rfl bc ?_
  clear bc
  intro x w' hz bx bc
  replace nv26 := nv26.below bx
  obtain ⟨g0, rfl, h0, k0⟩ := hz
  clear bx
  obtain ⟨e0, e1⟩ := xk2 k0
  have f0 := Cel.frozen k0 0
  have f1 := Cel.frozen k0 1
  refine WA.call 8 rfl (fun K hK => ?_)
  simp only [List.getElem_toArray, List.getElem_cons_succ, List.getElem_cons_zero]
  go_simp
  try go_wp2_with fail
  clear e0 f0 e1 f1
  replace bc := (bset (bset bc h0 0 (.bool m26)) h0 1 (.slice a26 l26 c26))
  refine hK.out _ _ bc (fun _ => ?_)
  clear hK K
  replace nv26 := nv26.set2 k0 (.bool m26) (.slice a26 l26 c26)
  replace k0 := (Cel.set (Cel.set k0 0 (.bool m26)) 1 (.slice a26 l26 c26))
  refine WA.done (by kernel_rfl) ?_
  go_wp2_with fail
  go_meet
  exact ⟨_, m26, a26, l26, c26, rfl, h0, k0, nv26, bc⟩
 case rest =>
 obtain ⟨gq, m26, a26, l26, c26, rfl, lq, kq, nv26, b1⟩ := hcut
 clear mk; have sz := b1.size
 replace kx := kx.below b1
 replace ky := ky.below b1
 replace kt := kt.below b1
 replace kG := kG.below b1
 replace kr := kr.below b1
 replace kp := kp.below b1
 replace bb := Below.after bb b1
 replace n0 := n0.below b1
 replace n1 := n1.below b1
 replace n2 := n2.below b1
 replace n3 := n3.below b1
 replace n4 := n4.below b1
 replace n5 := n5.below b1
 replace nx := nx.below b1
 replace ny := ny.below b1
 replace nt := nt.below b1
 replace nv24 := nv24.below b1
 clear b1
 have tq := kq.lt
 go_wp2_with fail
 have mk : Hid (∀ w', SB wc w' → xc12 w' G (.bool r0) (.slice ra0 rl0 rc0) (.bool r1) (.slice ra1 rl1 rc1) (.bool r2) (.slice ra2 rl2 rc2) (.bool r3) (.slice ra3 rl3 rc3) (.bool r4) (.slice ra4 rl4 rc4) (.bool r5) (.slice ra5 rl5 rc5) ∧ xc2 w' (w.heap.size + 1) (.bool xn) (.slice xa xl xc) ∧ xc2 w' (w.heap.size + 1 + 1) (.bool yn) (.slice ya yl yc) ∧ xc2 w' (w.heap.size + 1 + 1 + 1) (.bool tn) (.slice ta tl tc)) := fun w' h => ⟨xk12 (kG.below h), xk2 (kx.below h), xk2 (ky.below h), xk2 (kt.below h)⟩
 go_cut [12] from 35 to 51 (fun v wx => ∃ gc m31 a31 l31 c31, v = .pointer (some ⟨gc, 0, none⟩) ∧ wc.heap.size ≤ gc ∧ Cel wx gc [.bool m31, .slice a31 l31 c31] 68 ∧ NV wx m31 (.slice a31 l31 c31) ((((Z0) * (T)) + ((Z1) * (X))) + ((Z2) * (Y))) (((La + Lx) + 1) + 1) ∧ Below wc.heap.size wc wx)
 case first =>
  refine wp_region_held_drew (S := SB wc) (by kernel_rfl) (bdrew _) (fun bc => ?_)
  refine WA.start (n := 19) (by kernel_rfl) ?_
  refine WA.tk 0 rfl ?_
  refine WA.tk 1 rfl ?_
  refine WA.tl 2 rfl ?_
  refine WA.tl 3 rfl ?_
  refine WA.tk 5 rfl ?_
  refine WA.tk 6 rfl ?_
  refine WA.tl 7 rfl ?_
  refine WA.tl 8 rfl ?_
  refine WA.tk 11 rfl ?_
  refine WA.tk 12 rfl ?_
  refine WA.tl 13 rfl ?_
  refine WA.tl 14 rfl ?_
  refine WA.gen (i := 17) (s := 12) undef (Pt wc [.bool false, .slice none 0 0] 68) (fun b x hz => ?_)
  simp only [Act.put, List.setIfInBounds_toArray, List.set_cons_zero, List.set_cons_succ]
  revert b x
  refine WA.one 19 31215 4 17 rfl rfl bc ?_
  clear bc
  intro b x w' hz bx bc K hK
  clear bx
  simp only [List.getElem_toArray, List.getElem_cons_succ, List.getElem_cons_zero]
  go_simp
  go_fit (ntimes_any _ _ _ _ (Z0) (T) La Lx _ (by omega) (by omega) (n0.below bc) (nt.below bc))
  rintro e wn ⟨m27, v27, rfl, nv27, -, bn⟩
  obtain ⟨a27, l27, c27, rfl⟩ := nv27.slice
  replace bc := Below.after bc bn
  try go_wp2_with fail
  refine hK.out _ _ bc (fun _ => ?_)
  replace hz := fun h => (hz h).below bn
  clear hK K bn
  revert b x
  refine WA.one 19 31231 9 17 rfl rfl bc ?_
  clear bc
  intro b x w' hz bx bc K hK
  replace nv27 := nv27.below bx
  clear bx
  simp only [List.getElem_toArray, List.getElem_cons_succ, List.getElem_cons_zero]
  go_simp
  go_fit (ntimes_any _ _ _ _ (Z1) (X) La Lx _ (by omega) (by omega) (n1.below bc) (nx.below bc))
  rintro e wn ⟨m28, v28, rfl, nv28, -, bn⟩
  obtain ⟨a28, l28, c28, rfl⟩ := nv28.slice
  replace bc := Below.after bc bn
  try go_wp2_with fail
  refine hK.out _ _ bc (fun _ => ?_)
  replace hz := fun h => (hz h).below bn
  replace nv27 := nv27.below bn
  clear hK K bn
  revert b x
  refine WA.one 19 31743 10 17 rfl rfl bc ?_
  clear bc
  intro b x w' hz bx bc K hK
  replace nv27 := nv27.below bx
  replace nv28 := nv28.below bx
  clear bx
  simp only [List.getElem_toArray, List.getElem_cons_succ, List.getElem_cons_zero]
  go_simp
  go_fit (nplus_any _ _ _ _ ((Z0) * (T)) ((Z1) * (X)) (La + Lx) _ (by omega) nv27 nv28)
  rintro e wn ⟨m29, v29, rfl, nv29, bn⟩
  obtain ⟨a29, l29, c29, rfl⟩ := nv29.slice
  replace bc := Below.after bc bn
  try go_wp2_with fail
  refine hK.out _ _ bc (fun _ => ?_)
  replace hz := fun h => (hz h).below bn
  clear hK K bn nv27 nv28
  revert b x
  refine WA.one 19 32767 15 17 rfl rfl bc ?_
  clear bc
  intro b x w' hz bx bc K hK
  replace nv29 := nv29.below bx
  clear bx
  simp only [List.getElem_toArray, List.getElem_cons_succ, List.getElem_cons_zero]
  go_simp
  go_fit (ntimes_any _ _ _ _ (Z2) (Y) La Lx _ (by omega) (by omega) (n2.below bc) (ny.below bc))
  rintro e wn ⟨m30, v30, rfl, nv30, -, bn⟩
  obtain ⟨a30, l30, c30, rfl⟩ := nv30.slice
  replace bc := Below.after bc bn
  try go_wp2_with fail
  refine hK.out _ _ bc (fun _ => ?_)
  replace hz := fun h => (hz h).below bn
  replace nv29 := nv29.below bn
  clear hK K bn
  revert b x
  refine WA.one 19 65535 16 17 rfl rfl bc ?_
  clear bc
  intro b x w' hz bx bc K hK
  replace nv29 := nv29.below bx
  replace nv30 := nv30.below bx
  clear bx
  simp only [List.getElem_toArray, List.getElem_cons_succ, List.getElem_cons_zero]
  go_simp
  go_fit (nplus_any _ _ _ _ (((Z0) * (T)) + ((Z1) * (X))) ((Z2) * (Y)) ((La + Lx) + 1) _ (by omega) nv29 (nv30.mono (by omega)))
  rintro e wn ⟨m31, v31, rfl, nv31, bn⟩
  obtain ⟨a31, l31, c31, rfl⟩ := nv31.slice
  replace bc := Below.after bc bn
  try go_wp2_with fail
  refine hK.out _ _ bc (fun _ => ?_)
  replace hz := fun h => (hz h).below bn
  clear hK K bn nv29 nv30
  revert b x
  refine WA.fin 17 rfl bc ?_
  clear bc
  intro x w' hz bx bc
  replace nv31 := nv31.below bx
  obtain ⟨g0, rfl, h0, k0⟩ := hz
  clear bx
  obtain ⟨e0, e1⟩ := xk2 k0
  have f0 := Cel.frozen k0 0
  have f1 := Cel.frozen k0 1
  refine WA.call 18 rfl (fun K hK => ?_)
  simp only [List.getElem_toArray, List.getElem_cons_succ, List.getElem_cons_zero]
  go_simp
  try go_wp2_with fail
  clear e0 f0 e1 f1
  replace bc := (bset (bset bc h0 0 (.bool m31)) h0 1 (.slice a31 l31 c31))
  refine hK.out _ _ bc (fun _ => ?_)
  clear hK K
  replace nv31 := nv31.set2 k0 (.bool m31) (.slice a31 l31 c31)
  replace k0 := (Cel.set (Cel.set k0 0 (.bool m31)) 1 (.slice a31 l31 c31))
  refine WA.done (by kernel_rfl) ?_
  go_wp2_with fail
  go_meet
  exact ⟨_, m31, a31, l31, c31, rfl, h0, k0, nv31, bc⟩
 case rest =>
 obtain ⟨gs, m31, a31, l31, c31, rfl, ls, ks, nv31, b1⟩ := hcut
 clear mk; have sz := b1.size
 replace kx := kx.below b1
 replace ky := ky.below b1
 replace kt := kt.below b1
 replace kG := kG.below b1
 replace kr := kr.below b1
 replace kp := kp.below b1
 replace kq := kq.below b1
 replace bb := Below.after bb b1
 replace nt := nt.below b1
 replace nv24 := nv24.below b1
 replace nv26 := nv26.below b1
 clear b1
 have ts := ks.lt
 clear n0 n1 n2 n3 n4 n5 nx ny kG kx ky
 go_wp2_with fail
 have qs : gs ≠ w.heap.size + 1 + 1 + 1 + 1 := by omega
 have qp : gp ≠ w.heap.size + 1 + 1 + 1 + 1 := by omega
 have qq : gq ≠ w.heap.size + 1 + 1 + 1 + 1 := by omega
 have qt : w.heap.size + 1 + 1 + 1 ≠ w.heap.size + 1 + 1 + 1 + 1 := by omega
 have bd := bdrew wc
 replace kt := kt.below bd
 replace kr := kr.below bd
 replace kp := kp.below bd
 replace kq := kq.below bd
 replace ks := ks.below bd
 replace nt := nt.below bd
 replace nv24 := nv24.below bd
 replace nv26 := nv26.below bd
 replace nv31 := nv31.below bd
 replace bb := Below.after bb bd
 clear bd
 refine wp_region_held_drew (S := fun w' => xc2 w' gs (.bool m31) (.slice a31 l31 c31) ∧ xc2 w' (w.heap.size + 1 + 1 + 1) (.bool tn) (.slice ta tl tc) ∧ xc2 w' gp (.bool m24) (.slice a24 l24 c24) ∧ xc2 w' gq (.bool m26) (.slice a26 l26 c26)) (by kernel_rfl) ⟨xk2 ks, xk2 kt, xk2 kp, xk2 kq⟩ (fun hS => ?_)
 refine WA.start (n := 8) (by kernel_rfl) ?_
 refine WA.tp 0 rfl ?_
 refine WA.tp 1 rfl ?_
 refine WA.tp 3 rfl ?_
 refine WA.tp 5 rfl ?_
 refine WA.cal 2 rfl (fun K hK => ?_)
 simp only [List.getElem_toArray, List.getElem_cons_succ, List.getElem_cons_zero]
 go_simp
 go_fit (ntimes_any _ _ _ _ ((((Z0) * (T)) + ((Z1) * (X))) + ((Z2) * (Y))) (T) ((La + Lx) + 1 + 1) Lx _ (by omega) (by omega) nv31 nt)
 rintro e wn ⟨m32, v32, rfl, nv32, -, bn⟩
 obtain ⟨a32, l32, c32, rfl⟩ := nv32.slice
 replace kt := kt.below bn
 replace kr := kr.below bn
 replace kp := kp.below bn
 replace kq := kq.below bn
 replace ks := ks.below bn
 replace nt := nt.below bn
 replace nv24 := nv24.below bn
 replace nv26 := nv26.below bn
 replace nv31 := nv31.below bn
 replace bb := Below.after bb bn
 try go_wp2_with fail
 clear hS
 refine hK.out _ _ ⟨xk2 ks, xk2 kt, xk2 kp, xk2 kq⟩ (fun hS => ?_)
 clear hK K bn
 refine WA.cal 4 rfl (fun K hK => ?_)
 simp only [List.getElem_toArray, List.getElem_cons_succ, List.getElem_cons_zero]
 go_simp
 go_fit (nplus_any _ _ _ _ (((((Z0) * (T)) + ((Z1) * (X))) + ((Z2) * (Y))) * (T)) ((((Z3) * (X)) + ((Z4) * (Y))) * (X)) ((La + Lx) + 1 + 1 + Lx) _ (by omega) nv32 (nv24.mono (by omega)))
 rintro e wn ⟨m33, v33, rfl, nv33, bn⟩
 obtain ⟨a33, l33, c33, rfl⟩ := nv33.slice
 replace kt := kt.below bn
 replace kr := kr.below bn
 replace kp := kp.below bn
 replace kq := kq.below bn
 replace ks := ks.below bn
 replace nt := nt.below bn
 replace nv24 := nv24.below bn
 replace nv26 := nv26.below bn
 replace nv31 := nv31.below bn
 replace nv32 := nv32.below bn
 replace bb := Below.after bb bn
 try go_wp2_with fail
 clear hS
 refine hK.out _ _ ⟨xk2 ks, xk2 kt, xk2 kp, xk2 kq⟩ (fun hS => ?_)
 clear hK K bn
 refine WA.cal 6 rfl (fun K hK => ?_)
 simp only [List.getElem_toArray, List.getElem_cons_succ, List.getElem_cons_zero]
 go_simp
 go_fit (nplus_any _ _ _ _ ((((((Z0) * (T)) + ((Z1) * (X))) + ((Z2) * (Y))) * (T)) + ((((Z3) * (X)) + ((Z4) * (Y))) * (X))) (((Z5) * (Y)) * (Y)) (((La + Lx) + 1 + 1 + Lx) + 1) _ (by omega) nv33 (nv26.mono (by omega)))
 rintro e wn ⟨m34, v34, rfl, nv34, bn⟩
 obtain ⟨a34, l34, c34, rfl⟩ := nv34.slice
 replace kt := kt.below bn
 replace kr := kr.below bn
 replace kp := kp.below bn
 replace kq := kq.below bn
 replace ks := ks.below bn
 replace nt := nt.below bn
 replace nv24 := nv24.below bn
 replace nv26 := nv26.below bn
 replace nv31 := nv31.below bn
 replace nv32 := nv32.below bn
 replace nv33 := nv33.below bn
 replace bb := Below.after bb bn
 try go_wp2_with fail
 clear hS
 refine hK.out _ _ ⟨xk2 ks, xk2 kt, xk2 kp, xk2 kq⟩ (fun hS => ?_)
 clear hK K bn
 obtain ⟨e0, e1⟩ := xk2 kr
 have f0 := Cel.frozen kr 0
 have f1 := Cel.frozen kr 1
 refine WA.cal 7 rfl (fun K hK => ?_)
 simp only [List.getElem_toArray, List.getElem_cons_succ, List.getElem_cons_zero]
 go_simp
 try go_wp2_with fail
 clear e0 f0 e1 f1
 clear hS
 refine hK.out _ _ ⟨xk2 (ks.oth2 qs _ _), xk2 (kt.oth2 qt _ _), xk2 (kp.oth2 qp _ _), xk2 (kq.oth2 qq _ _)⟩ (fun hS => ?_)
 clear hK K
 refine WA.done (by kernel_rfl) ?_
 clear hS
 go_wp2_with fail
 exact post_n (p := 8) (by kernel_rfl) rfl rfl ((kr.set 0 _).set 1 _) ⟨_, _, _, _, rfl, (nv34.set2 kr _ _).mono (by omega), bset (bset bb (by omega) 0 _) (by omega) 1 _⟩
theorem natAbs_sgn (n : Bool) (k : Nat) : (sgn n k).natAbs = k := by
 unfold sgn
 split <;> omega
theorem nint_any (n : Bool) (v : Value) (z : Int) (L : Nat) (w : World) (hL : L ≤ 1000) (h : NV w n v z L) :
  Calls Tryz.prog 61 #[.agg #[.bool n, v]] w (Re w (.agg #[.bool (nfZ z), .string (sfZ z)])) := by
 have H1 : Hid (∀ w1, Below w.heap.size w w1 → Calls Tryz.prog 96 #[v] w1 (Re w1 (.tuple #[.string (sfZ z), .int .i64 0]))) := fun w1 b => by
  obtain ⟨k, r, hk, rfl⟩ := h
  have := nat_any v _ w1 (r.below b) (M.Low.digs B64_two k) (nv_len hk hL)
  rw [M.val_digs B64_two] at this
  unfold sfZ
  rw [natAbs_sgn]
  exact this
 have H2 : Hid (∀ w1, Below w.heap.size w w1 → Calls Tryz.prog 97 #[.agg #[.bool n, v]] w1 (Re w1 (.int .i64 z.sign))) := fun w1 b => nsign_any n v z L w1 (h.below b)
 have hs : decide (z.sign < 0) = nfZ z := by
  unfold nfZ
  rw [decide_eq_decide]
  constructor
  ·intro k
   rcases Int.lt_trichotomy z 0 with q | q | q
   ·exact q
   ·rw [q] at k; exact absurd k (by decide)
   ·rw [Int.sign_eq_one_of_pos q] at k; exact absurd k (by decide)
  ·intro k
   rw [Int.sign_eq_neg_one_of_neg k]; decide
 obtain ⟨s, hs'⟩ : ∃ s, s = z.sign := ⟨_, rfl⟩
 rw [← hs'] at hs H2
 obtain ⟨N, hN⟩ : ∃ N, N = nfZ z := ⟨_, rfl⟩
 obtain ⟨S, hS⟩ : ∃ S, S = sfZ z := ⟨_, rfl⟩
 rw [← hN] at hs ⊢
 rw [← hS] at H1 ⊢
 obtain ⟨a, l, c, rfl⟩ := h.slice
 clear h hs' hN hS
 go_enter Tryz.func61, Tryz.ntmps61
 go_wp2_with fail
 obtain ⟨w0, hw, k0, kr, bb⟩ := mk2 w [.bool n, .slice a l c] [.bool false, .string { data := #[] }] 68 24
 rw [← hw]
 clear hw
 go_fit (H1.out _ bb)
 rintro e w1 ⟨rfl, b1⟩
 replace k0 := k0.below b1
 replace kr := kr.below b1
 replace bb := Below.after bb b1
 clear b1
 obtain ⟨c0, c1⟩ := xk2 k0
 go_wp2_with fail
 clear c0 c1
 go_fit (H2.out _ bb)
 rintro e w2 ⟨rfl, b1⟩
 replace kr := kr.below b1
 replace bb := Below.after bb b1
 clear b1
 obtain ⟨c0, c1⟩ := xk2 kr
 have f0 := kr.frozen 0
 have f1 := kr.frozen 1
 go_wp2
 exact post_z (p := 2) (by kernel_rfl) rfl rfl ((kr.set 0 _).set 1 _) ⟨rfl, bset (bset bb (by omega) 0 _) (by omega) 1 _⟩
theorem vqm_add {a b : Rat} {k j : Nat} (ha : Bq a k) (hb : Bq b j) : Bq (a + b) (k + j + 1) := by
 rw [Rat.add_def']
 exact vq_mk (Nat.mul_pos a.den_pos b.den_pos) ((ha.1.mul hb.2).add ((hb.1.mul ha.2).mono (by omega))) ((vd_cast _ _ ha.2 hb.2).mono (by omega))
theorem vqm_sub {a b : Rat} {k j : Nat} (ha : Bq a k) (hb : Bq b j) : Bq (a - b) (k + j + 1) := by
 rw [Rat.sub_eq_add_neg]
 exact vqm_add ha (vq_neg hb)
theorem vqm_mul {a b : Rat} {k j : Nat} (ha : Bq a k) (hb : Bq b j) : Bq (a * b) (k + j) := by
 rw [Rat.mul_def']
 exact vq_mk (Nat.mul_pos a.den_pos b.den_pos) (ha.1.mul hb.1) (vd_cast _ _ ha.2 hb.2)
theorem Gm.way_x {X Y U : Int} {x y : Rat} (h : Gm.Way X Y U x y) : Rat.divInt X U = x := by
 have hp := Gm.upos h.1
 rw [Rat.divInt_eq_div, h.2.1, Rat.div_def]
 have := Rat.mul_inv_cancel (U : Rat) (by grind)
 grind
theorem bq_divI {X U : Int} {k : Nat} (hU : 0 < U) (hX : Bd X k) (hu : Bd U k) : Bq (Rat.divInt X U) k := by
 obtain ⟨m, rfl⟩ := Int.eq_ofNat_of_zero_le (Int.le_of_lt hU)
 show Bq (mkRat X m) k
 exact vq_mk (by omega) hX hu
theorem bq_wayx {X Y U : Int} {x y : Rat} {k : Nat} (h : Gm.Way X Y U x y) (hX : Bd X k) (hu : Bd U k) : Bq x k := by
 rw [← Gm.way_x h]; exact bq_divI h.1 hX hu
theorem pCheck_walk (n0 n1 n2 n3 n4 n5 : Bool) (s0 d0 s1 d1 s2 d2 s3 d3 s4 d4 s5 d5 : ByteArray) (E : Int) (w : World)
  (HC : Hid (∀ (w1 : World) (B : Nat), Below w.heap.size w w1 → Cel w1 B [.bool n0, .string s0, .string d0, .bool n1, .string s1, .string d1, .bool n2, .string s2, .string d2, .bool n3, .string s3, .string d3, .bool n4, .string s4, .string d4, .bool n5, .string s5, .string d5] 28 → Calls Tryz.prog 38 #[.slice (some ⟨B, 0, none⟩) 6 6] w1 (Re w1 (.int .i64 E)))) :
  Calls Tryz.prog 12 #[.agg #[.bool n0, .string s0, .string d0, .bool n1, .string s1, .string d1, .bool n2, .string s2, .string d2, .bool n3, .string s3, .string d3, .bool n4, .string s4, .string d4, .bool n5, .string s5, .string d5]] w (Re w (.int .i64 E)) := by
 go_enter Tryz.func12, Tryz.ntmps12
 go_wp2_with fail
 obtain ⟨w0, hw, kf, bb⟩ := mk1 w [.bool n0, .string s0, .string d0, .bool n1, .string s1, .string d1, .bool n2, .string s2, .string d2, .bool n3, .string s3, .string d3, .bool n4, .string s4, .string d4, .bool n5, .string s5, .string d5] 28
 rw [← hw]
 clear hw
 go_fit (HC.out _ _ bb kf)
 rintro e w1 ⟨rfl, b1⟩
 replace bb := Below.after bb b1
 clear b1 kf
 go_wp2
 go_ret
 exact ⟨rfl, bb⟩
theorem load_c3 {w : World} {g : Nat} {x y z : Value} (h : Cel w g [x, y, z] 70) : (loadVar 70 ⟨g, 0, none⟩).run Tryz.prog w = .ok (.agg #[x, y, z]) w :=
 run_loadVar_row w g 70 70 #[x, y, z] (0, 0) _ h Tryz.underlying70 rfl (by kernel_rfl)
theorem post_c3 {fn : Func} {p : Tmp} {R : Ending → World → Prop} {a : Act} {w : World} {g : Nat} {x y z : Value} (h : fn.results = #[.cell p 70]) (hp : a.tmps.getD p undef = .pointer (some ⟨g, 0, none⟩)) (hd : a.defers = [])
  (hc : Cel w g [x, y, z] 70) (hR : R (.returned (.agg #[x, y, z])) w) : bodyPost Tryz.prog fn R .ret a w := by
 refine ⟨hd, .agg #[x, y, z], ?_, hR⟩
 have hp' : a.tmps[p]?.getD undef = .pointer (some ⟨g, 0, none⟩) := by simpa using hp
 simp only [results, h]
 simp [hp', asAddr, load_c3 hc]
theorem no_c3 : ∀ (j : Nat) (k : IntKind) (i : Int), [Value.slice none 0 0, .bool false, .slice none 0 0][j]? ≠ some (.int k i) := by
 intro j k i
 match j with
 | 0 => simp
 | 1 => simp
 | 2 => simp
 | j + 3 => simp
theorem NV.setK {w : World} {n : Bool} {v : Value} {z : Int} {L g : Nat} {t : TypeId} (h : NV w n v z L) (hc : Cel w g [.slice none 0 0, .bool false, .slice none 0 0] t) (x y u : Value) : NV (((w.setCell ⟨g, 0, none⟩ x).setCell ⟨g, 1, none⟩ y).setCell ⟨g, 2, none⟩ u) n v z L := by
 obtain ⟨k, r, h1, h2⟩ := h
 exact ⟨k, ((((rdx_of_cel r hc no_c3).setX 0 x).setX 1 y).setX 2 u).rd, h1, h2⟩
theorem cleared_walk (n0 n1 n2 n3 n4 n5 : Bool) (s0 d0 s1 d1 s2 d2 s3 d3 s4 d4 s5 d5 : ByteArray) (Z : Nat → Int) (Q : Int) (L M' : Nat) (w : World)
  (HS : Hid (∀ (w1 : World) (B : Nat), Below w.heap.size w w1 → Cel w1 B [.bool n0, .string s0, .string d0, .bool n1, .string s1, .string d1, .bool n2, .string s2, .string d2, .bool n3, .string s3, .string d3, .bool n4, .string s4, .string d4, .bool n5, .string s5, .string d5] 28 → Calls Tryz.prog 34 #[.slice (some ⟨B, 0, none⟩) 6 6] w1 fun e w' => ∃ g m v a l c, w1.heap.size ≤ g ∧ e = .returned (.tuple #[.slice (some ⟨g, 0, none⟩) 6 6, .agg #[.bool false, .slice a l c]]) ∧ Cells w' g 68 (6 * 2) (fnn m v 6) ∧ NVs w' m v Z L 6 ∧ NV w' false (.slice a l c) Q M' ∧ Below w1.heap.size w1 w')) :
  Calls Tryz.prog 33 #[.agg #[.bool n0, .string s0, .string d0, .bool n1, .string s1, .string d1, .bool n2, .string s2, .string d2, .bool n3, .string s3, .string d3, .bool n4, .string s4, .string d4, .bool n5, .string s5, .string d5]] w fun e w' => ∃ g m v a l c, e = .returned (.agg #[.slice (some ⟨g, 0, none⟩) 6 6, .bool false, .slice a l c]) ∧ Cells w' g 68 (6 * 2) (fnn m v 6) ∧ NVs w' m v Z L 6 ∧ NV w' false (.slice a l c) Q M' ∧ Below w.heap.size w w' := by
 go_enter Tryz.func33, Tryz.ntmps33
 go_wp2_with fail
 obtain ⟨w0, hw, kf, kr, bb⟩ := mk2 w [.bool n0, .string s0, .string d0, .bool n1, .string s1, .string d1, .bool n2, .string s2, .string d2, .bool n3, .string s3, .string d3, .bool n4, .string s4, .string d4, .bool n5, .string s5, .string d5] [.slice none 0 0, .bool false, .slice none 0 0] 28 70
 rw [← hw]
 clear hw
 have t0 := kr.lt
 go_fit (HS.out _ _ bb kf)
 rintro e w1 ⟨g, m, v, a, l, c, gl, rfl, kg, hv, hq, b1⟩
 replace kr := kr.below b1
 replace bb := Below.after bb b1
 clear b1 kf
 have ob := bel_al w1 (.cells #[.bool false, .slice a l c] 68)
 replace kr := kr.below ob
 replace bb := Below.after bb ob
 replace kg := kg.below ob
 replace hv := hv.below ob
 replace hq := hq.below ob
 have tr := kr.lt
 have tg := kg.lt
 obtain ⟨e0, e1, e2⟩ := xk3 kr
 have f0 := Cel.frozen kr 0
 have f1 := Cel.frozen kr 1
 have f2 := Cel.frozen kr 2
 have ne : g ≠ w.heap.size + 1 := by omega
 clear ob
 go_wp2
 exact post_c3 (p := 2) (by kernel_rfl) rfl rfl (((kr.set 0 _).set 1 _).set 2 _) ⟨g, m, v, a, l, c, rfl, ((kg.other ne 0 _).other ne 1 _).other ne 2 _, fun q hq' => ⟨(hv q hq').1.setK kr _ _ _, (hv q hq').2⟩, hq.setK kr _ _ _, bset (bset (bset bb (by omega) 0 _) (by omega) 1 _) (by omega) 2 _⟩
theorem cel4_0 {w : World} {g : Nat} {x y z u : Value} {t : TypeId} (h : Cel w g [x, y, z, u] t) : w.cell? ⟨g, 0, none⟩ = some x := h.cell 0
theorem cel4_1 {w : World} {g : Nat} {x y z u : Value} {t : TypeId} (h : Cel w g [x, y, z, u] t) : w.cell? ⟨g, 1, none⟩ = some y := h.cell 1
theorem cel4_2 {w : World} {g : Nat} {x y z u : Value} {t : TypeId} (h : Cel w g [x, y, z, u] t) : w.cell? ⟨g, 2, none⟩ = some z := h.cell 2
theorem cel4_3 {w : World} {g : Nat} {x y z u : Value} {t : TypeId} (h : Cel w g [x, y, z, u] t) : w.cell? ⟨g, 3, none⟩ = some u := h.cell 3
theorem toolong_no (B : Nat) (s0 s1 s2 s3 : ByteArray) (w : World) (h : Cel w B [.string s0, .string s1, .string s2, .string s3] 22) (z0 : s0.size ≤ 100) (z1 : s1.size ≤ 100) (z2 : s2.size ≤ 100) (z3 : s3.size ≤ 100) :
  Calls Tryz.prog 64 #[.slice (some ⟨B, 0, none⟩) 4 4] w (Re w (.bool false)) := by
 have i0 : ¬ (100 : Int) < s0.size := by omega
 have i1 : ¬ (100 : Int) < s1.size := by omega
 have i2 : ¬ (100 : Int) < s2.size := by omega
 have i3 : ¬ (100 : Int) < s3.size := by omega
 go_enter Tryz.func64, Tryz.ntmps64
 go_wp2
 go_loopw [7] (fun i wr => Below w.heap.size w wr ∧ (i = .int .i64 0 ∨ i = .int .i64 1 ∨ i = .int .i64 2 ∨ i = .int .i64 3 ∨ i = .int .i64 4)) (fun i _ => 4 - (intOf i).toNat)
 case atStart => exact ⟨Below.refl _ _, Or.inl rfl⟩
 case round =>
  obtain ⟨bb, hi⟩ := hrel
  have k := h.below bb
  obtain ⟨c0, c1, c2, c3⟩ := xk4 k
  clear k
  rcases hi with rfl | rfl | rfl | rfl | rfl
  ·go_wp2
   exact ⟨⟨bb, Or.inr (Or.inl (by go_num))⟩, by simp [intOf]⟩
  ·go_wp2
   exact ⟨⟨bb, Or.inr (Or.inr (Or.inl (by go_num)))⟩, by simp [intOf]⟩
  ·go_wp2
   exact ⟨⟨bb, Or.inr (Or.inr (Or.inr (Or.inl (by go_num))))⟩, by simp [intOf]⟩
  ·go_wp2
   exact ⟨⟨bb, Or.inr (Or.inr (Or.inr (Or.inr (by go_num))))⟩, by simp [intOf]⟩
  ·go_wp2
   go_ret
   exact ⟨rfl, bb⟩
def RdPt (w : World) (a : Option Addr) (n : Nat) (N : Nat → Bool) (S D : Nat → ByteArray) (N' : Nat → Bool) (S' D' : Nat → ByteArray) : Prop :=
 ∀ j, j < n → ∃ b off, a = some ⟨b, off, none⟩ ∧ w.cell? ⟨b, off + j * 6, none⟩ = some (.bool (N j)) ∧ w.cell? ⟨b, off + j * 6 + 1, none⟩ = some (.string (S j)) ∧ w.cell? ⟨b, off + j * 6 + 2, none⟩ = some (.string (D j)) ∧ w.cell? ⟨b, off + j * 6 + 3, none⟩ = some (.bool (N' j)) ∧ w.cell? ⟨b, off + j * 6 + 4, none⟩ = some (.string (S' j)) ∧ w.cell? ⟨b, off + j * 6 + 5, none⟩ = some (.string (D' j))
theorem RdPt.below {w w' : World} {a : Option Addr} {n : Nat} {N N' : Nat → Bool} {S D S' D' : Nat → ByteArray} (h : RdPt w a n N S D N' S' D') (hb : Below w.heap.size w w') : RdPt w' a n N S D N' S' D' := by
 intro j hj
 obtain ⟨b, off, rfl, h0, h1, h2, h3, h4, h5⟩ := h j hj
 exact ⟨b, off, rfl, cell_below h0 hb, cell_below h1 hb, cell_below h2 hb, cell_below h3 hb, cell_below h4 hb, cell_below h5 hb⟩
theorem scheck_walk (a : Option Addr) (n cap : Nat) (N N' : Nat → Bool) (S D S' D' : Nat → ByteArray) (c : Nat → Nat) (w : World) (hn : n ≤ 1000000) (h : RdPt w a n N S D N' S' D')
  (HZ : Hid (∀ k, k < n → (S k).size ≤ 100 ∧ (D k).size ≤ 100 ∧ (S' k).size ≤ 100 ∧ (D' k).size ≤ 100))
  (HC : Hid (∀ (k : Nat) (w1 : World), k < n → Below w.heap.size w w1 → Calls Tryz.prog 141 #[.agg #[.bool (N k), .string (S k), .string (D k), .bool (N' k), .string (S' k), .string (D' k)]] w1 (Re w1 (.int .i64 (c k : Nat))))) :
  Calls Tryz.prog 106 #[.slice a n cap] w (Re w (.int .i64 (firstE c n : Nat))) := by
 replace h := shut h
 go_enter Tryz.func106, Tryz.ntmps106
 go_wp2
 go_loopw [8] (fun i wr => Below w.heap.size w wr ∧ ∃ k : Nat, k ≤ n ∧ i = .int .i64 k ∧ firstE c k = 0) (fun i _ => n - (intOf i).toNat)
 case atStart => exact ⟨Below.refl _ _, 0, by omega, rfl, rfl⟩
 case round =>
  obtain ⟨bb, k, hk, rfl, hz⟩ := hrel
  by_cases hkn : k < n
  ·obtain ⟨b, off, rfl, h0, h1, h2, h3, h4, h5⟩ := h.out.below bb k hkn
   go_wp2_with fail
   obtain ⟨w1, hw, kp, kq, b1⟩ := mk2 wr [.bool (N k), .string (S k), .string (D k), .bool (N' k), .string (S' k), .string (D' k)] [.string (S k), .string (D k), .string (S' k), .string (D' k)] 30 22
   rw [← hw]
   clear hw
   replace bb := Below.after bb b1
   clear b1 h0 h1 h2 h3 h4 h5
   go_fit (toolong_no _ _ _ _ _ _ kq (HZ.out k hkn).1 (HZ.out k hkn).2.1 (HZ.out k hkn).2.2.1 (HZ.out k hkn).2.2.2)
   rintro e w2 ⟨rfl, b1⟩
   replace kp := kp.below b1
   replace bb := Below.after bb b1
   clear b1 kq
   obtain ⟨c0, c1, c2, c3, c4, c5⟩ := xk6 kp
   go_wp2_with fail
   go_fit (HC.out k _ hkn bb)
   rintro e w3 ⟨rfl, b1⟩
   replace bb := Below.after bb b1
   clear b1 c0 c1 c2 c3 c4 c5 kp
   by_cases hc : c k = 0
   ·have hs : firstE c (k + 1) = 0 := by unfold firstE; rw [if_pos hz, hc]
    replace hs := shut hs
    replace hz := shut hz
    rw [hc]
    go_wp2
    exact ⟨⟨bb, k + 1, by omega, by go_num, hs.out⟩, by simp [intOf]; omega⟩
   ·have hs := firstE_stop hz hc n hkn
    replace hs := shut hs
    replace hz := shut hz
    go_wp2
    go_ret
    exact ⟨by rw [hs.out]; rfl, bb⟩
  ·obtain rfl : k = n := by omega
   replace hz := shut hz
   go_wp2
   go_ret
   exact ⟨by rw [hz.out]; rfl, bb⟩
theorem shared_walk (a : Option Addr) (n cap : Nat) (N : Nat → Bool) (S D U G F E C E' : Nat → ByteArray) (X Y : Nat → Int) (Q : Int) (L : Nat) (w : World) (hn : n ≤ 1000) (hL : L ≤ 1000) (h : RdQ w a n N S D)
  (H0 : Hid (∀ w1, Calls Tryz.prog 54 #[.int .i64 1] w1 (Re w1 (.agg #[.bool false, .string (U 0)]))))
  (H1 : Hid (∀ (k : Nat) (w1 : World), k < n → Below w.heap.size w w1 → Calls Tryz.prog 55 #[.agg #[.bool false, .string (U k)], .agg #[.bool false, .string (D k)]] w1 (Re w1 (.tuple #[.agg #[.bool false, .string (G k)], .int .i64 0]))))
  (H2 : Hid (∀ (k : Nat) (w1 : World), k < n → Below w.heap.size w w1 → Calls Tryz.prog 56 #[.agg #[.bool false, .string (D k)], .agg #[.bool false, .string (G k)]] w1 (Re w1 (.tuple #[.agg #[.bool false, .string (F k)], .agg #[.bool false, .string (E k)], .int .i64 0]))))
  (H3 : Hid (∀ (k : Nat) (w1 : World), k < n → Below w.heap.size w w1 → Calls Tryz.prog 57 #[.agg #[.bool false, .string (U k)], .agg #[.bool false, .string (F k)]] w1 (Re w1 (.tuple #[.agg #[.bool false, .string (U (k + 1))], .int .i64 0]))))
  (H4 : Hid (∀ (k : Nat) (w1 : World), k < n → Below w.heap.size w w1 → Calls Tryz.prog 56 #[.agg #[.bool false, .string (U n)], .agg #[.bool false, .string (D k)]] w1 (Re w1 (.tuple #[.agg #[.bool false, .string (C k)], .agg #[.bool false, .string (E' k)], .int .i64 0]))))
  (H5 : Hid (∀ (k : Nat) (w1 : World), k < n → Below w.heap.size w w1 → Calls Tryz.prog 58 #[.agg #[.bool (N k), .string (S k)]] w1 fun e w' => ∃ v, e = .returned (.agg #[.bool (N k), v]) ∧ NV w' (N k) v (X k) L ∧ Below w1.heap.size w1 w'))
  (H6 : Hid (∀ (k : Nat) (w1 : World), k < n → Below w.heap.size w w1 → Calls Tryz.prog 58 #[.agg #[.bool false, .string (C k)]] w1 fun e w' => ∃ v, e = .returned (.agg #[.bool false, v]) ∧ NV w' false v (Y k) L ∧ Below w1.heap.size w1 w'))
  (H7 : Hid (∀ (w1 : World), Below w.heap.size w w1 → Calls Tryz.prog 58 #[.agg #[.bool false, .string (U n)]] w1 fun e w' => ∃ v, e = .returned (.agg #[.bool false, v]) ∧ NV w' false v Q L ∧ Below w1.heap.size w1 w')) :
  Calls Tryz.prog 34 #[.slice a n cap] w fun e w' => ∃ g m v a l c, w.heap.size ≤ g ∧ e = .returned (.tuple #[.slice (some ⟨g, 0, none⟩) n n, .agg #[.bool false, .slice a l c]]) ∧ Cells w' g 68 (n * 2) (fnn m v n) ∧ NVs w' m v (fun q => X q * Y q) (L + L) n ∧ NV w' false (.slice a l c) Q L ∧ Below w.heap.size w w' := by
 replace h := shut h
 go_enter Tryz.func34, Tryz.ntmps34
 go_wp2_with fail
 obtain ⟨w0, hw, kr, bb⟩ := mk1 w [.bool false, .slice none 0 0] 68
 rw [← hw]
 clear hw
 go_fit (H0.out _)
 rintro e w1 ⟨rfl, b1⟩
 have sz := b1.size
 replace kr := kr.below b1
 replace bb := Below.after bb b1
 clear b1
 go_wp2_with fail
 obtain ⟨w2, hw, kU, b1⟩ := mk1 w1 [.bool false, .string (U 0)] 24
 rw [← hw]
 clear hw
 have tr := kr.lt
 replace kr := kr.below b1
 replace bb := Below.after bb b1
 clear b1
 go_loopw [22] (fun i wr => Below w.heap.size w wr ∧ ∃ k : Nat, k ≤ n ∧ i = .int .i64 k ∧ Cel wr w1.heap.size [.bool false, .string (U k)] 24 ∧ Cel wr w.heap.size [.bool false, .slice none 0 0] 68) (fun i _ => n - (intOf i).toNat)
 case atStart => exact ⟨bb, 0, by omega, rfl, kU, kr⟩
 case round =>
  clear bb kU kr
  obtain ⟨bb, k, hk, rfl, kU, kr⟩ := hrel
  by_cases hkn : k < n
  ·obtain ⟨b, off, rfl, h0, h1, h2⟩ := h.out.below bb k hkn
   obtain ⟨u0, u1⟩ := xk2 ((kU.alloc (.cells #[.bool (N k), .string (S k), .string (D k)] 26)).alloc (.cells #[.bool false, .string (D k)] 24))
   go_wp2_with fail
   obtain ⟨w3, hw, k6, k7, b1⟩ := mk2 wr [.bool (N k), .string (S k), .string (D k)] [.bool false, .string (D k)] 26 24
   rw [← hw]
   clear hw u0 u1 h0 h1 h2
   replace kU := kU.below b1
   replace kr := kr.below b1
   replace bb := Below.after bb b1
   clear b1
   go_fit (H1.out k _ hkn bb)
   rintro e w4 ⟨rfl, b1⟩
   replace kU := kU.below b1
   replace kr := kr.below b1
   replace k7 := k7.below b1
   replace bb := Below.after bb b1
   clear b1
   obtain ⟨x0, x1⟩ := xk2 (k7.alloc (.cells #[.bool false, .string (G k)] 24))
   obtain ⟨y0, y1⟩ := xk2 (Cel.new w4 [.bool false, .string (G k)] 24)
   go_wp2_with fail
   obtain ⟨w5, hw, k8, b1⟩ := mk1 w4 [.bool false, .string (G k)] 24
   rw [← hw]
   clear hw x0 x1 y0 y1 k6
   replace kU := kU.below b1
   replace kr := kr.below b1
   replace bb := Below.after bb b1
   clear b1
   go_fit (H2.out k _ hkn bb)
   rintro e w6 ⟨rfl, b1⟩
   replace kU := kU.below b1
   replace kr := kr.below b1
   replace bb := Below.after bb b1
   clear b1
   obtain ⟨u0, u1⟩ := xk2 ((kU.alloc (.cells #[.bool false, .string (F k)] 24)).alloc (.cells #[.bool false, .string (E k)] 24))
   obtain ⟨y0, y1⟩ := xk2 ((Cel.new w6 [.bool false, .string (F k)] 24).alloc (.cells #[.bool false, .string (E k)] 24))
   go_wp2_with fail
   obtain ⟨w7, hw, k10, k11, b1⟩ := mk2 w6 [.bool false, .string (F k)] [.bool false, .string (E k)] 24 24
   rw [← hw]
   clear hw u0 u1 y0 y1 k7 k8
   replace kU := kU.below b1
   replace kr := kr.below b1
   replace bb := Below.after bb b1
   clear b1
   go_fit (H3.out k _ hkn bb)
   rintro e w8 ⟨rfl, b1⟩
   replace kU := kU.below b1
   replace kr := kr.below b1
   replace bb := Below.after bb b1
   clear b1
   clear k10 k11
   obtain ⟨u0, u1⟩ := xk2 kU
   have f0 := Cel.frozen kU 0
   have f1 := Cel.frozen kU 1
   go_wp2
   exact ⟨⟨bset (bset bb (by omega) 0 _) (by omega) 1 _, k + 1, by omega, by go_num, (kU.set 0 _).set 1 _, (kr.other (by omega) 0 _).other (by omega) 1 _⟩, by simp [intOf]; omega⟩
  ·obtain rfl : k = n := by omega
   clear hkn hk
   have tU := kU.lt
   have tr2 := kr.lt
   have sb := bb.size
   go_wp2_with (at_make; refine wpList_mkN rfl _ _ rfl _ k rfl rfl rfl (by omega) ?_; intro w3 kg b1)
   replace kU := kU.below b1
   replace kr := kr.below b1
   replace bb := Below.after bb b1
   clear b1
   generalize wr.heap.size = gO at *
   go_loopw [54] (fun i wx => Below w.heap.size w wx ∧ ∃ (j : Nat) (m : Nat → Bool) (v : Nat → Value), j ≤ k ∧ i = .int .i64 j ∧ Cells wx gO 68 (k * 2) (fnn m v j) ∧ NVs wx m v (fun q => X q * Y q) (L + L) j ∧ Cel wx w1.heap.size [.bool false, .string (U k)] 24 ∧ Cel wx w.heap.size [.bool false, .slice none 0 0] 68) (fun i _ => k - (intOf i).toNat)
   case atStart => exact ⟨bb, 0, _, _, by omega, rfl, kg, fun q hq => absurd hq (by omega), kU, kr⟩
   case round =>
    clear bb kU kr kg
    obtain ⟨bb, j, m, v, hj, rfl, kg, hv, kU, kr⟩ := hrel
    have tg := kg.lt
    by_cases hjn : j < k
    ·obtain ⟨b, off, rfl, h0, h1, h2⟩ := h.out.below bb j hjn
     obtain ⟨u0, u1⟩ := xk2 (kU.alloc (.cells #[.bool (N j), .string (S j), .string (D j)] 26))
     go_wp2_with fail
     obtain ⟨w4, hw, k15, b1⟩ := mk1 wr [.bool (N j), .string (S j), .string (D j)] 26
     rw [← hw]
     clear hw u0 u1 h0 h1 h2
     replace kU := kU.below b1
     replace kr := kr.below b1
     replace kg := kg.below b1
     replace hv := hv.below b1
     replace bb := Below.after bb b1
     clear b1
     go_fit (H4.out j _ hjn bb)
     rintro e w5 ⟨rfl, b1⟩
     replace kU := kU.below b1
     replace kr := kr.below b1
     replace kg := kg.below b1
     replace k15 := k15.below b1
     replace hv := hv.below b1
     replace bb := Below.after bb b1
     clear b1
     have tg5 := kg.lt
     go_wp2_with fail
     obtain ⟨w6, hw, k16, k17, b1⟩ := mk2 w5 [.bool false, .string (C j)] [.bool false, .string (E' j)] 24 24
     rw [← hw]
     clear hw
     replace kU := kU.below b1
     replace kr := kr.below b1
     replace kg := kg.below b1
     replace k15 := k15.below b1
     replace hv := hv.below b1
     replace bb := Below.after bb b1
     clear b1
     have t15 := k15.lt
     have t16 := k16.lt
     have ne15 : wr.heap.size ≠ gO := by omega
     have ne16 : w5.heap.size ≠ gO := by omega
     have bd := bdrew w6
     replace kU := kU.below bd
     replace kr := kr.below bd
     replace kg := kg.below bd
     replace k15 := k15.below bd
     replace k16 := k16.below bd
     replace hv := hv.below bd
     replace bb := Below.after bb bd
     clear bd
     refine wp_region_held_drew (S := fun w' => xc3 w' wr.heap.size (.bool (N j)) (.string (S j)) (.string (D j)) ∧ xc2 w' w5.heap.size (.bool false) (.string (C j))) (by kernel_rfl) ⟨xk3 k15, xk2 k16⟩ (fun hS => ?_)
     generalize w6.drew = wd at *
     refine WA.start (n := 10) (by kernel_rfl) ?_
     refine WA.tp 0 rfl ?_
     refine WA.tp 1 rfl ?_
     refine WA.tp 2 rfl ?_
     refine WA.tp 3 rfl ?_
     refine WA.tp 5 rfl ?_
     refine WA.cal 4 rfl (fun K hK => ?_)
     simp only [List.getElem_toArray, List.getElem_cons_succ, List.getElem_cons_zero]
     go_simp
     go_fit (H5.out j _ hjn bb)
     rintro e wn ⟨v1, rfl, n1, b1⟩
     obtain ⟨a1, l1, c1, rfl⟩ := n1.slice
     replace kU := kU.below b1
     replace kr := kr.below b1
     replace kg := kg.below b1
     replace k15 := k15.below b1
     replace k16 := k16.below b1
     replace hv := hv.below b1
     replace bb := Below.after bb b1
     clear b1
     try go_wp2_with fail
     clear hS
     refine hK.out _ _ ⟨xk3 k15, xk2 k16⟩ (fun hS => ?_)
     clear hK K
     refine WA.cal 6 rfl (fun K hK => ?_)
     simp only [List.getElem_toArray, List.getElem_cons_succ, List.getElem_cons_zero]
     go_simp
     go_fit (H6.out j _ hjn bb)
     rintro e wm ⟨v2, rfl, n2, b1⟩
     obtain ⟨a2, l2, c2, rfl⟩ := n2.slice
     replace kU := kU.below b1
     replace kr := kr.below b1
     replace kg := kg.below b1
     replace k15 := k15.below b1
     replace k16 := k16.below b1
     replace n1 := n1.below b1
     replace hv := hv.below b1
     replace bb := Below.after bb b1
     clear b1
     try go_wp2_with fail
     clear hS
     refine hK.out _ _ ⟨xk3 k15, xk2 k16⟩ (fun hS => ?_)
     clear hK K
     refine WA.cal 7 rfl (fun K hK => ?_)
     simp only [List.getElem_toArray, List.getElem_cons_succ, List.getElem_cons_zero]
     go_simp
     go_fit (ntimes_any _ _ _ _ (X j) (Y j) L L _ hL hL n1 n2)
     rintro e wp ⟨m3, v3, rfl, n3, -, b1⟩
     obtain ⟨a3, l3, c3, rfl⟩ := n3.slice
     replace kU := kU.below b1
     replace kr := kr.below b1
     replace kg := kg.below b1
     replace k15 := k15.below b1
     replace k16 := k16.below b1
     replace hv := hv.below b1
     replace bb := Below.after bb b1
     clear b1
     clear n1 n2
     try go_wp2_with fail
     clear hS
     refine hK.out _ _ ⟨xk3 k15, xk2 k16⟩ (fun hS => ?_)
     clear hK K
     have i1 : (j : Int) < (k : Int) := by omega
     have i2 : ¬ (j : Int) < 0 := by omega
     refine WA.tp 8 rfl ?_
     have q0 := kg.cell (i := j * 2) (by omega)
     have q1 := kg.cell (i := j * 2 + 1) (by omega)
     have f0 := kg.frozen (j * 2)
     have f1 := kg.frozen (j * 2 + 1)
     refine WA.cal 9 rfl (fun K hK => ?_)
     simp only [List.getElem_toArray, List.getElem_cons_succ, List.getElem_cons_zero]
     go_simp
     try go_wp2_with fail
     clear q0 q1 f0 f1
     refine hK.out _ _ ⟨xk3 ((k15.other ne15 _ _).other ne15 _ _), xk2 ((k16.other ne16 _ _).other ne16 _ _)⟩ (fun _ => ?_)
     clear hK K hS
     refine WA.done (by kernel_rfl) ?_
     go_wp2
     exact ⟨⟨bset (bset bb (by omega) _ _) (by omega) _ _, j + 1, _, _, by omega, by go_num, kg.fill _ _, hv.fill kg n3 _, (kU.other (by omega) _ _).other (by omega) _ _, (kr.other (by omega) _ _).other (by omega) _ _⟩, by simp [intOf]; omega⟩
    ·obtain rfl : j = k := by omega
     obtain ⟨u0, u1⟩ := xk2 kU
     go_wp2_with fail
     clear u0 u1
     go_fit (H7.out _ bb)
     rintro e w9 ⟨v9, rfl, n9, b1⟩
     obtain ⟨a9, l9, c9, rfl⟩ := n9.slice
     replace kr := kr.below b1
     replace kg := kg.below b1
     replace hv := hv.below b1
     replace bb := Below.after bb b1
     clear b1
     obtain ⟨e0, e1⟩ := xk2 kr
     have f0 := Cel.frozen kr 0
     have f1 := Cel.frozen kr 1
     go_wp2
     exact post_tn (p := 3) (u := 2) (by kernel_rfl) rfl rfl rfl ((kr.set 0 _).set 1 _) ⟨gO, m, v, a9, l9, c9, sb, rfl, (kg.other (by omega) 0 _).other (by omega) 1 _, fun q hq => ⟨(hv q hq).1.set2 kr _ _, (hv q hq).2⟩, n9.set2 kr _ _, bset (bset bb (by omega) 0 _) (by omega) 1 _⟩
end Go.Proofs.YtbafjmjcepcckaaGreatDoor
