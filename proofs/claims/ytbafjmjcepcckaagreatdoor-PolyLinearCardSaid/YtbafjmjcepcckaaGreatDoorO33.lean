/-
  Rows of numbers of package span: made, filled one by one, read.
  Package poly: a polynomial made whole, at a place, walked.
  Package span: whether points may be asked.
  Package span: one number less another.
  Package span: the way from one point to another.
-/
import Derived.Test.YtbafjmjcepcckaaGreatDoorO32
set_option maxRecDepth 100000
set_option maxHeartbeats 16000000
namespace Go.Proofs.YtbafjmjcepcckaaGreatDoor
open Go.RowKit
def fnn (m : Nat → Bool) (v : Nat → Value) (k i : Nat) : Value := if i / 2 < k then (if i % 2 = 0 then .bool (m (i / 2)) else v (i / 2)) else (if i % 2 = 0 then .bool false else .slice none 0 0)
theorem fnn_0 (m : Nat → Bool) (v : Nat → Value) {k j : Nat} (h : j < k) : fnn m v k (j * 2) = .bool (m j) := by
 unfold fnn
 rw [show j * 2 / 2 = j by omega, if_pos h, if_pos (by omega)]
theorem fnn_1 (m : Nat → Bool) (v : Nat → Value) {k j : Nat} (h : j < k) : fnn m v k (j * 2 + 1) = v j := by
 unfold fnn
 rw [show (j * 2 + 1) / 2 = j by omega, if_pos h, if_neg (by omega)]
theorem cellsN0 : Value.cells (.agg #[.bool false, .slice none 0 0]) = #[.bool false, .slice none 0 0] := by kernel_rfl
theorem run_mkN (n : Nat) (hn : n ≤ 1000000) (w : World) :
  ∃ w', (Instr.makeSlice 65 (.int .i64 n) (.int .i64 n)).run Tryz.prog w = .ok (.slice (some ⟨w.heap.size, 0, none⟩) n n) w' ∧ Cells w' w.heap.size 68 (n * 2) (fnn (fun _ => false) (fun _ => .slice none 0 0) 0) ∧ Below w.heap.size w w' := by
 obtain ⟨i0, hi, hz0, hz1, hz2⟩ := info_parts (show (Tryz.prog.info? 68).map (fun i => (i.zero, i.size, i.bytes)) = some (some (.agg #[.bool false, .slice none 0 0]), 2, 32) by kernel_rfl)
 have h := run_make (P := Tryz.prog) w 65 68 i0 (.agg #[.bool false, .slice none 0 0]) Tryz.underlying65 hi hz0 .i64 .i64 n n (by omega) (by omega) (by rw [hz2]; omega) (by omega)
 rw [hz1, cellsN0, Int.toNat_natCast] at h
 refine ⟨_, h, ⟨_, heap_alloc_new w _, size_madeCells _ _, fun i hi => ?_⟩, (Below.refl _ _).alloc (Nat.le_refl _) _⟩
 have e : (madeCells #[Value.bool false, .slice none 0 0] (n * 2))[i]? = some (#[Value.bool false, .slice none 0 0][i % 2]!) := by
  simp [madeCells, hi]
 rw [e]
 unfold fnn
 rw [if_neg (by omega)]
 by_cases e0 : i % 2 = 0
 ·rw [if_pos e0, e0]; rfl
 ·rw [if_neg e0, show i % 2 = 1 by omega]; rfl
theorem wpList_mkN {w : World} {ops : Array Oper} {rest : List Oper} {o : Oper} {a : Act} {Q : Exit → Act → World → Prop}
  (hg : o.guard = none) (l c : Operand) (hop : o.op = Op.makeSlice 65 l c) (L : Int) (n : Nat) (hl : a.eval l = .int .i64 L) (hc : a.eval c = .int .i64 L) (hL : L = (n : Int)) (hn : n ≤ 1000000)
  (hK : ∀ w1, Cells w1 w.heap.size 68 (n * 2) (fnn (fun _ => false) (fun _ => .slice none 0 0) 0) → Below w.heap.size w w1 → wpList Tryz.prog ops Q rest (a.put o.dst (.slice (some ⟨w.heap.size, 0, none⟩) n n)) w1) :
  wpList Tryz.prog ops Q (o :: rest) a w := by
 refine wpList_plain hg fun K hK' => ?_
 subst hL
 obtain ⟨w', hrun, hc', hb⟩ := run_mkN n hn w
 unfold Oper.wp
 simp [execOp, hop, hl, hc, hrun, Result.andThen]
 exact hK' _ _ (hK _ hc' hb)
theorem Cells.fill {w : World} {g n : Nat} {m : Nat → Bool} {v : Nat → Value} {k : Nat} (h : Cells w g 68 (n * 2) (fnn m v k)) (x : Bool) (y : Value) :
  Cells ((w.setCell ⟨g, k * 2, none⟩ (.bool x)).setCell ⟨g, k * 2 + 1, none⟩ y) g 68 (n * 2) (fnn (fun j => if j = k then x else m j) (fun j => if j = k then y else v j) (k + 1)) := by
 refine ((h.set (k * 2) (.bool x)).set (k * 2 + 1) y).congr fun i _ => ?_
 unfold fnn
 by_cases h1 : i = k * 2 + 1
 ·rw [if_pos h1, h1, show (k * 2 + 1) / 2 = k by omega, if_pos (by omega), if_neg (by omega)]
  simp
 ·rw [if_neg h1]
  by_cases h0 : i = k * 2
  ·rw [if_pos h0, h0, show k * 2 / 2 = k by omega, if_pos (by omega), if_pos (by omega)]
   simp
  ·rw [if_neg h0]
   by_cases hk : i / 2 < k
   ·have e : ¬ i / 2 = k := by omega
    rw [if_pos hk, if_pos (show i / 2 < k + 1 by omega)]
    simp only [e, if_false]
   ·rw [if_neg hk, if_neg (show ¬ i / 2 < k + 1 by omega)]
theorem NV.setC {w : World} {n : Bool} {u : Value} {z : Int} {L g N k : Nat} {m : Nat → Bool} {v : Nat → Value} (h : NV w n u z L) (hc : Cells w g 68 N (fnn m v k)) (hv : ∀ j, j < k → ∃ a l c, v j = .slice a l c) (x y : Value) (i : Nat) : NV ((w.setCell ⟨g, i, none⟩ x).setCell ⟨g, i + 1, none⟩ y) n u z L := by
 obtain ⟨q, r, h1, h2⟩ := h
 have rx : RdX w u (M.digs B64 q) g := by
  obtain ⟨a, cap, rfl, hcap, r⟩ := r
  refine ⟨a, cap, rfl, hcap, fun j hj => ?_⟩
  obtain ⟨b, off, rfl, hcell⟩ := r j hj
  refine ⟨b, off, rfl, ?_, hcell⟩
  intro hbg
  subst hbg
  have hl : off + j < N := by
   obtain ⟨cs, hh, hs, -⟩ := hc
   rcases Nat.lt_or_ge (off + j) N with hq | hq
   ·exact hq
   ·have e : cs[off + j]? = some (.int .u64 (lm (M.digs B64 q) j : Nat)) := by simpa [World.cell?, hh] using hcell
    rw [Array.getElem?_eq_none (by omega)] at e
    cases e
  rw [hc.cell hl] at hcell
  unfold fnn at hcell
  split at hcell
  ·rename_i hk
   split at hcell
   ·cases hcell
   ·obtain ⟨a', l', c', e⟩ := hv _ hk
    rw [e] at hcell
    cases hcell
  ·split at hcell <;> cases hcell
 exact ⟨q, ((rx.setX i x).setX (i + 1) y).rd, h1, h2⟩
theorem post_tn {fn : Func} {p u : Tmp} {R : Ending → World → Prop} {a : Act} {w : World} {g : Nat} {x y v : Value} (h : fn.results = #[.tmp u, .cell p 68]) (hp : a.tmps.getD p undef = .pointer (some ⟨g, 0, none⟩)) (hu : a.tmps.getD u undef = v) (hd : a.defers = [])
  (hc : Cel w g [x, y] 68) (hR : R (.returned (.tuple #[v, .agg #[x, y]])) w) : bodyPost Tryz.prog fn R .ret a w := by
 refine ⟨hd, .tuple #[v, .agg #[x, y]], ?_, hR⟩
 have hp' : a.tmps[p]?.getD undef = .pointer (some ⟨g, 0, none⟩) := by simpa using hp
 have hu' : a.tmps[u]?.getD undef = v := by simpa using hu
 simp only [results, h]
 simp [Result.andThen, hp', hu', asAddr, load_n hc]
def NVs (w : World) (m : Nat → Bool) (v : Nat → Value) (Z : Nat → Int) (L k : Nat) : Prop := ∀ q, q < k → NV w (m q) (v q) (Z q) L ∧ ∃ a l c, v q = .slice a l c
theorem NVs.below {w w' : World} {m : Nat → Bool} {v : Nat → Value} {Z : Nat → Int} {L k : Nat} (h : NVs w m v Z L k) (hb : Below w.heap.size w w') : NVs w' m v Z L k := fun q hq => ⟨(h q hq).1.below hb, (h q hq).2⟩
theorem NVs.fill {w : World} {g N : Nat} {m : Nat → Bool} {v : Nat → Value} {Z : Nat → Int} {L k : Nat} (h : NVs w m v Z L k) (hc : Cells w g 68 N (fnn m v k)) {x : Bool} {a : Option Addr} {l c : Nat} (hn : NV w x (.slice a l c) (Z k) L) (i : Nat) :
  NVs ((w.setCell ⟨g, i, none⟩ (.bool x)).setCell ⟨g, i + 1, none⟩ (.slice a l c)) (fun j => if j = k then x else m j) (fun j => if j = k then .slice a l c else v j) Z L (k + 1) := fun q hq => by
 have hv : ∀ j, j < k → ∃ a l c, v j = .slice a l c := fun j hj => (h j hj).2
 by_cases e : q = k
 ·subst e
  simp only [if_true]
  exact ⟨hn.setC hc hv _ _ i, a, l, c, rfl⟩
 ·simp only [e, if_false]
  exact ⟨(h q (by omega)).1.setC hc hv _ _ i, (h q (by omega)).2⟩
theorem Cel.oth2 {w : World} {g g' : Nat} {cs : List Value} {t : TypeId} (h : Cel w g cs t) (hne : g ≠ g') (x0 x1 : Value) : Cel ((w.setCell ⟨g', 0, none⟩ x0).setCell ⟨g', 1, none⟩ x1) g cs t := (h.other hne 0 x0).other hne 1 x1
abbrev xc12 (w : World) (g : Nat) (x0 x1 x2 x3 x4 x5 x6 x7 x8 x9 x10 x11 : Value) : Prop := w.cell? ⟨g, 0, none⟩ = some x0 ∧ w.cell? ⟨g, 1, none⟩ = some x1 ∧ w.cell? ⟨g, 2, none⟩ = some x2 ∧ w.cell? ⟨g, 3, none⟩ = some x3 ∧ w.cell? ⟨g, 4, none⟩ = some x4 ∧ w.cell? ⟨g, 5, none⟩ = some x5 ∧ w.cell? ⟨g, 6, none⟩ = some x6 ∧ w.cell? ⟨g, 7, none⟩ = some x7 ∧ w.cell? ⟨g, 8, none⟩ = some x8 ∧ w.cell? ⟨g, 9, none⟩ = some x9 ∧ w.cell? ⟨g, 10, none⟩ = some x10 ∧ w.cell? ⟨g, 11, none⟩ = some x11
theorem xk12 {w : World} {g : Nat} {t : TypeId} {x0 x1 x2 x3 x4 x5 x6 x7 x8 x9 x10 x11 : Value} (h : Cel w g [x0, x1, x2, x3, x4, x5, x6, x7, x8, x9, x10, x11] t) : xc12 w g x0 x1 x2 x3 x4 x5 x6 x7 x8 x9 x10 x11 := ⟨h.cell 0, h.cell 1, h.cell 2, h.cell 3, h.cell 4, h.cell 5, h.cell 6, h.cell 7, h.cell 8, h.cell 9, h.cell 10, h.cell 11⟩
theorem mk5n (w : World) (c0 c1 c2 c3 c4 : List Value) (t0 t1 t2 t3 t4 : TypeId) : ∃ w', w' = ((((w.alloc (.cells c0.toArray t0)).alloc (.cells c1.toArray t1)).alloc (.cells c2.toArray t2)).alloc (.cells c3.toArray t3)).alloc (.cells c4.toArray t4) ∧ Cel w' w.heap.size c0 t0 ∧ Cel w' (w.heap.size + 1) c1 t1 ∧ Cel w' (w.heap.size + 1 + 1) c2 t2 ∧ Cel w' (w.heap.size + 1 + 1 + 1) c3 t3 ∧ Cel w' (w.heap.size + 1 + 1 + 1 + 1) c4 t4 ∧ Below w.heap.size w w' := by
 obtain ⟨v, hv, k0, k1, k2, k3, b⟩ := mk4 w c0 c1 c2 c3 t0 t1 t2 t3
 obtain ⟨u, hu, k4, b'⟩ := mk1 v c4 t4
 have hs : v.heap.size = w.heap.size + 1 + 1 + 1 + 1 := by rw [hv]; simp
 refine ⟨u, by rw [hu, hv], k0.below b', k1.below b', k2.below b', k3.below b', by rw [← hs]; exact k4, Below.after b b'⟩
theorem at_walk (r0 r1 r2 r3 r4 r5 : Bool) (ra0 ra1 ra2 ra3 ra4 ra5 : Option Addr) (rl0 rc0 rl1 rc1 rl2 rc2 rl3 rc3 rl4 rc4 rl5 rc5 : Nat) (uv xn yn tn : Bool) (ua xa ya ta : Option Addr) (ul uc xl xc yl yc tl tc : Nat) (Z0 Z1 Z2 Z3 Z4 Z5 X Y T : Int) (La Lx G : Nat) (w : World) (hL : La + Lx + Lx + 10 ≤ 1000)
  (kG : Cel w G [.bool r0, .slice ra0 rl0 rc0, .bool r1, .slice ra1 rl1 rc1, .bool r2, .slice ra2 rl2 rc2, .bool r3, .slice ra3 rl3 rc3, .bool r4, .slice ra4 rl4 rc4, .bool r5, .slice ra5 rl5 rc5] 68)
  (n0 : NV w r0 (.slice ra0 rl0 rc0) Z0 La)
  (n1 : NV w r1 (.slice ra1 rl1 rc1) Z1 La)
  (n2 : NV w r2 (.slice ra2 rl2 rc2) Z2 La)
  (n3 : NV w r3 (.slice ra3 rl3 rc3) Z3 La)
  (n4 : NV w r4 (.slice ra4 rl4 rc4) Z4 La)
  (n5 : NV w r5 (.slice ra5 rl5 rc5) Z5 La)
  (nx : NV w xn (.slice xa xl xc) X Lx)
  (ny : NV w yn (.slice ya yl yc) Y Lx)
  (nt : NV w tn (.slice ta tl tc) T Lx) :
  Calls Tryz.prog 35 #[.agg #[.slice (some ⟨G, 0, none⟩) 6 6, .bool uv, .slice ua ul uc], .agg #[.bool xn, .slice xa xl xc], .agg #[.bool yn, .slice ya yl yc], .agg #[.bool tn, .slice ta tl tc]] w fun e w' => ∃ m a l c, e = .returned (.agg #[.bool m, .slice a l c]) ∧ NV w' m (.slice a l c) ((Z0 * T + Z1 * X + Z2 * Y) * T + (Z3 * X + Z4 * Y) * X + Z5 * Y * Y) (La + Lx + Lx + 4) ∧ Below w.heap.size w w' := by
 go_enter Tryz.func35, Tryz.ntmps35
 go_wp2_with fail
 obtain ⟨w1, hw, k4, kx, ky, kt, kr, bb⟩ := mk5n w [.slice (some ⟨G, 0, none⟩) 6 6, .bool uv, .slice ua ul uc] [.bool xn, .slice xa xl xc] [.bool yn, .slice ya yl yc] [.bool tn, .slice ta tl tc] [.bool false, .slice none 0 0] 70 68 68 68 68
 rw [← hw]
 clear hw k4
 have tG := kG.lt
 replace kG := kG.below bb
 replace n0 := n0.below bb
 replace n1 := n1.below bb
 replace n2 := n2.below bb
 replace n3 := n3.below bb
 replace n4 := n4.below bb
 replace n5 := n5.below bb
 replace nx := nx.below bb
 replace ny := ny.below bb
 replace nt := nt.below bb
 have tr := kr.lt
 have mk : Hid (∀ w', SB w1 w' → xc12 w' G (.bool r0) (.slice ra0 rl0 rc0) (.bool r1) (.slice ra1 rl1 rc1) (.bool r2) (.slice ra2 rl2 rc2) (.bool r3) (.slice ra3 rl3 rc3) (.bool r4) (.slice ra4 rl4 rc4) (.bool r5) (.slice ra5 rl5 rc5) ∧ xc2 w' (w.heap.size + 1) (.bool xn) (.slice xa xl xc) ∧ xc2 w' (w.heap.size + 1 + 1) (.bool yn) (.slice ya yl yc)) := fun w' h => ⟨xk12 (kG.below h), xk2 (kx.below h), xk2 (ky.below h)⟩
 go_cut [10] from 15 to 27 (fun v wx => ∃ gc m24 a24 l24 c24, v = .pointer (some ⟨gc, 0, none⟩) ∧ w1.heap.size ≤ gc ∧ Cel wx gc [.bool m24, .slice a24 l24 c24] 68 ∧ NV wx m24 (.slice a24 l24 c24) ((((Z3) * (X)) + ((Z4) * (Y))) * (X)) (((La + Lx) + 1) + Lx) ∧ Below w1.heap.size w1 wx)
 case first =>
  refine wp_region_held_drew (S := SB w1) (by kernel_rfl) (bdrew _) (fun bc => ?_)
  refine WA.start (n := 15) (by kernel_rfl) ?_
  refine WA.tk 0 rfl ?_
  refine WA.tk 1 rfl ?_
  refine WA.tl 2 rfl ?_
  refine WA.tl 3 rfl ?_
  refine WA.tk 5 rfl ?_
  refine WA.tk 6 rfl ?_
  refine WA.tl 7 rfl ?_
  refine WA.tl 8 rfl ?_
  refine WA.tl 11 rfl ?_
  refine WA.gen (i := 13) (s := 10) undef (Pt w1 [.bool false, .slice none 0 0] 68) (fun b x hz => ?_)
  simp only [Act.put, List.setIfInBounds_toArray, List.set_cons_zero, List.set_cons_succ]
  revert b x
  refine WA.one 15 2543 4 13 rfl rfl bc ?_
  clear bc
  intro b x w' hz bx bc K hK
  clear bx
  simp only [List.getElem_toArray, List.getElem_cons_succ, List.getElem_cons_zero]
  go_simp
  go_fit (ntimes_any _ _ _ _ (Z3) (X) La Lx _ (by omega) (by omega) (n3.below bc) (nx.below bc))
  rintro e wn ⟨m21, v21, rfl, nv21, -, bn⟩
  obtain ⟨a21, l21, c21, rfl⟩ := nv21.slice
  replace bc := Below.after bc bn
  try go_wp2_with fail
  refine hK.out _ _ bc (fun _ => ?_)
  replace hz := fun h => (hz h).below bn
  clear hK K bn
  revert b x
  refine WA.one 15 2559 9 13 rfl rfl bc ?_
  clear bc
  intro b x w' hz bx bc K hK
  replace nv21 := nv21.below bx
  clear bx
  simp only [List.getElem_toArray, List.getElem_cons_succ, List.getElem_cons_zero]
  go_simp
  go_fit (ntimes_any _ _ _ _ (Z4) (Y) La Lx _ (by omega) (by omega) (n4.below bc) (ny.below bc))
  rintro e wn ⟨m22, v22, rfl, nv22, -, bn⟩
  obtain ⟨a22, l22, c22, rfl⟩ := nv22.slice
  replace bc := Below.after bc bn
  try go_wp2_with fail
  refine hK.out _ _ bc (fun _ => ?_)
  replace hz := fun h => (hz h).below bn
  replace nv21 := nv21.below bn
  clear hK K bn
  revert b x
  refine WA.one 15 3071 10 13 rfl rfl bc ?_
  clear bc
  intro b x w' hz bx bc K hK
  replace nv21 := nv21.below bx
  replace nv22 := nv22.below bx
  clear bx
  simp only [List.getElem_toArray, List.getElem_cons_succ, List.getElem_cons_zero]
  go_simp
  go_fit (nplus_any _ _ _ _ ((Z3) * (X)) ((Z4) * (Y)) (La + Lx) _ (by omega) nv21 nv22)
  rintro e wn ⟨m23, v23, rfl, nv23, bn⟩
  obtain ⟨a23, l23, c23, rfl⟩ := nv23.slice
  replace bc := Below.after bc bn
  try go_wp2_with fail
  refine hK.out _ _ bc (fun _ => ?_)
  replace hz := fun h => (hz h).below bn
  clear hK K bn nv21 nv22
  revert b x
  refine WA.one 15 4095 12 13 rfl rfl bc ?_
  clear bc
  intro b x w' hz bx bc K hK
  replace nv23 := nv23.below bx
  clear bx
  simp only [List.getElem_toArray, List.getElem_cons_succ, List.getElem_cons_zero]
  go_simp
  go_fit (ntimes_any _ _ _ _ (((Z3) * (X)) + ((Z4) * (Y))) (X) ((La + Lx) + 1) Lx _ (by omega) (by omega) nv23 (nx.below bc))
  rintro e wn ⟨m24, v24, rfl, nv24, -, bn⟩
  obtain ⟨a24, l24, c24, rfl⟩ := nv24.slice
  replace bc := Below.after bc bn
  try go_wp2_with fail
  refine hK.out _ _ bc (fun _ => ?_)
  replace hz := fun h => (hz h).below bn
  clear hK K bn nv23
  revert b x
  refine WA.fin 13 rfl bc ?_
  clear bc
  intro x w' hz bx bc
  replace nv24 := nv24.below bx
  obtain ⟨g0, rfl, h0, k0⟩ := hz
  clear bx
  obtain ⟨e0, e1⟩ := xk2 k0
  have f0 := Cel.frozen k0 0
  have f1 := Cel.frozen k0 1
  refine WA.call 14 rfl (fun K hK => ?_)
  simp only [List.getElem_toArray, List.getElem_cons_succ, List.getElem_cons_zero]
  go_simp
  try go_wp2_with fail
  clear e0 f0 e1 f1
  replace bc := (bset (bset bc h0 0 (.bool m24)) h0 1 (.slice a24 l24 c24))
  refine hK.out _ _ bc (fun _ => ?_)
  clear hK K
  replace nv24 := nv24.set2 k0 (.bool m24) (.slice a24 l24 c24)
  replace k0 := (Cel.set (Cel.set k0 0 (.bool m24)) 1 (.slice a24 l24 c24))
  refine WA.done (by kernel_rfl) ?_
  go_wp2_with fail
  go_meet
  exact ⟨_, m24, a24, l24, c24, rfl, h0, k0, nv24, bc⟩
 case rest =>
 obtain ⟨gp, m24, a24, l24, c24, rfl, lp, kp, nv24, b1⟩ := hcut
 clear mk; have sz := b1.size
 replace kx := kx.below b1
 replace ky := ky.below b1
 replace kt := kt.below b1
 replace kG := kG.below b1
 replace kr := kr.below b1
 replace bb := Below.after bb b1
 replace n0 := n0.below b1
 replace n1 := n1.below b1
 replace n2 := n2.below b1
 replace n3 := n3.below b1
 replace n4 := n4.below b1
 replace n5 := n5.below b1
 replace nx := nx.below b1
 replace ny := ny.below b1
 replace nt := nt.below b1
 clear b1
 have tp := kp.lt
 go_wp2_with fail
 have mk : Hid (∀ w', SB wc w' → xc12 w' G (.bool r0) (.slice ra0 rl0 rc0) (.bool r1) (.slice ra1 rl1 rc1) (.bool r2) (.slice ra2 rl2 rc2) (.bool r3) (.slice ra3 rl3 rc3) (.bool r4) (.slice ra4 rl4 rc4) (.bool r5) (.slice ra5 rl5 rc5) ∧ xc2 w' (w.heap.size + 1 + 1) (.bool yn) (.slice ya yl yc)) := fun w' h => ⟨xk12 (kG.below h), xk2 (ky.below h)⟩
 go_cut [11] from 28 to 34 (fun v wx => ∃ gc m26 a26 l26 c26, v = .pointer (some ⟨gc, 0, none⟩) ∧ wc.heap.size ≤ gc ∧ Cel wx gc [.bool m26, .slice a26 l26 c26] 68 ∧ NV wx m26 (.slice a26 l26 c26) (((Z5) * (Y)) * (Y)) ((La + Lx) + Lx) ∧ Below wc.heap.size wc wx)
 case first =>
  refine wp_region_held_drew (S := SB wc) (by kernel_rfl) (bdrew _) (fun bc => ?_)
  refine WA.start (n := 9) (by kernel_rfl) ?_
  refine WA.tk 0 rfl ?_
  refine WA.tk 1 rfl ?_
  refine WA.tl 2 rfl ?_
  refine WA.tl 3 rfl ?_
  refine WA.tl 5 rfl ?_
  refine WA.gen (i := 7) (s := 11) undef (Pt wc [.bool false, .slice none 0 0] 68) (fun b x hz => ?_)
  simp only [Act.put, List.setIfInBounds_toArray, List.set_cons_zero, List.set_cons_succ]
  revert b x
  refine WA.one 9 47 4 7 rfl rfl bc ?_
  clear bc
  intro b x w' hz bx bc K hK
  clear bx
  simp only [List.getElem_toArray, List.getElem_cons_succ, List.getElem_cons_zero]
  go_simp
  go_fit (ntimes_any _ _ _ _ (Z5) (Y) La Lx _ (by omega) (by omega) (n5.below bc) (ny.below bc))
  rintro e wn ⟨m25, v25, rfl, nv25, -, bn⟩
  obtain ⟨a25, l25, c25, rfl⟩ := nv25.slice
  replace bc := Below.after bc bn
  try go_wp2_with fail
  refine hK.out _ _ bc (fun _ => ?_)
  replace hz := fun h => (hz h).below bn
  clear hK K bn
  revert b x
  refine WA.one 9 63 6 7 rfl rfl bc ?_
  clear bc
  intro b x w' hz bx bc K hK
  replace nv25 := nv25.below bx
  clear bx
  simp only [List.getElem_toArray, List.getElem_cons_succ, List.getElem_cons_zero]
  go_simp
  go_fit (ntimes_any _ _ _ _ ((Z5) * (Y)) (Y) (La + Lx) Lx _ (by omega) (by omega) nv25 (ny.below bc))
  rintro e wn ⟨m26, v26, rfl, nv26, -, bn⟩
  obtain ⟨a26, l26, c26, rfl⟩ := nv26.slice
  replace bc := Below.after bc bn
  try go_wp2_with fail
  refine hK.out _ _ bc (fun _ => ?_)
  replace hz := fun h => (hz h).below bn
  clear hK K bn nv25
  revert b x
  refine WA.fin 7 rfl bc ?_
  clear bc
  intro x w' hz bx bc
  replace nv26 := nv26.below bx
  obtain ⟨g0, rfl, h0, k0⟩ := hz
  clear bx
  obtain ⟨e0, e1⟩ := xk2 k0
  have f0 := Cel.frozen k0 0
  have f1 := Cel.frozen k0 1
  refine WA.call 8 rfl (fun K hK => ?_)
  simp only [List.getElem_toArray, List.getElem_cons_succ, List.getElem_cons_zero]
  go_simp
  try go_wp2_with fail
  clear e0 f0 e1 f1
  replace bc := (bset (bset bc h0 0 (.bool m26)) h0 1 (.slice a26 l26 c26))
  refine hK.out _ _ bc (fun _ => ?_)
  clear hK K
  replace nv26 := nv26.set2 k0 (.bool m26) (.slice a26 l26 c26)
  replace k0 := (Cel.set (Cel.set k0 0 (.bool m26)) 1 (.slice a26 l26 c26))
  refine WA.done (by kernel_rfl) ?_
  go_wp2_with fail
  go_meet
  exact ⟨_, m26, a26, l26, c26, rfl, h0, k0, nv26, bc⟩
 case rest =>
 obtain ⟨gq, m26, a26, l26, c26, rfl, lq, kq, nv26, b1⟩ := hcut
 clear mk; have sz := b1.size
 replace kx := kx.below b1
 replace ky := ky.below b1
 replace kt := kt.below b1
 replace kG := kG.below b1
 replace kr := kr.below b1
 replace kp := kp.below b1
 replace bb := Below.after bb b1
 replace n0 := n0.below b1
 replace n1 := n1.below b1
 replace n2 := n2.below b1
 replace n3 := n3.below b1
 replace n4 := n4.below b1
 replace n5 := n5.below b1
 replace nx := nx.below b1
 replace ny := ny.below b1
 replace nt := nt.below b1
 replace nv24 := nv24.below b1
 clear b1
 have tq := kq.lt
 go_wp2_with fail
 have mk : Hid (∀ w', SB wc w' → xc12 w' G (.bool r0) (.slice ra0 rl0 rc0) (.bool r1) (.slice ra1 rl1 rc1) (.bool r2) (.slice ra2 rl2 rc2) (.bool r3) (.slice ra3 rl3 rc3) (.bool r4) (.slice ra4 rl4 rc4) (.bool r5) (.slice ra5 rl5 rc5) ∧ xc2 w' (w.heap.size + 1) (.bool xn) (.slice xa xl xc) ∧ xc2 w' (w.heap.size + 1 + 1) (.bool yn) (.slice ya yl yc) ∧ xc2 w' (w.heap.size + 1 + 1 + 1) (.bool tn) (.slice ta tl tc)) := fun w' h => ⟨xk12 (kG.below h), xk2 (kx.below h), xk2 (ky.below h), xk2 (kt.below h)⟩
 go_cut [12] from 35 to 51 (fun v wx => ∃ gc m31 a31 l31 c31, v = .pointer (some ⟨gc, 0, none⟩) ∧ wc.heap.size ≤ gc ∧ Cel wx gc [.bool m31, .slice a31 l31 c31] 68 ∧ NV wx m31 (.slice a31 l31 c31) ((((Z0) * (T)) + ((Z1) * (X))) + ((Z2) * (Y))) (((La + Lx) + 1) + 1) ∧ Below wc.heap.size wc wx)
 case first =>
  refine wp_region_held_drew (S := SB wc) (by kernel_rfl) (bdrew _) (fun bc => ?_)
  refine WA.start (n := 19) (by kernel_rfl) ?_
  refine WA.tk 0 rfl ?_
  refine WA.tk 1 rfl ?_
  refine WA.tl 2 rfl ?_
  refine WA.tl 3 rfl ?_
  refine WA.tk 5 rfl ?_
  refine WA.tk 6 rfl ?_
  refine WA.tl 7 rfl ?_
  refine WA.tl 8 rfl ?_
  refine WA.tk 11 rfl ?_
  refine WA.tk 12 rfl ?_
  refine WA.tl 13 rfl ?_
  refine WA.tl 14 rfl ?_
  refine WA.gen (i := 17) (s := 12) undef (Pt wc [.bool false, .slice none 0 0] 68) (fun b x hz => ?_)
  simp only [Act.put, List.setIfInBounds_toArray, List.set_cons_zero, List.set_cons_succ]
  revert b x
  refine WA.one 19 31215 4 17 rfl rfl bc ?_
  clear bc
  intro b x w' hz bx bc K hK
  clear bx
  simp only [List.getElem_toArray, List.getElem_cons_succ, List.getElem_cons_zero]
  go_simp
  go_fit (ntimes_any _ _ _ _ (Z0) (T) La Lx _ (by omega) (by omega) (n0.below bc) (nt.below bc))
  rintro e wn ⟨m27, v27, rfl, nv27, -, bn⟩
  obtain ⟨a27, l27, c27, rfl⟩ := nv27.slice
  replace bc := Below.after bc bn
  try go_wp2_with fail
  refine hK.out _ _ bc (fun _ => ?_)
  replace hz := fun h => (hz h).below bn
  clear hK K bn
  revert b x
  refine WA.one 19 31231 9 17 rfl rfl bc ?_
  clear bc
  intro b x w' hz bx bc K hK
  replace nv27 := nv27.below bx
  clear bx
  simp only [List.getElem_toArray, List.getElem_cons_succ, List.getElem_cons_zero]
  go_simp
  go_fit (ntimes_any _ _ _ _ (Z1) (X) La Lx _ (by omega) (by omega) (n1.below bc) (nx.below bc))
  rintro e wn ⟨m28, v28, rfl, nv28, -, bn⟩
  obtain ⟨a28, l28, c28, rfl⟩ := nv28.slice
  replace bc := Below.after bc bn
  try go_wp2_with fail
  refine hK.out _ _ bc (fun _ => ?_)
  replace hz := fun h => (hz h).below bn
  replace nv27 := nv27.below bn
  clear hK K bn
  revert b x
  refine WA.one 19 31743 10 17 rfl rfl bc ?_
  clear bc
  intro b x w' hz bx bc K hK
  replace nv27 := nv27.below bx
  replace nv28 := nv28.below bx
  clear bx
  simp only [List.getElem_toArray, List.getElem_cons_succ, List.getElem_cons_zero]
  go_simp
  go_fit (nplus_any _ _ _ _ ((Z0) * (T)) ((Z1) * (X)) (La + Lx) _ (by omega) nv27 nv28)
  rintro e wn ⟨m29, v29, rfl, nv29, bn⟩
  obtain ⟨a29, l29, c29, rfl⟩ := nv29.slice
  replace bc := Below.after bc bn
  try go_wp2_with fail
  refine hK.out _ _ bc (fun _ => ?_)
  replace hz := fun h => (hz h).below bn
  clear hK K bn nv27 nv28
  revert b x
  refine WA.one 19 32767 15 17 rfl rfl bc ?_
  clear bc
  intro b x w' hz bx bc K hK
  replace nv29 := nv29.below bx
  clear bx
  simp only [List.getElem_toArray, List.getElem_cons_succ, List.getElem_cons_zero]
  go_simp
  go_fit (ntimes_any _ _ _ _ (Z2) (Y) La Lx _ (by omega) (by omega) (n2.below bc) (ny.below bc))
  rintro e wn ⟨m30, v30, rfl, nv30, -, bn⟩
  obtain ⟨a30, l30, c30, rfl⟩ := nv30.slice
  replace bc := Below.after bc bn
  try go_wp2_with fail
  refine hK.out _ _ bc (fun _ => ?_)
  replace hz := fun h => (hz h).below bn
  replace nv29 := nv29.below bn
  clear hK K bn
  revert b x
  refine WA.one 19 65535 16 17 rfl rfl bc ?_
  clear bc
  intro b x w' hz bx bc K hK
  replace nv29 := nv29.below bx
  replace nv30 := nv30.below bx
  clear bx
  simp only [List.getElem_toArray, List.getElem_cons_succ, List.getElem_cons_zero]
  go_simp
  go_fit (nplus_any _ _ _ _ (((Z0) * (T)) + ((Z1) * (X))) ((Z2) * (Y)) ((La + Lx) + 1) _ (by omega) nv29 (nv30.mono (by omega)))
  rintro e wn ⟨m31, v31, rfl, nv31, bn⟩
  obtain ⟨a31, l31, c31, rfl⟩ := nv31.slice
  replace bc := Below.after bc bn
  try go_wp2_with fail
  refine hK.out _ _ bc (fun _ => ?_)
  replace hz := fun h => (hz h).below bn
  clear hK K bn nv29 nv30
  revert b x
  refine WA.fin 17 rfl bc ?_
  clear bc
  intro x w' hz bx bc
  replace nv31 := nv31.below bx
  obtain ⟨g0, rfl, h0, k0⟩ := hz
  clear bx
  obtain ⟨e0, e1⟩ := xk2 k0
  have f0 := Cel.frozen k0 0
  have f1 := Cel.frozen k0 1
  refine WA.call 18 rfl (fun K hK => ?_)
  simp only [List.getElem_toArray, List.getElem_cons_succ, List.getElem_cons_zero]
  go_simp
  try go_wp2_with fail
  clear e0 f0 e1 f1
  replace bc := (bset (bset bc h0 0 (.bool m31)) h0 1 (.slice a31 l31 c31))
  refine hK.out _ _ bc (fun _ => ?_)
  clear hK K
  replace nv31 := nv31.set2 k0 (.bool m31) (.slice a31 l31 c31)
  replace k0 := (Cel.set (Cel.set k0 0 (.bool m31)) 1 (.slice a31 l31 c31))
  refine WA.done (by kernel_rfl) ?_
  go_wp2_with fail
  go_meet
  exact ⟨_, m31, a31, l31, c31, rfl, h0, k0, nv31, bc⟩
 case rest =>
 obtain ⟨gs, m31, a31, l31, c31, rfl, ls, ks, nv31, b1⟩ := hcut
 clear mk; have sz := b1.size
 replace kx := kx.below b1
 replace ky := ky.below b1
 replace kt := kt.below b1
 replace kG := kG.below b1
 replace kr := kr.below b1
 replace kp := kp.below b1
 replace kq := kq.below b1
 replace bb := Below.after bb b1
 replace nt := nt.below b1
 replace nv24 := nv24.below b1
 replace nv26 := nv26.below b1
 clear b1
 have ts := ks.lt
 clear n0 n1 n2 n3 n4 n5 nx ny kG kx ky
 go_wp2_with fail
 have qs : gs ≠ w.heap.size + 1 + 1 + 1 + 1 := by omega
 have qp : gp ≠ w.heap.size + 1 + 1 + 1 + 1 := by omega
 have qq : gq ≠ w.heap.size + 1 + 1 + 1 + 1 := by omega
 have qt : w.heap.size + 1 + 1 + 1 ≠ w.heap.size + 1 + 1 + 1 + 1 := by omega
 have bd := bdrew wc
 replace kt := kt.below bd
 replace kr := kr.below bd
 replace kp := kp.below bd
 replace kq := kq.below bd
 replace ks := ks.below bd
 replace nt := nt.below bd
 replace nv24 := nv24.below bd
 replace nv26 := nv26.below bd
 replace nv31 := nv31.below bd
 replace bb := Below.after bb bd
 clear bd
 refine wp_region_held_drew (S := fun w' => xc2 w' gs (.bool m31) (.slice a31 l31 c31) ∧ xc2 w' (w.heap.size + 1 + 1 + 1) (.bool tn) (.slice ta tl tc) ∧ xc2 w' gp (.bool m24) (.slice a24 l24 c24) ∧ xc2 w' gq (.bool m26) (.slice a26 l26 c26)) (by kernel_rfl) ⟨xk2 ks, xk2 kt, xk2 kp, xk2 kq⟩ (fun hS => ?_)
 refine WA.start (n := 8) (by kernel_rfl) ?_
 refine WA.tp 0 rfl ?_
 refine WA.tp 1 rfl ?_
 refine WA.tp 3 rfl ?_
 refine WA.tp 5 rfl ?_
 refine WA.cal 2 rfl (fun K hK => ?_)
 simp only [List.getElem_toArray, List.getElem_cons_succ, List.getElem_cons_zero]
 go_simp
 go_fit (ntimes_any _ _ _ _ ((((Z0) * (T)) + ((Z1) * (X))) + ((Z2) * (Y))) (T) ((La + Lx) + 1 + 1) Lx _ (by omega) (by omega) nv31 nt)
 rintro e wn ⟨m32, v32, rfl, nv32, -, bn⟩
 obtain ⟨a32, l32, c32, rfl⟩ := nv32.slice
 replace kt := kt.below bn
 replace kr := kr.below bn
 replace kp := kp.below bn
 replace kq := kq.below bn
 replace ks := ks.below bn
 replace nt := nt.below bn
 replace nv24 := nv24.below bn
 replace nv26 := nv26.below bn
 replace nv31 := nv31.below bn
 replace bb := Below.after bb bn
 try go_wp2_with fail
 clear hS
 refine hK.out _ _ ⟨xk2 ks, xk2 kt, xk2 kp, xk2 kq⟩ (fun hS => ?_)
 clear hK K bn
 refine WA.cal 4 rfl (fun K hK => ?_)
 simp only [List.getElem_toArray, List.getElem_cons_succ, List.getElem_cons_zero]
 go_simp
 go_fit (nplus_any _ _ _ _ (((((Z0) * (T)) + ((Z1) * (X))) + ((Z2) * (Y))) * (T)) ((((Z3) * (X)) + ((Z4) * (Y))) * (X)) ((La + Lx) + 1 + 1 + Lx) _ (by omega) nv32 (nv24.mono (by omega)))
 rintro e wn ⟨m33, v33, rfl, nv33, bn⟩
 obtain ⟨a33, l33, c33, rfl⟩ := nv33.slice
 replace kt := kt.below bn
 replace kr := kr.below bn
 replace kp := kp.below bn
 replace kq := kq.below bn
 replace ks := ks.below bn
 replace nt := nt.below bn
 replace nv24 := nv24.below bn
 replace nv26 := nv26.below bn
 replace nv31 := nv31.below bn
 replace nv32 := nv32.below bn
 replace bb := Below.after bb bn
 try go_wp2_with fail
 clear hS
 refine hK.out _ _ ⟨xk2 ks, xk2 kt, xk2 kp, xk2 kq⟩ (fun hS => ?_)
 clear hK K bn
 refine WA.cal 6 rfl (fun K hK => ?_)
 simp only [List.getElem_toArray, List.getElem_cons_succ, List.getElem_cons_zero]
 go_simp
 go_fit (nplus_any _ _ _ _ ((((((Z0) * (T)) + ((Z1) * (X))) + ((Z2) * (Y))) * (T)) + ((((Z3) * (X)) + ((Z4) * (Y))) * (X))) (((Z5) * (Y)) * (Y)) (((La + Lx) + 1 + 1 + Lx) + 1) _ (by omega) nv33 (nv26.mono (by omega)))
 rintro e wn ⟨m34, v34, rfl, nv34, bn⟩
 obtain ⟨a34, l34, c34, rfl⟩ := nv34.slice
 replace kt := kt.below bn
 replace kr := kr.below bn
 replace kp := kp.below bn
 replace kq := kq.below bn
 replace ks := ks.below bn
 replace nt := nt.below bn
 replace nv24 := nv24.below bn
 replace nv26 := nv26.below bn
 replace nv31 := nv31.below bn
 replace nv32 := nv32.below bn
 replace nv33 := nv33.below bn
 replace bb := Below.after bb bn
 try go_wp2_with fail
 clear hS
 refine hK.out _ _ ⟨xk2 ks, xk2 kt, xk2 kp, xk2 kq⟩ (fun hS => ?_)
 clear hK K bn
 obtain ⟨e0, e1⟩ := xk2 kr
 have f0 := Cel.frozen kr 0
 have f1 := Cel.frozen kr 1
 refine WA.cal 7 rfl (fun K hK => ?_)
 simp only [List.getElem_toArray, List.getElem_cons_succ, List.getElem_cons_zero]
 go_simp
 try go_wp2_with fail
 clear e0 f0 e1 f1
 clear hS
 refine hK.out _ _ ⟨xk2 (ks.oth2 qs _ _), xk2 (kt.oth2 qt _ _), xk2 (kp.oth2 qp _ _), xk2 (kq.oth2 qq _ _)⟩ (fun hS => ?_)
 clear hK K
 refine WA.done (by kernel_rfl) ?_
 clear hS
 go_wp2_with fail
 exact post_n (p := 8) (by kernel_rfl) rfl rfl ((kr.set 0 _).set 1 _) ⟨_, _, _, _, rfl, (nv34.set2 kr _ _).mono (by omega), bset (bset bb (by omega) 0 _) (by omega) 1 _⟩
theorem cel4_0 {w : World} {g : Nat} {x y z u : Value} {t : TypeId} (h : Cel w g [x, y, z, u] t) : w.cell? ⟨g, 0, none⟩ = some x := h.cell 0
theorem cel4_1 {w : World} {g : Nat} {x y z u : Value} {t : TypeId} (h : Cel w g [x, y, z, u] t) : w.cell? ⟨g, 1, none⟩ = some y := h.cell 1
theorem cel4_2 {w : World} {g : Nat} {x y z u : Value} {t : TypeId} (h : Cel w g [x, y, z, u] t) : w.cell? ⟨g, 2, none⟩ = some z := h.cell 2
theorem cel4_3 {w : World} {g : Nat} {x y z u : Value} {t : TypeId} (h : Cel w g [x, y, z, u] t) : w.cell? ⟨g, 3, none⟩ = some u := h.cell 3
theorem toolong_no (B : Nat) (s0 s1 s2 s3 : ByteArray) (w : World) (h : Cel w B [.string s0, .string s1, .string s2, .string s3] 22) (z0 : s0.size ≤ 100) (z1 : s1.size ≤ 100) (z2 : s2.size ≤ 100) (z3 : s3.size ≤ 100) :
  Calls Tryz.prog 64 #[.slice (some ⟨B, 0, none⟩) 4 4] w (Re w (.bool false)) := by
 have i0 : ¬ (100 : Int) < s0.size := by omega
 have i1 : ¬ (100 : Int) < s1.size := by omega
 have i2 : ¬ (100 : Int) < s2.size := by omega
 have i3 : ¬ (100 : Int) < s3.size := by omega
 go_enter Tryz.func64, Tryz.ntmps64
 go_wp2
 go_loopw [7] (fun i wr => Below w.heap.size w wr ∧ (i = .int .i64 0 ∨ i = .int .i64 1 ∨ i = .int .i64 2 ∨ i = .int .i64 3 ∨ i = .int .i64 4)) (fun i _ => 4 - (intOf i).toNat)
 case atStart => exact ⟨Below.refl _ _, Or.inl rfl⟩
 case round =>
  obtain ⟨bb, hi⟩ := hrel
  have k := h.below bb
  obtain ⟨c0, c1, c2, c3⟩ := xk4 k
  clear k
  rcases hi with rfl | rfl | rfl | rfl | rfl
  ·go_wp2
   exact ⟨⟨bb, Or.inr (Or.inl (by go_num))⟩, by simp [intOf]⟩
  ·go_wp2
   exact ⟨⟨bb, Or.inr (Or.inr (Or.inl (by go_num)))⟩, by simp [intOf]⟩
  ·go_wp2
   exact ⟨⟨bb, Or.inr (Or.inr (Or.inr (Or.inl (by go_num))))⟩, by simp [intOf]⟩
  ·go_wp2
   exact ⟨⟨bb, Or.inr (Or.inr (Or.inr (Or.inr (by go_num))))⟩, by simp [intOf]⟩
  ·go_wp2
   go_ret
   exact ⟨rfl, bb⟩
def RdPt (w : World) (a : Option Addr) (n : Nat) (N : Nat → Bool) (S D : Nat → ByteArray) (N' : Nat → Bool) (S' D' : Nat → ByteArray) : Prop :=
 ∀ j, j < n → ∃ b off, a = some ⟨b, off, none⟩ ∧ w.cell? ⟨b, off + j * 6, none⟩ = some (.bool (N j)) ∧ w.cell? ⟨b, off + j * 6 + 1, none⟩ = some (.string (S j)) ∧ w.cell? ⟨b, off + j * 6 + 2, none⟩ = some (.string (D j)) ∧ w.cell? ⟨b, off + j * 6 + 3, none⟩ = some (.bool (N' j)) ∧ w.cell? ⟨b, off + j * 6 + 4, none⟩ = some (.string (S' j)) ∧ w.cell? ⟨b, off + j * 6 + 5, none⟩ = some (.string (D' j))
theorem RdPt.below {w w' : World} {a : Option Addr} {n : Nat} {N N' : Nat → Bool} {S D S' D' : Nat → ByteArray} (h : RdPt w a n N S D N' S' D') (hb : Below w.heap.size w w') : RdPt w' a n N S D N' S' D' := by
 intro j hj
 obtain ⟨b, off, rfl, h0, h1, h2, h3, h4, h5⟩ := h j hj
 exact ⟨b, off, rfl, cell_below h0 hb, cell_below h1 hb, cell_below h2 hb, cell_below h3 hb, cell_below h4 hb, cell_below h5 hb⟩
theorem scheck_walk (a : Option Addr) (n cap : Nat) (N N' : Nat → Bool) (S D S' D' : Nat → ByteArray) (c : Nat → Nat) (w : World) (hn : n ≤ 1000000) (h : RdPt w a n N S D N' S' D')
  (HZ : Hid (∀ k, k < n → (S k).size ≤ 100 ∧ (D k).size ≤ 100 ∧ (S' k).size ≤ 100 ∧ (D' k).size ≤ 100))
  (HC : Hid (∀ (k : Nat) (w1 : World), k < n → Below w.heap.size w w1 → Calls Tryz.prog 141 #[.agg #[.bool (N k), .string (S k), .string (D k), .bool (N' k), .string (S' k), .string (D' k)]] w1 (Re w1 (.int .i64 (c k : Nat))))) :
  Calls Tryz.prog 106 #[.slice a n cap] w (Re w (.int .i64 (firstE c n : Nat))) := by
 replace h := shut h
 go_enter Tryz.func106, Tryz.ntmps106
 go_wp2
 go_loopw [8] (fun i wr => Below w.heap.size w wr ∧ ∃ k : Nat, k ≤ n ∧ i = .int .i64 k ∧ firstE c k = 0) (fun i _ => n - (intOf i).toNat)
 case atStart => exact ⟨Below.refl _ _, 0, by omega, rfl, rfl⟩
 case round =>
  obtain ⟨bb, k, hk, rfl, hz⟩ := hrel
  by_cases hkn : k < n
  ·obtain ⟨b, off, rfl, h0, h1, h2, h3, h4, h5⟩ := h.out.below bb k hkn
   go_wp2_with fail
   obtain ⟨w1, hw, kp, kq, b1⟩ := mk2 wr [.bool (N k), .string (S k), .string (D k), .bool (N' k), .string (S' k), .string (D' k)] [.string (S k), .string (D k), .string (S' k), .string (D' k)] 30 22
   rw [← hw]
   clear hw
   replace bb := Below.after bb b1
   clear b1 h0 h1 h2 h3 h4 h5
   go_fit (toolong_no _ _ _ _ _ _ kq (HZ.out k hkn).1 (HZ.out k hkn).2.1 (HZ.out k hkn).2.2.1 (HZ.out k hkn).2.2.2)
   rintro e w2 ⟨rfl, b1⟩
   replace kp := kp.below b1
   replace bb := Below.after bb b1
   clear b1 kq
   obtain ⟨c0, c1, c2, c3, c4, c5⟩ := xk6 kp
   go_wp2_with fail
   go_fit (HC.out k _ hkn bb)
   rintro e w3 ⟨rfl, b1⟩
   replace bb := Below.after bb b1
   clear b1 c0 c1 c2 c3 c4 c5 kp
   by_cases hc : c k = 0
   ·have hs : firstE c (k + 1) = 0 := by unfold firstE; rw [if_pos hz, hc]
    replace hs := shut hs
    replace hz := shut hz
    rw [hc]
    go_wp2
    exact ⟨⟨bb, k + 1, by omega, by go_num, hs.out⟩, by simp [intOf]; omega⟩
   ·have hs := firstE_stop hz hc n hkn
    replace hs := shut hs
    replace hz := shut hz
    go_wp2
    go_ret
    exact ⟨by rw [hs.out]; rfl, bb⟩
  ·obtain rfl : k = n := by omega
   replace hz := shut hz
   go_wp2
   go_ret
   exact ⟨by rw [hz.out]; rfl, bb⟩
theorem post_nn {fn : Func} {p q : Tmp} {R : Ending → World → Prop} {a : Act} {w : World} {g g' : Nat} {x y x' y' : Value} (h : fn.results = #[.cell p 68, .cell q 68]) (hp : a.tmps.getD p undef = .pointer (some ⟨g, 0, none⟩)) (hq : a.tmps.getD q undef = .pointer (some ⟨g', 0, none⟩)) (hd : a.defers = [])
  (hc : Cel w g [x, y] 68) (hc' : Cel w g' [x', y'] 68) (hR : R (.returned (.tuple #[.agg #[x, y], .agg #[x', y']])) w) : bodyPost Tryz.prog fn R .ret a w := by
 refine ⟨hd, .tuple #[.agg #[x, y], .agg #[x', y']], ?_, hR⟩
 have hp' : a.tmps[p]?.getD undef = .pointer (some ⟨g, 0, none⟩) := by simpa using hp
 have hq' : a.tmps[q]?.getD undef = .pointer (some ⟨g', 0, none⟩) := by simpa using hq
 simp only [results, h]
 simp [Sem.run_bind, Result.andThen, hp', hq', asAddr, load_n hc, load_n hc']
theorem less_eq (n0 n1 : Bool) (s0 d0 s1 d1 : ByteArray) (z0 z1 D0 : Int) (L : Nat) (w : World) (hL : L ≤ 200)
  (H1 : Hid (∀ w1, Calls Tryz.prog 58 #[.agg #[.bool n0, .string s0]] w1 fun e w' => ∃ v, e = .returned (.agg #[.bool n0, v]) ∧ NV w' n0 v z0 L ∧ Below w1.heap.size w1 w'))
  (H2 : Hid (∀ w1, Calls Tryz.prog 58 #[.agg #[.bool n1, .string s1]] w1 fun e w' => ∃ v, e = .returned (.agg #[.bool n1, v]) ∧ NV w' n1 v z1 L ∧ Below w1.heap.size w1 w'))
  (H3 : Hid (∀ w1, Calls Tryz.prog 58 #[.agg #[.bool false, .string d0]] w1 fun e w' => ∃ v, e = .returned (.agg #[.bool false, v]) ∧ NV w' false v D0 L ∧ Below w1.heap.size w1 w')) (hd : (d0.toList == d1.toList) = true) :
  Calls Tryz.prog 142 #[.agg #[.bool n0, .string s0, .string d0], .agg #[.bool n1, .string s1, .string d1]] w fun e w' => ∃ m a l c a' l' c', e = .returned (.tuple #[.agg #[.bool m, .slice a l c], .agg #[.bool false, .slice a' l' c']]) ∧ NV w' m (.slice a l c) (z0 - z1) (L + 1) ∧ NV w' false (.slice a' l' c') (D0) (L) ∧ Below w.heap.size w w' := by
 go_enter Tryz.func142, Tryz.ntmps142
 go_wp2_with fail
 obtain ⟨w1, hw, ka, kb, kr, ks, b1⟩ := mk4 w [.bool n0, .string s0, .string d0] [.bool n1, .string s1, .string d1] [.bool false, .slice none 0 0] [.bool false, .slice none 0 0] 26 26 68 68
 rw [← hw]
 clear hw
 have sz := b1.size
 have ta := ka.lt
 have tb := kb.lt
 have tr := kr.lt
 have ts := ks.lt
 have bb := b1
 clear b1
 have mk : Hid (∀ w', SB w1 w' → xc3 w' w.heap.size (.bool n0) (.string s0) (.string d0) ∧ xc3 w' (w.heap.size + 1) (.bool n1) (.string s1) (.string d1)) := fun w' h => ⟨xk3 (ka.below h), xk3 (kb.below h)⟩
 go_cut [6, 7] from 10 to 15 (fun v u wx => ∃ gc gd a1 l1 c1 a2 l2 c2, v = .pointer (some ⟨gc, 0, none⟩) ∧ u = .pointer (some ⟨gd, 0, none⟩) ∧ w1.heap.size ≤ gc ∧ w1.heap.size ≤ gd ∧ Cel wx gc [.bool n0, .slice a1 l1 c1] 68 ∧ Cel wx gd [.bool n1, .slice a2 l2 c2] 68 ∧ NV wx n0 (.slice a1 l1 c1) z0 L ∧ NV wx n1 (.slice a2 l2 c2) z1 L ∧ Below w1.heap.size w1 wx)
 case first =>
  clear H3
  refine wp_region_held_drew (S := SB w1) (by kernel_rfl) (bdrew _) (fun bc => ?_)
  refine WA.start (n := 10) (by kernel_rfl) ?_
  refine WA.tl 0 rfl ?_
  refine WA.tl 1 rfl ?_
  refine WA.tl 3 rfl ?_
  refine WA.tl 4 rfl ?_
  refine WA.gen2 (i := 6) (s := 6) (i' := 7) (s' := 7) undef undef (Pt w1 [.bool false, .slice none 0 0] 68) (Pt w1 [.bool false, .slice none 0 0] 68) (fun b b' x x' hz hy hn => ?_)
  simp only [Act.put, List.setIfInBounds_toArray, List.set_cons_zero, List.set_cons_succ]
  replace hz := P2.mk hz hy hn
  clear hy hn
  revert b b' x x'
  refine WA.two 10 27 2 6 7 rfl rfl rfl bc ?_
  clear bc
  intro b b' x x' w' hz bx bc K hK
  clear bx
  simp only [List.getElem_toArray, List.getElem_cons_succ, List.getElem_cons_zero]
  go_simp
  go_fit (H1.out _)
  rintro e wn ⟨v1, rfl, nv1, bn⟩
  obtain ⟨a1, l1, c1, rfl⟩ := nv1.slice
  replace bc := Below.after bc bn
  try go_wp2_with fail
  refine hK.out _ _ bc (fun _ => ?_)
  replace hz := hz.below bn
  clear hK K bn
  revert b b' x x'
  refine WA.two 10 31 5 6 7 rfl rfl rfl bc ?_
  clear bc
  intro b b' x x' w' hz bx bc K hK
  replace nv1 := nv1.below bx
  clear bx
  simp only [List.getElem_toArray, List.getElem_cons_succ, List.getElem_cons_zero]
  go_simp
  go_fit (H2.out _)
  rintro e wn ⟨v2, rfl, nv2, bn⟩
  obtain ⟨a2, l2, c2, rfl⟩ := nv2.slice
  replace bc := Below.after bc bn
  try go_wp2_with fail
  refine hK.out _ _ bc (fun _ => ?_)
  replace hz := hz.below bn
  replace nv1 := nv1.below bn
  clear hK K bn
  revert b b' x x'
  refine WA.fin2 6 7 rfl rfl bc ?_
  clear bc
  intro x x' w' hz bx bc
  replace nv1 := nv1.below bx
  replace nv2 := nv2.below bx
  obtain ⟨g0, rfl, h0, k0⟩ := hz.p rfl
  obtain ⟨g1, rfl, h1, k1⟩ := hz.p' rfl
  have n01 : ¬ g0 = g1 := fun e => hz.ne rfl rfl (by rw [e])
  clear bx hz
  have e0_0 := cel2_0' k0
  have f0_0 := Cel.frozen k0 0
  have e0_1 := cel2_1' k0
  have f0_1 := Cel.frozen k0 1
  refine WA.call 8 rfl (fun K hK => ?_)
  simp only [List.getElem_toArray, List.getElem_cons_succ, List.getElem_cons_zero]
  go_simp
  try go_wp2_with fail
  clear e0_0 f0_0 e0_1 f0_1
  refine hK.out _ _ (bset (bset bc h0 0 (.bool n0)) h0 1 (.slice a1 l1 c1)) (fun hS => ?_)
  clear hK K
  replace nv1 := nv1.set2 k0 (.bool n0) (.slice a1 l1 c1)
  replace nv2 := nv2.set2 k0 (.bool n0) (.slice a1 l1 c1)
  replace k0 := (Cel.set (Cel.set k0 0 (.bool n0)) 1 (.slice a1 l1 c1))
  replace k1 := (Cel.other (Cel.other k1 (fun e => n01 e.symm) 0 (.bool n0)) (fun e => n01 e.symm) 1 (.slice a1 l1 c1))
  replace bc := (bset (bset bc h0 0 (.bool n0)) h0 1 (.slice a1 l1 c1))
  have e1_0 := cel2_0' k1
  have f1_0 := Cel.frozen k1 0
  have e1_1 := cel2_1' k1
  have f1_1 := Cel.frozen k1 1
  refine WA.call 9 rfl (fun K hK => ?_)
  simp only [List.getElem_toArray, List.getElem_cons_succ, List.getElem_cons_zero]
  go_simp
  try go_wp2_with fail
  clear e1_0 f1_0 e1_1 f1_1
  refine hK.out _ _ (bset (bset bc h1 0 (.bool n1)) h1 1 (.slice a2 l2 c2)) (fun hS => ?_)
  clear hK K
  replace nv1 := nv1.set2 k1 (.bool n1) (.slice a2 l2 c2)
  replace nv2 := nv2.set2 k1 (.bool n1) (.slice a2 l2 c2)
  replace k0 := (Cel.other (Cel.other k0 n01 0 (.bool n1)) n01 1 (.slice a2 l2 c2))
  replace k1 := (Cel.set (Cel.set k1 0 (.bool n1)) 1 (.slice a2 l2 c2))
  replace bc := (bset (bset bc h1 0 (.bool n1)) h1 1 (.slice a2 l2 c2))
  refine WA.done (by kernel_rfl) ?_
  go_wp2_with fail
  go_meet
  exact ⟨_, _, a1, l1, c1, a2, l2, c2, rfl, rfl, h0, h1, k0, k1, nv1, nv2, bc⟩
 case rest =>
 obtain ⟨gx, gy, a1, l1, c1, a2, l2, c2, rfl, rfl, lx, ly, kx, ky, nv1, nv2, b1⟩ := hcut
 clear mk
 have sz := b1.size
 replace ka := ka.below b1
 replace kb := kb.below b1
 replace kr := kr.below b1
 replace ks := ks.below b1
 replace bb := Below.after bb b1
 clear b1
 have tx := kx.lt
 have ty := ky.lt
 have ca := cel3_2 ka
 go_wp2_with fail
 go_fit (H3.out _)
 rintro e w3 ⟨v3, rfl, nv3, b1⟩
 obtain ⟨a3, l3, c3, rfl⟩ := nv3.slice
 replace ka := ka.below b1
 replace kb := kb.below b1
 replace kr := kr.below b1
 replace ks := ks.below b1
 replace kx := kx.below b1
 replace ky := ky.below b1
 replace nv1 := nv1.below b1
 replace nv2 := nv2.below b1
 replace bb := Below.after bb b1
 have sq0 := b1.size
 clear b1
 clear ca
 have ca := cel3_2 (ka.alloc (.cells #[.bool false, .slice a3 l3 c3] 68))
 have cb := cel3_2 (kb.alloc (.cells #[.bool false, .slice a3 l3 c3] 68))
 go_wp2_with fail
 obtain ⟨w4, hw, kz, b1⟩ := mk1 w3 [.bool false, .slice a3 l3 c3] 68
 rw [← hw]
 clear hw
 replace ka := ka.below b1
 replace kb := kb.below b1
 replace kr := kr.below b1
 replace ks := ks.below b1
 replace kx := kx.below b1
 replace ky := ky.below b1
 replace nv1 := nv1.below b1
 replace nv2 := nv2.below b1
 replace nv3 := nv3.below b1
 replace bb := Below.after bb b1
 have sq1 := b1.size
 have tz := kz.lt
 have sz := b1.size
 clear b1
 clear ca cb
 have tr' := kr.lt
 have mkS : Hid (∀ w', Cel w' (gx) [.bool n0, .slice a1 l1 c1] 68 → Cel w' (gy) [.bool n1, .slice a2 l2 c2] 68 → Cel w' (w3.heap.size) [.bool false, .slice a3 l3 c3] 68 → (xc2 w' gx (.bool n0) (.slice a1 l1 c1) ∧ xc2 w' gy (.bool n1) (.slice a2 l2 c2) ∧ xc2 w' w3.heap.size (.bool false) (.slice a3 l3 c3))) := fun w' hx hy hz => ⟨xk2 hx, xk2 hy, xk2 hz⟩
 have qxr : gx ≠ w.heap.size + 1 + 1 := by omega
 have qyr : gy ≠ w.heap.size + 1 + 1 := by omega
 have qzr : w3.heap.size ≠ w.heap.size + 1 + 1 := by omega
 have qxs : gx ≠ w.heap.size + 1 + 1 + 1 := by omega
 have qys : gy ≠ w.heap.size + 1 + 1 + 1 := by omega
 have qzs : w3.heap.size ≠ w.heap.size + 1 + 1 + 1 := by omega
 go_region_held3 (fun w' => xc2 w' gx (.bool n0) (.slice a1 l1 c1) ∧ xc2 w' gy (.bool n1) (.slice a2 l2 c2) ∧ xc2 w' w3.heap.size (.bool false) (.slice a3 l3 c3)) (first | with_reducible exact mkS.out _ kx ky kz | with_reducible exact mkS.out _ (Cel.other (Cel.other kx qxr 0 _) qxr 1 _) (Cel.other (Cel.other ky qyr 0 _) qyr 1 _) (Cel.other (Cel.other kz qzr 0 _) qzr 1 _) | with_reducible exact mkS.out _ (Cel.other (Cel.other (Cel.other (Cel.other kx qxr 0 _) qxr 1 _) qxs 0 _) qxs 1 _) (Cel.other (Cel.other (Cel.other (Cel.other ky qyr 0 _) qyr 1 _) qys 0 _) qys 1 _) (Cel.other (Cel.other (Cel.other (Cel.other kz qzr 0 _) qzr 1 _) qzs 0 _) qzs 1 _) | exact mkS.out _ kx ky kz) (first | (go_at_call 144; go_fit (nminus_any _ _ _ _ z0 z1 L _ (by omega) ?_ ?_); (first | exact nv1 | exact nv1.drew); (first | exact nv2 | exact nv2.drew); rintro e wn ⟨m5, v5, rfl, nv5, bn⟩; obtain ⟨a5, l5, c5, rfl⟩ := nv5.slice; replace kr := kr.below (un bn); replace ks := ks.below (un bn); replace kx := kx.below (un bn); replace ky := ky.below (un bn); replace kz := kz.below (un bn); (try replace nv1 := nv1.below (un bn)); (try replace nv2 := nv2.below (un bn)); (try replace nv3 := nv3.below (un bn)); replace bb := Below.after bb (un bn); have er0 := cel2_0 kr; have fr0 := Cel.frozen kr 0; have er1 := cel2_1 kr; have fr1 := Cel.frozen kr 1; have es0 := cel2_0 ks; have fs0 := Cel.frozen ks 0; have es1 := cel2_1 ks; have fs1 := Cel.frozen ks 1) | fail)
 replace nv5 := shut nv5
 replace nv3 := shut nv3
 go_wp2
 exact post_nn (p := 4) (q := 5) (by kernel_rfl) rfl rfl rfl ((((kr.set 0 _).set 1 _).other (by omega) _ _).other (by omega) _ _) ((((ks.other (by omega) _ _).other (by omega) _ _).set 0 _).set 1 _) ⟨_, _, _, _, _, _, _, rfl, (nv5.out.set2 kr _ _).set2 ((ks.other (by omega) _ _).other (by omega) _ _) _ _, (nv3.out.set2 kr _ _).set2 ((ks.other (by omega) _ _).other (by omega) _ _) _ _, bset (bset (bset (bset bb (by omega) 0 _) (by omega) 1 _) (by omega) 0 _) (by omega) 1 _⟩
theorem less_ne (n0 n1 : Bool) (s0 d0 s1 d1 : ByteArray) (z0 z1 D0 D1 : Int) (L : Nat) (w : World) (hL : L ≤ 200)
  (H1 : Hid (∀ w1, Calls Tryz.prog 58 #[.agg #[.bool n0, .string s0]] w1 fun e w' => ∃ v, e = .returned (.agg #[.bool n0, v]) ∧ NV w' n0 v z0 L ∧ Below w1.heap.size w1 w'))
  (H2 : Hid (∀ w1, Calls Tryz.prog 58 #[.agg #[.bool n1, .string s1]] w1 fun e w' => ∃ v, e = .returned (.agg #[.bool n1, v]) ∧ NV w' n1 v z1 L ∧ Below w1.heap.size w1 w'))
  (H3 : Hid (∀ w1, Calls Tryz.prog 58 #[.agg #[.bool false, .string d0]] w1 fun e w' => ∃ v, e = .returned (.agg #[.bool false, v]) ∧ NV w' false v D0 L ∧ Below w1.heap.size w1 w'))
  (H4 : Hid (∀ w1, Calls Tryz.prog 58 #[.agg #[.bool false, .string d1]] w1 fun e w' => ∃ v, e = .returned (.agg #[.bool false, v]) ∧ NV w' false v D1 L ∧ Below w1.heap.size w1 w')) (hd : (d0.toList == d1.toList) = false) :
  Calls Tryz.prog 142 #[.agg #[.bool n0, .string s0, .string d0], .agg #[.bool n1, .string s1, .string d1]] w fun e w' => ∃ m a l c a' l' c', e = .returned (.tuple #[.agg #[.bool m, .slice a l c], .agg #[.bool false, .slice a' l' c']]) ∧ NV w' m (.slice a l c) (z0 * D1 - z1 * D0) (L + L + 1) ∧ NV w' false (.slice a' l' c') (D0 * D1) (L + L) ∧ Below w.heap.size w w' := by
 go_enter Tryz.func142, Tryz.ntmps142
 go_wp2_with fail
 obtain ⟨w1, hw, ka, kb, kr, ks, b1⟩ := mk4 w [.bool n0, .string s0, .string d0] [.bool n1, .string s1, .string d1] [.bool false, .slice none 0 0] [.bool false, .slice none 0 0] 26 26 68 68
 rw [← hw]
 clear hw
 have sz := b1.size
 have ta := ka.lt
 have tb := kb.lt
 have tr := kr.lt
 have ts := ks.lt
 have bb := b1
 clear b1
 have mk : Hid (∀ w', SB w1 w' → xc3 w' w.heap.size (.bool n0) (.string s0) (.string d0) ∧ xc3 w' (w.heap.size + 1) (.bool n1) (.string s1) (.string d1)) := fun w' h => ⟨xk3 (ka.below h), xk3 (kb.below h)⟩
 go_cut [6, 7] from 10 to 15 (fun v u wx => ∃ gc gd a1 l1 c1 a2 l2 c2, v = .pointer (some ⟨gc, 0, none⟩) ∧ u = .pointer (some ⟨gd, 0, none⟩) ∧ w1.heap.size ≤ gc ∧ w1.heap.size ≤ gd ∧ Cel wx gc [.bool n0, .slice a1 l1 c1] 68 ∧ Cel wx gd [.bool n1, .slice a2 l2 c2] 68 ∧ NV wx n0 (.slice a1 l1 c1) z0 L ∧ NV wx n1 (.slice a2 l2 c2) z1 L ∧ Below w1.heap.size w1 wx)
 case first =>
  clear H3 H4
  refine wp_region_held_drew (S := SB w1) (by kernel_rfl) (bdrew _) (fun bc => ?_)
  refine WA.start (n := 10) (by kernel_rfl) ?_
  refine WA.tl 0 rfl ?_
  refine WA.tl 1 rfl ?_
  refine WA.tl 3 rfl ?_
  refine WA.tl 4 rfl ?_
  refine WA.gen2 (i := 6) (s := 6) (i' := 7) (s' := 7) undef undef (Pt w1 [.bool false, .slice none 0 0] 68) (Pt w1 [.bool false, .slice none 0 0] 68) (fun b b' x x' hz hy hn => ?_)
  simp only [Act.put, List.setIfInBounds_toArray, List.set_cons_zero, List.set_cons_succ]
  replace hz := P2.mk hz hy hn
  clear hy hn
  revert b b' x x'
  refine WA.two 10 27 2 6 7 rfl rfl rfl bc ?_
  clear bc
  intro b b' x x' w' hz bx bc K hK
  clear bx
  simp only [List.getElem_toArray, List.getElem_cons_succ, List.getElem_cons_zero]
  go_simp
  go_fit (H1.out _)
  rintro e wn ⟨v1, rfl, nv1, bn⟩
  obtain ⟨a1, l1, c1, rfl⟩ := nv1.slice
  replace bc := Below.after bc bn
  try go_wp2_with fail
  refine hK.out _ _ bc (fun _ => ?_)
  replace hz := hz.below bn
  clear hK K bn
  revert b b' x x'
  refine WA.two 10 31 5 6 7 rfl rfl rfl bc ?_
  clear bc
  intro b b' x x' w' hz bx bc K hK
  replace nv1 := nv1.below bx
  clear bx
  simp only [List.getElem_toArray, List.getElem_cons_succ, List.getElem_cons_zero]
  go_simp
  go_fit (H2.out _)
  rintro e wn ⟨v2, rfl, nv2, bn⟩
  obtain ⟨a2, l2, c2, rfl⟩ := nv2.slice
  replace bc := Below.after bc bn
  try go_wp2_with fail
  refine hK.out _ _ bc (fun _ => ?_)
  replace hz := hz.below bn
  replace nv1 := nv1.below bn
  clear hK K bn
  revert b b' x x'
  refine WA.fin2 6 7 rfl rfl bc ?_
  clear bc
  intro x x' w' hz bx bc
  replace nv1 := nv1.below bx
  replace nv2 := nv2.below bx
  obtain ⟨g0, rfl, h0, k0⟩ := hz.p rfl
  obtain ⟨g1, rfl, h1, k1⟩ := hz.p' rfl
  have n01 : ¬ g0 = g1 := fun e => hz.ne rfl rfl (by rw [e])
  clear bx hz
  have e0_0 := cel2_0' k0
  have f0_0 := Cel.frozen k0 0
  have e0_1 := cel2_1' k0
  have f0_1 := Cel.frozen k0 1
  refine WA.call 8 rfl (fun K hK => ?_)
  simp only [List.getElem_toArray, List.getElem_cons_succ, List.getElem_cons_zero]
  go_simp
  try go_wp2_with fail
  clear e0_0 f0_0 e0_1 f0_1
  refine hK.out _ _ (bset (bset bc h0 0 (.bool n0)) h0 1 (.slice a1 l1 c1)) (fun hS => ?_)
  clear hK K
  replace nv1 := nv1.set2 k0 (.bool n0) (.slice a1 l1 c1)
  replace nv2 := nv2.set2 k0 (.bool n0) (.slice a1 l1 c1)
  replace k0 := (Cel.set (Cel.set k0 0 (.bool n0)) 1 (.slice a1 l1 c1))
  replace k1 := (Cel.other (Cel.other k1 (fun e => n01 e.symm) 0 (.bool n0)) (fun e => n01 e.symm) 1 (.slice a1 l1 c1))
  replace bc := (bset (bset bc h0 0 (.bool n0)) h0 1 (.slice a1 l1 c1))
  have e1_0 := cel2_0' k1
  have f1_0 := Cel.frozen k1 0
  have e1_1 := cel2_1' k1
  have f1_1 := Cel.frozen k1 1
  refine WA.call 9 rfl (fun K hK => ?_)
  simp only [List.getElem_toArray, List.getElem_cons_succ, List.getElem_cons_zero]
  go_simp
  try go_wp2_with fail
  clear e1_0 f1_0 e1_1 f1_1
  refine hK.out _ _ (bset (bset bc h1 0 (.bool n1)) h1 1 (.slice a2 l2 c2)) (fun hS => ?_)
  clear hK K
  replace nv1 := nv1.set2 k1 (.bool n1) (.slice a2 l2 c2)
  replace nv2 := nv2.set2 k1 (.bool n1) (.slice a2 l2 c2)
  replace k0 := (Cel.other (Cel.other k0 n01 0 (.bool n1)) n01 1 (.slice a2 l2 c2))
  replace k1 := (Cel.set (Cel.set k1 0 (.bool n1)) 1 (.slice a2 l2 c2))
  replace bc := (bset (bset bc h1 0 (.bool n1)) h1 1 (.slice a2 l2 c2))
  refine WA.done (by kernel_rfl) ?_
  go_wp2_with fail
  go_meet
  exact ⟨_, _, a1, l1, c1, a2, l2, c2, rfl, rfl, h0, h1, k0, k1, nv1, nv2, bc⟩
 case rest =>
 obtain ⟨gx, gy, a1, l1, c1, a2, l2, c2, rfl, rfl, lx, ly, kx, ky, nv1, nv2, b1⟩ := hcut
 clear mk
 have sz := b1.size
 replace ka := ka.below b1
 replace kb := kb.below b1
 replace kr := kr.below b1
 replace ks := ks.below b1
 replace bb := Below.after bb b1
 clear b1
 have tx := kx.lt
 have ty := ky.lt
 have ca := cel3_2 ka
 go_wp2_with fail
 go_fit (H3.out _)
 rintro e w3 ⟨v3, rfl, nv3, b1⟩
 obtain ⟨a3, l3, c3, rfl⟩ := nv3.slice
 replace ka := ka.below b1
 replace kb := kb.below b1
 replace kr := kr.below b1
 replace ks := ks.below b1
 replace kx := kx.below b1
 replace ky := ky.below b1
 replace nv1 := nv1.below b1
 replace nv2 := nv2.below b1
 replace bb := Below.after bb b1
 have sq2 := b1.size
 clear b1
 clear ca
 have ca := cel3_2 (ka.alloc (.cells #[.bool false, .slice a3 l3 c3] 68))
 have cb := cel3_2 (kb.alloc (.cells #[.bool false, .slice a3 l3 c3] 68))
 go_wp2_with fail
 obtain ⟨w4, hw, kz, b1⟩ := mk1 w3 [.bool false, .slice a3 l3 c3] 68
 rw [← hw]
 clear hw
 replace ka := ka.below b1
 replace kb := kb.below b1
 replace kr := kr.below b1
 replace ks := ks.below b1
 replace kx := kx.below b1
 replace ky := ky.below b1
 replace nv1 := nv1.below b1
 replace nv2 := nv2.below b1
 replace nv3 := nv3.below b1
 replace bb := Below.after bb b1
 have sq3 := b1.size
 have tz := kz.lt
 have sz := b1.size
 clear b1
 clear ca cb
 have tr' := kr.lt
 have cb := cel3_2 kb
 go_wp2_with fail
 go_fit (H4.out _)
 rintro e w4' ⟨v4, rfl, nv4, b1⟩
 obtain ⟨a4, l4, c4, rfl⟩ := nv4.slice
 replace ka := ka.below b1
 replace kb := kb.below b1
 replace kr := kr.below b1
 replace ks := ks.below b1
 replace kx := kx.below b1
 replace ky := ky.below b1
 replace kz := kz.below b1
 replace nv1 := nv1.below b1
 replace nv2 := nv2.below b1
 replace nv3 := nv3.below b1
 replace bb := Below.after bb b1
 have sq4 := b1.size
 clear b1
 clear cb
 go_wp2_with fail
 obtain ⟨w6, hw, ku, b1⟩ := mk1 w4' [.bool false, .slice a4 l4 c4] 68
 rw [← hw]
 clear hw
 replace ka := ka.below b1
 replace kb := kb.below b1
 replace kr := kr.below b1
 replace ks := ks.below b1
 replace kx := kx.below b1
 replace ky := ky.below b1
 replace kz := kz.below b1
 replace nv1 := nv1.below b1
 replace nv2 := nv2.below b1
 replace nv3 := nv3.below b1
 replace nv4 := nv4.below b1
 replace bb := Below.after bb b1
 have sq5 := b1.size
 have tu := ku.lt
 have sz := b1.size
 clear b1
 have mkS : Hid (∀ w', Cel w' (gx) [.bool n0, .slice a1 l1 c1] 68 → Cel w' (gy) [.bool n1, .slice a2 l2 c2] 68 → Cel w' (w3.heap.size) [.bool false, .slice a3 l3 c3] 68 → Cel w' (w4'.heap.size) [.bool false, .slice a4 l4 c4] 68 → (xc2 w' gx (.bool n0) (.slice a1 l1 c1) ∧ xc2 w' gy (.bool n1) (.slice a2 l2 c2) ∧ xc2 w' w3.heap.size (.bool false) (.slice a3 l3 c3) ∧ xc2 w' w4'.heap.size (.bool false) (.slice a4 l4 c4))) := fun w' hx hy hz hu => ⟨xk2 hx, xk2 hy, xk2 hz, xk2 hu⟩
 have qxr : gx ≠ w.heap.size + 1 + 1 := by omega
 have qyr : gy ≠ w.heap.size + 1 + 1 := by omega
 have qzr : w3.heap.size ≠ w.heap.size + 1 + 1 := by omega
 have qur : w4'.heap.size ≠ w.heap.size + 1 + 1 := by omega
 have qxs : gx ≠ w.heap.size + 1 + 1 + 1 := by omega
 have qys : gy ≠ w.heap.size + 1 + 1 + 1 := by omega
 have qzs : w3.heap.size ≠ w.heap.size + 1 + 1 + 1 := by omega
 have qus : w4'.heap.size ≠ w.heap.size + 1 + 1 + 1 := by omega
 go_region_held3 (fun w' => xc2 w' gx (.bool n0) (.slice a1 l1 c1) ∧ xc2 w' gy (.bool n1) (.slice a2 l2 c2) ∧ xc2 w' w3.heap.size (.bool false) (.slice a3 l3 c3) ∧ xc2 w' w4'.heap.size (.bool false) (.slice a4 l4 c4)) (first | with_reducible exact mkS.out _ kx ky kz ku | with_reducible exact mkS.out _ (Cel.other (Cel.other kx qxr 0 _) qxr 1 _) (Cel.other (Cel.other ky qyr 0 _) qyr 1 _) (Cel.other (Cel.other kz qzr 0 _) qzr 1 _) (Cel.other (Cel.other ku qur 0 _) qur 1 _) | with_reducible exact mkS.out _ (Cel.other (Cel.other (Cel.other (Cel.other kx qxr 0 _) qxr 1 _) qxs 0 _) qxs 1 _) (Cel.other (Cel.other (Cel.other (Cel.other ky qyr 0 _) qyr 1 _) qys 0 _) qys 1 _) (Cel.other (Cel.other (Cel.other (Cel.other kz qzr 0 _) qzr 1 _) qzs 0 _) qzs 1 _) (Cel.other (Cel.other (Cel.other (Cel.other ku qur 0 _) qur 1 _) qus 0 _) qus 1 _) | exact mkS.out _ kx ky kz ku) (first | (go_at_call 59; go_fit (ntimes_any _ _ _ _ z0 D1 L L _ (by omega) (by omega) ?_ ?_); (first | exact nv1 | exact nv1.drew); (first | exact nv4 | exact nv4.drew); rintro e wn ⟨m5, v5, rfl, nv5, -, bn⟩; obtain ⟨a5, l5, c5, rfl⟩ := nv5.slice; replace kr := kr.below (un bn); replace ks := ks.below (un bn); replace kx := kx.below (un bn); replace ky := ky.below (un bn); replace kz := kz.below (un bn); replace ku := ku.below (un bn); (try replace nv1 := nv1.below (un bn)); (try replace nv2 := nv2.below (un bn)); (try replace nv3 := nv3.below (un bn)); (try replace nv4 := nv4.below (un bn)); (try replace nv6 := nv6.below (un bn)); (try replace nv7 := nv7.below (un bn)); replace bb := Below.after bb (un bn)) | (go_at_call 59; go_fit (ntimes_any _ _ _ _ z1 D0 L L _ (by omega) (by omega) ?_ ?_); (first | exact nv2 | exact nv2.drew); (first | exact nv3 | exact nv3.drew); rintro e wn ⟨m6, v6, rfl, nv6, -, bn⟩; obtain ⟨a6, l6, c6, rfl⟩ := nv6.slice; replace kr := kr.below (un bn); replace ks := ks.below (un bn); replace kx := kx.below (un bn); replace ky := ky.below (un bn); replace kz := kz.below (un bn); replace ku := ku.below (un bn); (try replace nv1 := nv1.below (un bn)); (try replace nv2 := nv2.below (un bn)); (try replace nv3 := nv3.below (un bn)); (try replace nv4 := nv4.below (un bn)); (try replace nv5 := nv5.below (un bn)); (try replace nv7 := nv7.below (un bn)); replace bb := Below.after bb (un bn)) | (go_at_call 144; go_fit (nminus_any _ _ _ _ (z0 * D1) (z1 * D0) (L + L) _ (by omega) ?_ ?_); (first | exact nv5 | exact nv5.drew); (first | exact nv6 | exact nv6.drew); rintro e wn ⟨m7, v7, rfl, nv7, bn⟩; obtain ⟨a7, l7, c7, rfl⟩ := nv7.slice; replace kr := kr.below (un bn); replace ks := ks.below (un bn); replace kx := kx.below (un bn); replace ky := ky.below (un bn); replace kz := kz.below (un bn); replace ku := ku.below (un bn); (try replace nv1 := nv1.below (un bn)); (try replace nv2 := nv2.below (un bn)); (try replace nv3 := nv3.below (un bn)); (try replace nv4 := nv4.below (un bn)); (try replace nv5 := nv5.below (un bn)); (try replace nv6 := nv6.below (un bn)); replace bb := Below.after bb (un bn)) | (go_at_call 59; go_fit (ntimes_any _ _ _ _ D0 D1 L L _ (by omega) (by omega) ?_ ?_); (first | exact nv3 | exact nv3.drew); (first | exact nv4 | exact nv4.drew); rintro e wn ⟨m8, v8, rfl, nv8, hm8, bn⟩; obtain ⟨a8, l8, c8, rfl⟩ := nv8.slice; replace kr := kr.below (un bn); replace ks := ks.below (un bn); replace kx := kx.below (un bn); replace ky := ky.below (un bn); replace kz := kz.below (un bn); replace ku := ku.below (un bn); (try replace nv1 := nv1.below (un bn)); (try replace nv2 := nv2.below (un bn)); (try replace nv3 := nv3.below (un bn)); (try replace nv4 := nv4.below (un bn)); (try replace nv5 := nv5.below (un bn)); (try replace nv6 := nv6.below (un bn)); (try replace nv7 := nv7.below (un bn)); replace bb := Below.after bb (un bn); have er0 := cel2_0 kr; have fr0 := Cel.frozen kr 0; have er1 := cel2_1 kr; have fr1 := Cel.frozen kr 1; have es0 := cel2_0 ks; have fs0 := Cel.frozen ks 0; have es1 := cel2_1 ks; have fs1 := Cel.frozen ks 1))
 obtain rfl := hm8 trivial trivial
 clear hm8
 replace nv7 := shut nv7
 replace nv8 := shut nv8
 go_wp2
 exact post_nn (p := 4) (q := 5) (by kernel_rfl) rfl rfl rfl ((((kr.set 0 _).set 1 _).other (by omega) _ _).other (by omega) _ _) ((((ks.other (by omega) _ _).other (by omega) _ _).set 0 _).set 1 _) ⟨_, _, _, _, _, _, _, rfl, (nv7.out.set2 kr _ _).set2 ((ks.other (by omega) _ _).other (by omega) _ _) _ _, (nv8.out.set2 kr _ _).set2 ((ks.other (by omega) _ _).other (by omega) _ _) _ _, bset (bset (bset (bset bb (by omega) 0 _) (by omega) 1 _) (by omega) 0 _) (by omega) 1 _⟩
theorem nsame_nv (v v' : Value) (U V : Int) (L : Nat) (w : World) (hL : L ≤ 1000) (h : NV w false v U L) (h' : NV w false v' V L) :
  Calls Tryz.prog 143 #[.agg #[.bool false, v], .agg #[.bool false, v']] w (Re w (.bool (decide (U = V)))) := by
 obtain ⟨k, r, hk, rfl⟩ := h
 obtain ⟨k', r', hk', rfl⟩ := h'
 have := nsame_any false false v v' k k' L w r r' hL hk hk'
 have e : decide (sgn false k = sgn false k') = decide (k = k') := by
  simp only [sgn, Bool.false_eq_true, if_false]
  by_cases h : k = k'
  ·rw [decide_eq_true h, decide_eq_true (by omega)]
  ·rw [decide_eq_false h, decide_eq_false (by omega)]
 rw [e]
 exact this
theorem post_s {fn : Func} {p : Tmp} {R : Ending → World → Prop} {a : Act} {w : World} {g : Nat} {x0 x1 x2 x3 x4 x5 : Value} (h : fn.results = #[.cell p 149]) (hp : a.tmps.getD p undef = .pointer (some ⟨g, 0, none⟩)) (hd : a.defers = [])
  (hc : Cel w g [x0, x1, x2, x3, x4, x5] 149) (hR : R (.returned (.agg #[x0, x1, x2, x3, x4, x5])) w) : bodyPost Tryz.prog fn R .ret a w := by
 refine ⟨hd, .agg #[x0, x1, x2, x3, x4, x5], ?_, hR⟩
 exact results_cell_row (P := Tryz.prog) h _ w g 149 #[x0, x1, x2, x3, x4, x5] (0, 0) _ hp hc Tryz.underlying149 rfl (by kernel_rfl)
theorem less_any (n0 n1 : Bool) (s0 d0 s1 d1 : ByteArray) (w : World) (o0 : OkQ n0 s0 d0) (o1 : OkQ n1 s1 d1) (z0 : s0.size ≤ 100 ∧ d0.size ≤ 100) (z1 : s1.size ≤ 100 ∧ d1.size ≤ 100) :
  Calls Tryz.prog 142 #[.agg #[.bool n0, .string s0, .string d0], .agg #[.bool n1, .string s1, .string d1]] w fun e w' => ∃ m a l c a' l' c' X U, e = .returned (.tuple #[.agg #[.bool m, .slice a l c], .agg #[.bool false, .slice a' l' c']]) ∧ NV w' m (.slice a l c) X 27 ∧ NV w' false (.slice a' l' c') U 26 ∧ 0 < U ∧ (X : Rat) = (U : Rat) * (qOf n0 s0 d0 - qOf n1 s1 d1) ∧ Below w.heap.size w w' := by
 have H1 : Hid (∀ w1, Calls Tryz.prog 58 #[.agg #[.bool n0, .string s0]] w1 fun e w' => ∃ v, e = .returned (.agg #[.bool n0, v]) ∧ NV w' n0 v (zOf n0 s0) 13 ∧ Below w1.heap.size w1 w') := fun w1 => numOf_any n0 s0 w1 (by omega) o0.1.1 13 (natOf_lt8 13 (by omega))
 have H2 : Hid (∀ w1, Calls Tryz.prog 58 #[.agg #[.bool n1, .string s1]] w1 fun e w' => ∃ v, e = .returned (.agg #[.bool n1, v]) ∧ NV w' n1 v (zOf n1 s1) 13 ∧ Below w1.heap.size w1 w') := fun w1 => numOf_any n1 s1 w1 (by omega) o1.1.1 13 (natOf_lt8 13 (by omega))
 have H3 : Hid (∀ w1, Calls Tryz.prog 58 #[.agg #[.bool false, .string d0]] w1 fun e w' => ∃ v, e = .returned (.agg #[.bool false, v]) ∧ NV w' false v (natOf d0 : Int) 13 ∧ Below w1.heap.size w1 w') := fun w1 => numOf_any false d0 w1 (by omega) o0.2.1 13 (natOf_lt8 13 (by omega))
 have H4 : Hid (∀ w1, Calls Tryz.prog 58 #[.agg #[.bool false, .string d1]] w1 fun e w' => ∃ v, e = .returned (.agg #[.bool false, v]) ∧ NV w' false v (natOf d1 : Int) 13 ∧ Below w1.heap.size w1 w') := fun w1 => numOf_any false d1 w1 (by omega) o1.2.1 13 (natOf_lt8 13 (by omega))
 have q0 : qOf n0 s0 d0 = (zOf n0 s0 : Rat) / (natOf d0 : Rat) := by unfold qOf; rw [Rat.mkRat_eq_div]
 have q1 : qOf n1 s1 d1 = (zOf n1 s1 : Rat) / (natOf d1 : Rat) := by unfold qOf; rw [Rat.mkRat_eq_div]
 have p0 : (0 : Int) < (natOf d0 : Int) := by have := o0.2.2.1; omega
 have p1 : (0 : Int) < (natOf d1 : Int) := by have := o1.2.2.1; omega
 have r0 : ((natOf d0 : Int) : Rat) ≠ 0 := by
  intro h
  have : (natOf d0 : Int) = 0 := by exact_mod_cast h
  omega
 have r1 : ((natOf d1 : Int) : Rat) ≠ 0 := by
  intro h
  have : (natOf d1 : Int) = 0 := by exact_mod_cast h
  omega
 rw [q0, q1]
 cases hd : (d0.toList == d1.toList)
 ·refine (less_ne n0 n1 s0 d0 s1 d1 _ _ _ _ 13 w (by omega) H1 H2 H3 H4 hd).mono ?_
  rintro e w' ⟨m, a, l, c, a', l', c', rfl, h1, h2, h3⟩
  refine ⟨m, a, l, c, a', l', c', _, _, rfl, h1, h2, Int.mul_pos p0 p1, ?_, h3⟩
  simp only [Rat.intCast_sub, Rat.intCast_mul]
  rw [show ((natOf d0 : Nat) : Rat) = ((natOf d0 : Int) : Rat) from rfl, show ((natOf d1 : Nat) : Rat) = ((natOf d1 : Int) : Rat) from rfl]
  grind
 ·have hdd : d0 = d1 := by
   have : d0.toList = d1.toList := by simpa using hd
   have h2 : d0.data = d1.data := by
    rw [ByteArray.toList_eq, ByteArray.toList_eq] at this
    exact Array.toList_inj.1 this
   cases d0; cases d1; simp_all
  refine (less_eq n0 n1 s0 d0 s1 d1 _ _ _ 13 w (by omega) H1 H2 H3 hd).mono ?_
  rintro e w' ⟨m, a, l, c, a', l', c', rfl, h1, h2, h3⟩
  refine ⟨m, a, l, c, a', l', c', _, _, rfl, h1.mono (by omega), h2.mono (by omega), p0, ?_, h3⟩
  rw [← hdd]
  simp only [Rat.intCast_sub]
  rw [show ((natOf d0 : Nat) : Rat) = ((natOf d0 : Int) : Rat) from rfl]
  grind
end Go.Proofs.YtbafjmjcepcckaaGreatDoor
