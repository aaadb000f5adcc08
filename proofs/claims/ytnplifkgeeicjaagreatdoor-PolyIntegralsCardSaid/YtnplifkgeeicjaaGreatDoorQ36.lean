import Derived.Test.YtnplifkgeeicjaaGreatDoorQ31
import Derived.Test.YtnplifkgeeicjaaGreatDoorQ35
set_option maxRecDepth 100000
set_option maxHeartbeats 16000000
namespace Go.Proofs.YtnplifkgeeicjaaGreatDoor
open Go.RowKit
def Na (m : Nat → Bool) (v : Nat → Value) (k i : Nat) : Value := if i / 2 < k then (if i % 2 = 0 then Iz (m (i / 2)) else v (i / 2)) else (if i % 2 = 0 then Iz false else .slice none 0 0)
theorem Bho (m : Nat → Bool) (v : Nat → Value) {k j : Nat} (h : j < k) : Na m v k (j * 2) = Iz (m j) := by
 unfold Na
 rw [show j * 2 / 2 = j by omega, if_pos h, if_pos (by omega)]
theorem Bhn (m : Nat → Bool) (v : Nat → Value) {k j : Nat} (h : j < k) : Na m v k (j * 2 + 1) = v j := by
 unfold Na
 rw [show (j * 2 + 1) / 2 = j by omega, if_pos h, if_neg (by omega)]
theorem Lq : Value.cells (.agg #[Iz false, .slice none 0 0]) = #[Iz false, .slice none 0 0] := by kernel_rfl
theorem Bdf (n : Nat) (hn : n ≤ 1000000) (w : World) :
  ∃ w', (Instr.makeSlice 63 (.int .i64 n) (.int .i64 n)).run Tryz.prog w = .ok (.slice (some ⟨w.heap.size, 0, none⟩) n n) w' ∧ Ck w' w.heap.size 66 (n * 2) (Na (fun _ => false) (fun _ => .slice none 0 0) 0) ∧ Below w.heap.size w w' := by
 obtain ⟨i0, hi, hz0, hz1, hz2⟩ := info_parts (show (Tryz.prog.info? 66).map (fun i => (i.zero, i.size, i.bytes)) = some (some (.agg #[Iz false, .slice none 0 0]), 2, 32) by kernel_rfl)
 have h := run_make (P := Tryz.prog) w 63 66 i0 (.agg #[Iz false, .slice none 0 0]) Tryz.underlying63 hi hz0 .i64 .i64 n n (by omega) (by omega) (by rw [hz2]; omega) (by omega)
 rw [hz1, Lq, Int.toNat_natCast] at h
 refine ⟨_, h, ⟨_, heap_alloc_new w _, size_madeCells _ _, fun i hi => ?_⟩, (Jg _ _).alloc (Jb _) _⟩
 have e : (madeCells #[Value.bool false, .slice none 0 0] (n * 2))[i]? = some (#[Value.bool false, .slice none 0 0][i % 2]!) := by
  simp [madeCells, hi]
 rw [e]
 unfold Na
 rw [if_neg (by omega)]
 by_cases e0 : i % 2 = 0
 ·rw [if_pos e0, e0]; rfl
 ·rw [if_neg e0, show i % 2 = 1 by omega]; rfl
theorem Tj {w : World} {ops : Array Oper} {rest : List Oper} {o : Oper} {a : Act} {Q : Exit → Act → World → Prop}
  (hg : o.guard = none) (l c : Operand) (hop : o.op = Op.makeSlice 63 l c) (L : Int) (n : Nat) (hl : a.eval l = .int .i64 L) (hc : a.eval c = .int .i64 L) (hL : L = (n : Int)) (hn : n ≤ 1000000)
  (hK : ∀ w1, Ck w1 w.heap.size 66 (n * 2) (Na (fun _ => false) (fun _ => .slice none 0 0) 0) → Below w.heap.size w w1 → wpList Tryz.prog ops Q rest (a.put o.dst (.slice (some ⟨w.heap.size, 0, none⟩) n n)) w1) :
  wpList Tryz.prog ops Q (o :: rest) a w := by
 refine wpList_plain hg fun K hK' => ?_
 subst hL
 obtain ⟨w', hrun, hc', hb⟩ := Bdf n hn w
 unfold Oper.wp
 simp [execOp, hop, hl, hc, hrun, Result.andThen]
 exact hK' _ _ (hK _ hc' hb)
theorem Ck.fill {w : World} {g n : Nat} {m : Nat → Bool} {v : Nat → Value} {k : Nat} (h : Ck w g 66 (n * 2) (Na m v k)) (x : Bool) (y : Value) :
  Ck ((w.setCell ⟨g, k * 2, none⟩ (Iz x)).setCell ⟨g, k * 2 + 1, none⟩ y) g 66 (n * 2) (Na (fun j => if j = k then x else m j) (fun j => if j = k then y else v j) (k + 1)) := by
 refine ((h.set (k * 2) (Iz x)).set (k * 2 + 1) y).congr fun i _ => ?_
 unfold Na
 by_cases h1 : i = k * 2 + 1
 ·rw [if_pos h1, h1, show (k * 2 + 1) / 2 = k by omega, if_pos (by omega), if_neg (by omega)]
  simp
 ·rw [if_neg h1]
  by_cases h0 : i = k * 2
  ·rw [if_pos h0, h0, show k * 2 / 2 = k by omega, if_pos (by omega), if_pos (by omega)]
   simp
  ·rw [if_neg h0]
   by_cases hk : i / 2 < k
   ·have e : ¬ i / 2 = k := by omega
    rw [if_pos hk, if_pos (show i / 2 < k + 1 by omega)]
    simp only [e, if_false]
   ·rw [if_neg hk, if_neg (show ¬ i / 2 < k + 1 by omega)]
theorem NV.setC {w : World} {n : Bool} {u : Value} {z : Int} {L g N k : Nat} {m : Nat → Bool} {v : Nat → Value} (h : NV w n u z L) (hc : Ck w g 66 N (Na m v k)) (hv : ∀ j, j < k → ∃ a l c, v j = .slice a l c) (x y : Value) (i : Nat) : NV ((w.setCell ⟨g, i, none⟩ x).setCell ⟨g, i + 1, none⟩ y) n u z L := by
 obtain ⟨q, r, h1, h2⟩ := h
 have rx : Fq w u (M.digs Bb q) g := by
  obtain ⟨a, cap, rfl, hcap, r⟩ := r
  refine ⟨a, cap, rfl, hcap, fun j hj => ?_⟩
  obtain ⟨b, off, rfl, hcell⟩ := r j hj
  refine ⟨b, off, rfl, ?_, hcell⟩
  intro hbg
  subst hbg
  have hl : off + j < N := by
   obtain ⟨cs, hh, hs, -⟩ := hc
   rcases Nat.lt_or_ge (off + j) N with hq | hq
   ·exact hq
   ·have e : cs[off + j]? = some (.int .u64 (lm (M.digs Bb q) j : Nat)) := by simpa [World.cell?, hh] using hcell
    rw [Array.getElem?_eq_none (by omega)] at e
    cases e
  rw [hc.cell hl] at hcell
  unfold Na at hcell
  split at hcell
  ·rename_i hk
   split at hcell
   ·cases hcell
   ·obtain ⟨a', l', c', e⟩ := hv _ hk
    rw [e] at hcell
    cases hcell
  ·split at hcell <;> cases hcell
 exact ⟨q, ((rx.setX i x).setX (i + 1) y).rd, h1, h2⟩
theorem Bdt {fn : Func} {p u : Tmp} {R : Ending → World → Prop} {a : Act} {w : World} {g : Nat} {x y v : Value} (h : fn.results = #[.tmp u, .cell p 66]) (hp : a.tmps.getD p undef = .pointer (some ⟨g, 0, none⟩)) (hu : a.tmps.getD u undef = v) (hd : a.defers = [])
  (hc : Be w g [x, y] 66) (hR : R (.returned (.tuple #[v, .agg #[x, y]])) w) : bodyPost Tryz.prog fn R .ret a w := by
 refine ⟨hd, .tuple #[v, .agg #[x, y]], ?_, hR⟩
 have hp' : a.tmps[p]?.getD undef = .pointer (some ⟨g, 0, none⟩) := by simpa using hp
 have hu' : a.tmps[u]?.getD undef = v := by simpa using hu
 simp only [results, h]
 simp [Result.andThen, hp', hu', asAddr, Uv hc]
def Km (w : World) (m : Nat → Bool) (v : Nat → Value) (Z : Nat → Int) (L k : Nat) : Prop := ∀ q, q < k → NV w (m q) (v q) (Z q) L ∧ ∃ a l c, v q = .slice a l c
theorem Km.b {w w' : World} {m : Nat → Bool} {v : Nat → Value} {Z : Nat → Int} {L k : Nat} (h : Km w m v Z L k) (hb : Below w.heap.size w w') : Km w' m v Z L k := fun q hq => ⟨(h q hq).1.b hb, (h q hq).2⟩
theorem Km.fill {w : World} {g N : Nat} {m : Nat → Bool} {v : Nat → Value} {Z : Nat → Int} {L k : Nat} (h : Km w m v Z L k) (hc : Ck w g 66 N (Na m v k)) {x : Bool} {a : Option Addr} {l c : Nat} (hn : NV w x (.slice a l c) (Z k) L) (i : Nat) :
  Km ((w.setCell ⟨g, i, none⟩ (Iz x)).setCell ⟨g, i + 1, none⟩ (.slice a l c)) (fun j => if j = k then x else m j) (fun j => if j = k then .slice a l c else v j) Z L (k + 1) := fun q hq => by
 have hv : ∀ j, j < k → ∃ a l c, v j = .slice a l c := fun j hj => (h j hj).2
 by_cases e : q = k
 ·subst e
  simp only [if_true]
  exact ⟨hn.setC hc hv _ _ i, a, l, c, rfl⟩
 ·simp only [e, if_false]
  exact ⟨(h q (by omega)).1.setC hc hv _ _ i, (h q (by omega)).2⟩
theorem Be.oth2 {w : World} {g g' : Nat} {cs : List Value} {t : TypeId} (h : Be w g cs t) (hne : g ≠ g') (x0 x1 : Value) : Be ((w.setCell ⟨g', 0, none⟩ x0).setCell ⟨g', 1, none⟩ x1) g cs t := (h.w hne 0 x0).w hne 1 x1
abbrev Bc0 (w : World) (g : Nat) (x0 x1 x2 x3 x4 x5 x6 x7 x8 x9 x10 x11 : Value) : Prop := w.cell? ⟨g, 0, none⟩ = some x0 ∧ w.cell? ⟨g, 1, none⟩ = some x1 ∧ w.cell? ⟨g, 2, none⟩ = some x2 ∧ w.cell? ⟨g, 3, none⟩ = some x3 ∧ w.cell? ⟨g, 4, none⟩ = some x4 ∧ w.cell? ⟨g, 5, none⟩ = some x5 ∧ w.cell? ⟨g, 6, none⟩ = some x6 ∧ w.cell? ⟨g, 7, none⟩ = some x7 ∧ w.cell? ⟨g, 8, none⟩ = some x8 ∧ w.cell? ⟨g, 9, none⟩ = some x9 ∧ w.cell? ⟨g, 10, none⟩ = some x10 ∧ w.cell? ⟨g, 11, none⟩ = some x11
theorem Bfp {w : World} {g : Nat} {t : TypeId} {x0 x1 x2 x3 x4 x5 x6 x7 x8 x9 x10 x11 : Value} (h : Be w g [x0, x1, x2, x3, x4, x5, x6, x7, x8, x9, x10, x11] t) : Bc0 w g x0 x1 x2 x3 x4 x5 x6 x7 x8 x9 x10 x11 := ⟨h.cell 0, h.cell 1, h.cell 2, h.cell 3, h.cell 4, h.cell 5, h.cell 6, h.cell 7, h.cell 8, h.cell 9, h.cell 10, h.cell 11⟩
theorem Bh9 (w : World) (c0 c1 c2 c3 c4 : List Value) (t0 t1 t2 t3 t4 : TypeId) : ∃ w', w' = ((((w.alloc (.cells c0.toArray t0)).alloc (.cells c1.toArray t1)).alloc (.cells c2.toArray t2)).alloc (.cells c3.toArray t3)).alloc (.cells c4.toArray t4) ∧ Be w' w.heap.size c0 t0 ∧ Be w' (w.heap.size + 1) c1 t1 ∧ Be w' (w.heap.size + 1 + 1) c2 t2 ∧ Be w' (w.heap.size + 1 + 1 + 1) c3 t3 ∧ Be w' (w.heap.size + 1 + 1 + 1 + 1) c4 t4 ∧ Below w.heap.size w w' := by
 obtain ⟨v, hv, k0, k1, k2, k3, b⟩ := mk4 w c0 c1 c2 c3 t0 t1 t2 t3
 obtain ⟨u, hu, k4, b'⟩ := D7 v c4 t4
 have hs : v.heap.size = w.heap.size + 1 + 1 + 1 + 1 := by rw [hv]; simp
 refine ⟨u, by rw [hu, hv], k0.b b', k1.b b', k2.b b', k3.b b', by rw [← hs]; exact k4, Ia b b'⟩
theorem Be3 (r0 r1 r2 r3 r4 r5 : Bool) (ra0 ra1 ra2 ra3 ra4 ra5 : Option Addr) (rl0 rc0 rl1 rc1 rl2 rc2 rl3 rc3 rl4 rc4 rl5 rc5 : Nat) (uv xn yn tn : Bool) (ua xa ya ta : Option Addr) (ul uc xl xc yl yc tl tc : Nat) (Z0 Z1 Z2 Z3 Z4 Z5 X Y T : Int) (La Lx G : Nat) (w : World) (hL : La + Lx + Lx + 10 ≤ 1000)
  (kG : Be w G [Iz r0, .slice ra0 rl0 rc0, Iz r1, .slice ra1 rl1 rc1, Iz r2, .slice ra2 rl2 rc2, Iz r3, .slice ra3 rl3 rc3, Iz r4, .slice ra4 rl4 rc4, Iz r5, .slice ra5 rl5 rc5] 66)
  (n0 : NV w r0 (.slice ra0 rl0 rc0) Z0 La)
  (n1 : NV w r1 (.slice ra1 rl1 rc1) Z1 La)
  (n2 : NV w r2 (.slice ra2 rl2 rc2) Z2 La)
  (n3 : NV w r3 (.slice ra3 rl3 rc3) Z3 La)
  (n4 : NV w r4 (.slice ra4 rl4 rc4) Z4 La)
  (n5 : NV w r5 (.slice ra5 rl5 rc5) Z5 La)
  (nx : NV w xn (.slice xa xl xc) X Lx)
  (ny : NV w yn (.slice ya yl yc) Y Lx)
  (nt : NV w tn (.slice ta tl tc) T Lx) :
  Calls Tryz.prog 65 #[.agg #[.slice (some ⟨G, 0, none⟩) 6 6, Iz uv, .slice ua ul uc], .agg #[Iz xn, .slice xa xl xc], .agg #[Iz yn, .slice ya yl yc], .agg #[Iz tn, .slice ta tl tc]] w fun e w' => ∃ m a l c, e = .returned (.agg #[Iz m, .slice a l c]) ∧ NV w' m (.slice a l c) ((Z0 * T + Z1 * X + Z2 * Y) * T + (Z3 * X + Z4 * Y) * X + Z5 * Y * Y) (La + Lx + Lx + 4) ∧ Below w.heap.size w w' := by
 go_enter Tryz.func65, Tryz.ntmps65
 go_wp2_with fail
 obtain ⟨w1, hw, k4, kx, ky, kt, kr, bb⟩ := Bh9 w [.slice (some ⟨G, 0, none⟩) 6 6, Iz uv, .slice ua ul uc] [Iz xn, .slice xa xl xc] [Iz yn, .slice ya yl yc] [Iz tn, .slice ta tl tc] [Iz false, .slice none 0 0] 111 66 66 66 66
 rw [← hw]
 clear hw k4
 have tG := kG.lt
 replace kG := kG.b bb
 replace n0 := n0.b bb
 replace n1 := n1.b bb
 replace n2 := n2.b bb
 replace n3 := n3.b bb
 replace n4 := n4.b bb
 replace n5 := n5.b bb
 replace nx := nx.b bb
 replace ny := ny.b bb
 replace nt := nt.b bb
 have tr := kr.lt
 have mk : Hid (∀ w', SB w1 w' → Bc0 w' G (Iz r0) (.slice ra0 rl0 rc0) (Iz r1) (.slice ra1 rl1 rc1) (Iz r2) (.slice ra2 rl2 rc2) (Iz r3) (.slice ra3 rl3 rc3) (Iz r4) (.slice ra4 rl4 rc4) (Iz r5) (.slice ra5 rl5 rc5) ∧ Fb w' (w.heap.size + 1) (Iz xn) (.slice xa xl xc) ∧ Fb w' (w.heap.size + 1 + 1) (Iz yn) (.slice ya yl yc)) := fun w' h => ⟨Bfp (kG.b h), B7 (kx.b h), B7 (ky.b h)⟩
 go_cut [10] from 15 to 27 (fun v wx => ∃ gc m24 a24 l24 c24, v = .pointer (some ⟨gc, 0, none⟩) ∧ w1.heap.size ≤ gc ∧ Be wx gc [Iz m24, .slice a24 l24 c24] 66 ∧ NV wx m24 (.slice a24 l24 c24) ((((Z3) * (X)) + ((Z4) * (Y))) * (X)) (((La + Lx) + 1) + Lx) ∧ Below w1.heap.size w1 wx)
 case first =>
  refine Jc (S := SB w1) (by kernel_rfl) (Cd _) (fun bc => ?_)
  refine WA.start (n := 15) (by kernel_rfl) ?_
  refine WA.tk 0 rfl ?_
  refine WA.tk 1 rfl ?_
  refine WA.tl 2 rfl ?_
  refine WA.tl 3 rfl ?_
  refine WA.tk 5 rfl ?_
  refine WA.tk 6 rfl ?_
  refine WA.tl 7 rfl ?_
  refine WA.tl 8 rfl ?_
  refine WA.tl 11 rfl ?_
  refine WA.gen (i := 13) (s := 10) undef (Pt w1 [Iz false, .slice none 0 0] 66) (fun b x hz => ?_)
  simp only [Jp]
  revert b x
  refine WA.one 15 2543 4 13 rfl rfl bc ?_
  clear bc
  intro b x w' hz bx bc K hK
  clear bx
  simp only [Jq]
  go_simp
  go_fit (B5 _ _ _ _ (Z3) (X) La Lx _ (by omega) (by omega) (n3.b bc) (nx.b bc))
  rintro e wn ⟨m21, v21, rfl, nv21, -, bn⟩
  obtain ⟨a21, l21, c21, rfl⟩ := nv21.slice
  replace bc := Ia bc bn
  try go_wp2_with fail
  refine hK.out _ _ bc (fun _ => ?_)
  replace hz := fun h => (hz h).b bn
  clear hK K bn
  revert b x
  refine WA.one 15 2559 9 13 rfl rfl bc ?_
  clear bc
  intro b x w' hz bx bc K hK
  replace nv21 := nv21.b bx
  clear bx
  simp only [Jq]
  go_simp
  go_fit (B5 _ _ _ _ (Z4) (Y) La Lx _ (by omega) (by omega) (n4.b bc) (ny.b bc))
  rintro e wn ⟨m22, v22, rfl, nv22, -, bn⟩
  obtain ⟨a22, l22, c22, rfl⟩ := nv22.slice
  replace bc := Ia bc bn
  try go_wp2_with fail
  refine hK.out _ _ bc (fun _ => ?_)
  replace hz := fun h => (hz h).b bn
  replace nv21 := nv21.b bn
  clear hK K bn
  revert b x
  refine WA.one 15 3071 10 13 rfl rfl bc ?_
  clear bc
  intro b x w' hz bx bc K hK
  replace nv21 := nv21.b bx
  replace nv22 := nv22.b bx
  clear bx
  simp only [Jq]
  go_simp
  go_fit (Ef _ _ _ _ ((Z3) * (X)) ((Z4) * (Y)) (La + Lx) _ (by omega) nv21 nv22)
  rintro e wn ⟨m23, v23, rfl, nv23, bn⟩
  obtain ⟨a23, l23, c23, rfl⟩ := nv23.slice
  replace bc := Ia bc bn
  try go_wp2_with fail
  refine hK.out _ _ bc (fun _ => ?_)
  replace hz := fun h => (hz h).b bn
  clear hK K bn nv21 nv22
  revert b x
  refine WA.one 15 4095 12 13 rfl rfl bc ?_
  clear bc
  intro b x w' hz bx bc K hK
  replace nv23 := nv23.b bx
  clear bx
  simp only [Jq]
  go_simp
  go_fit (B5 _ _ _ _ (((Z3) * (X)) + ((Z4) * (Y))) (X) ((La + Lx) + 1) Lx _ (by omega) (by omega) nv23 (nx.b bc))
  rintro e wn ⟨m24, v24, rfl, nv24, -, bn⟩
  obtain ⟨a24, l24, c24, rfl⟩ := nv24.slice
  replace bc := Ia bc bn
  try go_wp2_with fail
  refine hK.out _ _ bc (fun _ => ?_)
  replace hz := fun h => (hz h).b bn
  clear hK K bn nv23
  revert b x
  refine WA.fin 13 rfl bc ?_
  clear bc
  intro x w' hz bx bc
  replace nv24 := nv24.b bx
  obtain ⟨g0, rfl, h0, k0⟩ := hz
  clear bx
  obtain ⟨e0, e1⟩ := B7 k0
  have f0 := Be.o k0 0
  have f1 := Be.o k0 1
  refine WA.call 14 rfl (fun K hK => ?_)
  simp only [Jq]
  go_simp
  try go_wp2_with fail
  clear e0 f0 e1 f1
  replace bc := (Bi (Bi bc h0 0 (Iz m24)) h0 1 (.slice a24 l24 c24))
  refine hK.out _ _ bc (fun _ => ?_)
  clear hK K
  replace nv24 := nv24.set2 k0 (Iz m24) (.slice a24 l24 c24)
  replace k0 := (Be.set (Be.set k0 0 (Iz m24)) 1 (.slice a24 l24 c24))
  refine WA.done (by kernel_rfl) ?_
  go_wp2_with fail
  go_meet
  exact ⟨_, m24, a24, l24, c24, rfl, h0, k0, nv24, bc⟩
 case rest =>
 obtain ⟨gp, m24, a24, l24, c24, rfl, lp, kp, nv24, b1⟩ := hcut
 clear mk; have sz := b1.size
 replace kx := kx.b b1
 replace ky := ky.b b1
 replace kt := kt.b b1
 replace kG := kG.b b1
 replace kr := kr.b b1
 replace bb := Ia bb b1
 replace n0 := n0.b b1
 replace n1 := n1.b b1
 replace n2 := n2.b b1
 replace n3 := n3.b b1
 replace n4 := n4.b b1
 replace n5 := n5.b b1
 replace nx := nx.b b1
 replace ny := ny.b b1
 replace nt := nt.b b1
 clear b1
 have tp := kp.lt
 go_wp2_with fail
 have mk : Hid (∀ w', SB wc w' → Bc0 w' G (Iz r0) (.slice ra0 rl0 rc0) (Iz r1) (.slice ra1 rl1 rc1) (Iz r2) (.slice ra2 rl2 rc2) (Iz r3) (.slice ra3 rl3 rc3) (Iz r4) (.slice ra4 rl4 rc4) (Iz r5) (.slice ra5 rl5 rc5) ∧ Fb w' (w.heap.size + 1 + 1) (Iz yn) (.slice ya yl yc)) := fun w' h => ⟨Bfp (kG.b h), B7 (ky.b h)⟩
 go_cut [11] from 28 to 34 (fun v wx => ∃ gc m26 a26 l26 c26, v = .pointer (some ⟨gc, 0, none⟩) ∧ wc.heap.size ≤ gc ∧ Be wx gc [Iz m26, .slice a26 l26 c26] 66 ∧ NV wx m26 (.slice a26 l26 c26) (((Z5) * (Y)) * (Y)) ((La + Lx) + Lx) ∧ Below wc.heap.size wc wx)
 case first =>
  refine Jc (S := SB wc) (by kernel_rfl) (Cd _) (fun bc => ?_)
  refine WA.start (n := 9) (by kernel_rfl) ?_
  refine WA.tk 0 rfl ?_
  refine WA.tk 1 rfl ?_
  refine WA.tl 2 rfl ?_
  refine WA.tl 3 rfl ?_
  refine WA.tl 5 rfl ?_
  refine WA.gen (i := 7) (s := 11) undef (Pt wc [Iz false, .slice none 0 0] 66) (fun b x hz => ?_)
  simp only [Jp]
  revert b x
  refine WA.one 9 47 4 7 rfl rfl bc ?_
  clear bc
  intro b x w' hz bx bc K hK
  clear bx
  simp only [Jq]
  go_simp
  go_fit (B5 _ _ _ _ (Z5) (Y) La Lx _ (by omega) (by omega) (n5.b bc) (ny.b bc))
  rintro e wn ⟨m25, v25, rfl, nv25, -, bn⟩
  obtain ⟨a25, l25, c25, rfl⟩ := nv25.slice
  replace bc := Ia bc bn
  try go_wp2_with fail
  refine hK.out _ _ bc (fun _ => ?_)
  replace hz := fun h => (hz h).b bn
  clear hK K bn
  revert b x
  refine WA.one 9 63 6 7 rfl rfl bc ?_
  clear bc
  intro b x w' hz bx bc K hK
  replace nv25 := nv25.b bx
  clear bx
  simp only [Jq]
  go_simp
  go_fit (B5 _ _ _ _ ((Z5) * (Y)) (Y) (La + Lx) Lx _ (by omega) (by omega) nv25 (ny.b bc))
  rintro e wn ⟨m26, v26, rfl, nv26, -, bn⟩
  obtain ⟨a26, l26, c26, rfl⟩ := nv26.slice
  replace bc := Ia bc bn
  try go_wp2_with fail
  refine hK.out _ _ bc (fun _ => ?_)
  replace hz := fun h => (hz h).b bn
  clear hK K bn nv25
  revert b x
  refine WA.fin 7 rfl bc ?_
  clear bc
  intro x w' hz bx bc
  replace nv26 := nv26.b bx
  obtain ⟨g0, rfl, h0, k0⟩ := hz
  clear bx
  obtain ⟨e0, e1⟩ := B7 k0
  have f0 := Be.o k0 0
  have f1 := Be.o k0 1
  refine WA.call 8 rfl (fun K hK => ?_)
  simp only [Jq]
  go_simp
  try go_wp2_with fail
  clear e0 f0 e1 f1
  replace bc := (Bi (Bi bc h0 0 (Iz m26)) h0 1 (.slice a26 l26 c26))
  refine hK.out _ _ bc (fun _ => ?_)
  clear hK K
  replace nv26 := nv26.set2 k0 (Iz m26) (.slice a26 l26 c26)
  replace k0 := (Be.set (Be.set k0 0 (Iz m26)) 1 (.slice a26 l26 c26))
  refine WA.done (by kernel_rfl) ?_
  go_wp2_with fail
  go_meet
  exact ⟨_, m26, a26, l26, c26, rfl, h0, k0, nv26, bc⟩
 case rest =>
 obtain ⟨gq, m26, a26, l26, c26, rfl, lq, kq, nv26, b1⟩ := hcut
 clear mk; have sz := b1.size
 replace kx := kx.b b1
 replace ky := ky.b b1
 replace kt := kt.b b1
 replace kG := kG.b b1
 replace kr := kr.b b1
 replace kp := kp.b b1
 replace bb := Ia bb b1
 replace n0 := n0.b b1
 replace n1 := n1.b b1
 replace n2 := n2.b b1
 replace n3 := n3.b b1
 replace n4 := n4.b b1
 replace n5 := n5.b b1
 replace nx := nx.b b1
 replace ny := ny.b b1
 replace nt := nt.b b1
 replace nv24 := nv24.b b1
 clear b1
 have tq := kq.lt
 go_wp2_with fail
 have mk : Hid (∀ w', SB wc w' → Bc0 w' G (Iz r0) (.slice ra0 rl0 rc0) (Iz r1) (.slice ra1 rl1 rc1) (Iz r2) (.slice ra2 rl2 rc2) (Iz r3) (.slice ra3 rl3 rc3) (Iz r4) (.slice ra4 rl4 rc4) (Iz r5) (.slice ra5 rl5 rc5) ∧ Fb w' (w.heap.size + 1) (Iz xn) (.slice xa xl xc) ∧ Fb w' (w.heap.size + 1 + 1) (Iz yn) (.slice ya yl yc) ∧ Fb w' (w.heap.size + 1 + 1 + 1) (Iz tn) (.slice ta tl tc)) := fun w' h => ⟨Bfp (kG.b h), B7 (kx.b h), B7 (ky.b h), B7 (kt.b h)⟩
 go_cut [12] from 35 to 51 (fun v wx => ∃ gc m31 a31 l31 c31, v = .pointer (some ⟨gc, 0, none⟩) ∧ wc.heap.size ≤ gc ∧ Be wx gc [Iz m31, .slice a31 l31 c31] 66 ∧ NV wx m31 (.slice a31 l31 c31) ((((Z0) * (T)) + ((Z1) * (X))) + ((Z2) * (Y))) (((La + Lx) + 1) + 1) ∧ Below wc.heap.size wc wx)
 case first =>
  refine Jc (S := SB wc) (by kernel_rfl) (Cd _) (fun bc => ?_)
  refine WA.start (n := 19) (by kernel_rfl) ?_
  refine WA.tk 0 rfl ?_
  refine WA.tk 1 rfl ?_
  refine WA.tl 2 rfl ?_
  refine WA.tl 3 rfl ?_
  refine WA.tk 5 rfl ?_
  refine WA.tk 6 rfl ?_
  refine WA.tl 7 rfl ?_
  refine WA.tl 8 rfl ?_
  refine WA.tk 11 rfl ?_
  refine WA.tk 12 rfl ?_
  refine WA.tl 13 rfl ?_
  refine WA.tl 14 rfl ?_
  refine WA.gen (i := 17) (s := 12) undef (Pt wc [Iz false, .slice none 0 0] 66) (fun b x hz => ?_)
  simp only [Jp]
  revert b x
  refine WA.one 19 31215 4 17 rfl rfl bc ?_
  clear bc
  intro b x w' hz bx bc K hK
  clear bx
  simp only [Jq]
  go_simp
  go_fit (B5 _ _ _ _ (Z0) (T) La Lx _ (by omega) (by omega) (n0.b bc) (nt.b bc))
  rintro e wn ⟨m27, v27, rfl, nv27, -, bn⟩
  obtain ⟨a27, l27, c27, rfl⟩ := nv27.slice
  replace bc := Ia bc bn
  try go_wp2_with fail
  refine hK.out _ _ bc (fun _ => ?_)
  replace hz := fun h => (hz h).b bn
  clear hK K bn
  revert b x
  refine WA.one 19 31231 9 17 rfl rfl bc ?_
  clear bc
  intro b x w' hz bx bc K hK
  replace nv27 := nv27.b bx
  clear bx
  simp only [Jq]
  go_simp
  go_fit (B5 _ _ _ _ (Z1) (X) La Lx _ (by omega) (by omega) (n1.b bc) (nx.b bc))
  rintro e wn ⟨m28, v28, rfl, nv28, -, bn⟩
  obtain ⟨a28, l28, c28, rfl⟩ := nv28.slice
  replace bc := Ia bc bn
  try go_wp2_with fail
  refine hK.out _ _ bc (fun _ => ?_)
  replace hz := fun h => (hz h).b bn
  replace nv27 := nv27.b bn
  clear hK K bn
  revert b x
  refine WA.one 19 31743 10 17 rfl rfl bc ?_
  clear bc
  intro b x w' hz bx bc K hK
  replace nv27 := nv27.b bx
  replace nv28 := nv28.b bx
  clear bx
  simp only [Jq]
  go_simp
  go_fit (Ef _ _ _ _ ((Z0) * (T)) ((Z1) * (X)) (La + Lx) _ (by omega) nv27 nv28)
  rintro e wn ⟨m29, v29, rfl, nv29, bn⟩
  obtain ⟨a29, l29, c29, rfl⟩ := nv29.slice
  replace bc := Ia bc bn
  try go_wp2_with fail
  refine hK.out _ _ bc (fun _ => ?_)
  replace hz := fun h => (hz h).b bn
  clear hK K bn nv27 nv28
  revert b x
  refine WA.one 19 32767 15 17 rfl rfl bc ?_
  clear bc
  intro b x w' hz bx bc K hK
  replace nv29 := nv29.b bx
  clear bx
  simp only [Jq]
  go_simp
  go_fit (B5 _ _ _ _ (Z2) (Y) La Lx _ (by omega) (by omega) (n2.b bc) (ny.b bc))
  rintro e wn ⟨m30, v30, rfl, nv30, -, bn⟩
  obtain ⟨a30, l30, c30, rfl⟩ := nv30.slice
  replace bc := Ia bc bn
  try go_wp2_with fail
  refine hK.out _ _ bc (fun _ => ?_)
  replace hz := fun h => (hz h).b bn
  replace nv29 := nv29.b bn
  clear hK K bn
  revert b x
  refine WA.one 19 65535 16 17 rfl rfl bc ?_
  clear bc
  intro b x w' hz bx bc K hK
  replace nv29 := nv29.b bx
  replace nv30 := nv30.b bx
  clear bx
  simp only [Jq]
  go_simp
  go_fit (Ef _ _ _ _ (((Z0) * (T)) + ((Z1) * (X))) ((Z2) * (Y)) ((La + Lx) + 1) _ (by omega) nv29 (nv30.mono (by omega)))
  rintro e wn ⟨m31, v31, rfl, nv31, bn⟩
  obtain ⟨a31, l31, c31, rfl⟩ := nv31.slice
  replace bc := Ia bc bn
  try go_wp2_with fail
  refine hK.out _ _ bc (fun _ => ?_)
  replace hz := fun h => (hz h).b bn
  clear hK K bn nv29 nv30
  revert b x
  refine WA.fin 17 rfl bc ?_
  clear bc
  intro x w' hz bx bc
  replace nv31 := nv31.b bx
  obtain ⟨g0, rfl, h0, k0⟩ := hz
  clear bx
  obtain ⟨e0, e1⟩ := B7 k0
  have f0 := Be.o k0 0
  have f1 := Be.o k0 1
  refine WA.call 18 rfl (fun K hK => ?_)
  simp only [Jq]
  go_simp
  try go_wp2_with fail
  clear e0 f0 e1 f1
  replace bc := (Bi (Bi bc h0 0 (Iz m31)) h0 1 (.slice a31 l31 c31))
  refine hK.out _ _ bc (fun _ => ?_)
  clear hK K
  replace nv31 := nv31.set2 k0 (Iz m31) (.slice a31 l31 c31)
  replace k0 := (Be.set (Be.set k0 0 (Iz m31)) 1 (.slice a31 l31 c31))
  refine WA.done (by kernel_rfl) ?_
  go_wp2_with fail
  go_meet
  exact ⟨_, m31, a31, l31, c31, rfl, h0, k0, nv31, bc⟩
 case rest =>
 obtain ⟨gs, m31, a31, l31, c31, rfl, ls, ks, nv31, b1⟩ := hcut
 clear mk; have sz := b1.size
 replace kx := kx.b b1
 replace ky := ky.b b1
 replace kt := kt.b b1
 replace kG := kG.b b1
 replace kr := kr.b b1
 replace kp := kp.b b1
 replace kq := kq.b b1
 replace bb := Ia bb b1
 replace nt := nt.b b1
 replace nv24 := nv24.b b1
 replace nv26 := nv26.b b1
 clear b1
 have ts := ks.lt
 clear n0 n1 n2 n3 n4 n5 nx ny kG kx ky
 go_wp2_with fail
 have qs : gs ≠ w.heap.size + 1 + 1 + 1 + 1 := by omega
 have qp : gp ≠ w.heap.size + 1 + 1 + 1 + 1 := by omega
 have qq : gq ≠ w.heap.size + 1 + 1 + 1 + 1 := by omega
 have qt : w.heap.size + 1 + 1 + 1 ≠ w.heap.size + 1 + 1 + 1 + 1 := by omega
 have bd := Cd wc
 replace kt := kt.b bd
 replace kr := kr.b bd
 replace kp := kp.b bd
 replace kq := kq.b bd
 replace ks := ks.b bd
 replace nt := nt.b bd
 replace nv24 := nv24.b bd
 replace nv26 := nv26.b bd
 replace nv31 := nv31.b bd
 replace bb := Ia bb bd
 clear bd
 refine Jc (S := fun w' => Fb w' gs (Iz m31) (.slice a31 l31 c31) ∧ Fb w' (w.heap.size + 1 + 1 + 1) (Iz tn) (.slice ta tl tc) ∧ Fb w' gp (Iz m24) (.slice a24 l24 c24) ∧ Fb w' gq (Iz m26) (.slice a26 l26 c26)) (by kernel_rfl) ⟨B7 ks, B7 kt, B7 kp, B7 kq⟩ (fun hS => ?_)
 refine WA.start (n := 8) (by kernel_rfl) ?_
 refine WA.tp 0 rfl ?_
 refine WA.tp 1 rfl ?_
 refine WA.tp 3 rfl ?_
 refine WA.tp 5 rfl ?_
 refine WA.cal 2 rfl (fun K hK => ?_)
 simp only [Jq]
 go_simp
 go_fit (B5 _ _ _ _ ((((Z0) * (T)) + ((Z1) * (X))) + ((Z2) * (Y))) (T) ((La + Lx) + 1 + 1) Lx _ (by omega) (by omega) nv31 nt)
 rintro e wn ⟨m32, v32, rfl, nv32, -, bn⟩
 obtain ⟨a32, l32, c32, rfl⟩ := nv32.slice
 replace kt := kt.b bn
 replace kr := kr.b bn
 replace kp := kp.b bn
 replace kq := kq.b bn
 replace ks := ks.b bn
 replace nt := nt.b bn
 replace nv24 := nv24.b bn
 replace nv26 := nv26.b bn
 replace nv31 := nv31.b bn
 replace bb := Ia bb bn
 try go_wp2_with fail
 clear hS
 refine hK.out _ _ ⟨B7 ks, B7 kt, B7 kp, B7 kq⟩ (fun hS => ?_)
 clear hK K bn
 refine WA.cal 4 rfl (fun K hK => ?_)
 simp only [Jq]
 go_simp
 go_fit (Ef _ _ _ _ (((((Z0) * (T)) + ((Z1) * (X))) + ((Z2) * (Y))) * (T)) ((((Z3) * (X)) + ((Z4) * (Y))) * (X)) ((La + Lx) + 1 + 1 + Lx) _ (by omega) nv32 (nv24.mono (by omega)))
 rintro e wn ⟨m33, v33, rfl, nv33, bn⟩
 obtain ⟨a33, l33, c33, rfl⟩ := nv33.slice
 replace kt := kt.b bn
 replace kr := kr.b bn
 replace kp := kp.b bn
 replace kq := kq.b bn
 replace ks := ks.b bn
 replace nt := nt.b bn
 replace nv24 := nv24.b bn
 replace nv26 := nv26.b bn
 replace nv31 := nv31.b bn
 replace nv32 := nv32.b bn
 replace bb := Ia bb bn
 try go_wp2_with fail
 clear hS
 refine hK.out _ _ ⟨B7 ks, B7 kt, B7 kp, B7 kq⟩ (fun hS => ?_)
 clear hK K bn
 refine WA.cal 6 rfl (fun K hK => ?_)
 simp only [Jq]
 go_simp
 go_fit (Ef _ _ _ _ ((((((Z0) * (T)) + ((Z1) * (X))) + ((Z2) * (Y))) * (T)) + ((((Z3) * (X)) + ((Z4) * (Y))) * (X))) (((Z5) * (Y)) * (Y)) (((La + Lx) + 1 + 1 + Lx) + 1) _ (by omega) nv33 (nv26.mono (by omega)))
 rintro e wn ⟨m34, v34, rfl, nv34, bn⟩
 obtain ⟨a34, l34, c34, rfl⟩ := nv34.slice
 replace kt := kt.b bn
 replace kr := kr.b bn
 replace kp := kp.b bn
 replace kq := kq.b bn
 replace ks := ks.b bn
 replace nt := nt.b bn
 replace nv24 := nv24.b bn
 replace nv26 := nv26.b bn
 replace nv31 := nv31.b bn
 replace nv32 := nv32.b bn
 replace nv33 := nv33.b bn
 replace bb := Ia bb bn
 try go_wp2_with fail
 clear hS
 refine hK.out _ _ ⟨B7 ks, B7 kt, B7 kp, B7 kq⟩ (fun hS => ?_)
 clear hK K bn
 obtain ⟨e0, e1⟩ := B7 kr
 have f0 := Be.o kr 0
 have f1 := Be.o kr 1
 refine WA.cal 7 rfl (fun K hK => ?_)
 simp only [Jq]
 go_simp
 try go_wp2_with fail
 clear e0 f0 e1 f1
 clear hS
 refine hK.out _ _ ⟨B7 (ks.oth2 qs _ _), B7 (kt.oth2 qt _ _), B7 (kp.oth2 qp _ _), B7 (kq.oth2 qq _ _)⟩ (fun hS => ?_)
 clear hK K
 refine WA.done (by kernel_rfl) ?_
 clear hS
 go_wp2_with fail
 exact Fj (p := 8) (by kernel_rfl) rfl rfl ((kr.set 0 _).set 1 _) ⟨_, _, _, _, rfl, (nv34.set2 kr _ _).mono (by omega), Bi (Bi bb (by omega) 0 _) (by omega) 1 _⟩
theorem Rt (a : Option Addr) (n cap : Nat) (N : Nat → Bool) (S D U G F E C E' : Nat → ByteArray) (X Y : Nat → Int) (Q : Int) (L : Nat) (w : World) (hn : n ≤ 1000) (hL : L ≤ 1000) (h : RdQ w a n N S D)
  (H0 : Hid (∀ w1, Calls Tryz.prog 123 #[.int .i64 1] w1 (Re w1 (.agg #[Iz false, I (U 0)]))))
  (H1 : Hid (∀ (k : Nat) (w1 : World), k < n → Below w.heap.size w w1 → Calls Tryz.prog 124 #[.agg #[Iz false, I (U k)], .agg #[Iz false, I (D k)]] w1 (Re w1 (.tuple #[.agg #[Iz false, I (G k)], .int .i64 0]))))
  (H2 : Hid (∀ (k : Nat) (w1 : World), k < n → Below w.heap.size w w1 → Calls Tryz.prog 125 #[.agg #[Iz false, I (D k)], .agg #[Iz false, I (G k)]] w1 (Re w1 (.tuple #[.agg #[Iz false, I (F k)], .agg #[Iz false, I (E k)], .int .i64 0]))))
  (H3 : Hid (∀ (k : Nat) (w1 : World), k < n → Below w.heap.size w w1 → Calls Tryz.prog 126 #[.agg #[Iz false, I (U k)], .agg #[Iz false, I (F k)]] w1 (Re w1 (.tuple #[.agg #[Iz false, I (U (k + 1))], .int .i64 0]))))
  (H4 : Hid (∀ (k : Nat) (w1 : World), k < n → Below w.heap.size w w1 → Calls Tryz.prog 125 #[.agg #[Iz false, I (U n)], .agg #[Iz false, I (D k)]] w1 (Re w1 (.tuple #[.agg #[Iz false, I (C k)], .agg #[Iz false, I (E' k)], .int .i64 0]))))
  (H5 : Hid (∀ (k : Nat) (w1 : World), k < n → Below w.heap.size w w1 → Calls Tryz.prog 66 #[.agg #[Iz (N k), I (S k)]] w1 fun e w' => ∃ v, e = .returned (.agg #[Iz (N k), v]) ∧ NV w' (N k) v (X k) L ∧ Below w1.heap.size w1 w'))
  (H6 : Hid (∀ (k : Nat) (w1 : World), k < n → Below w.heap.size w w1 → Calls Tryz.prog 66 #[.agg #[Iz false, I (C k)]] w1 fun e w' => ∃ v, e = .returned (.agg #[Iz false, v]) ∧ NV w' false v (Y k) L ∧ Below w1.heap.size w1 w'))
  (H7 : Hid (∀ (w1 : World), Below w.heap.size w w1 → Calls Tryz.prog 66 #[.agg #[Iz false, I (U n)]] w1 fun e w' => ∃ v, e = .returned (.agg #[Iz false, v]) ∧ NV w' false v Q L ∧ Below w1.heap.size w1 w')) :
  Calls Tryz.prog 62 #[.slice a n cap] w fun e w' => ∃ g m v a l c, w.heap.size ≤ g ∧ e = .returned (.tuple #[.slice (some ⟨g, 0, none⟩) n n, .agg #[Iz false, .slice a l c]]) ∧ Ck w' g 66 (n * 2) (Na m v n) ∧ Km w' m v (fun q => X q * Y q) (L + L) n ∧ NV w' false (.slice a l c) Q L ∧ Below w.heap.size w w' := by
 replace h := Ba h
 go_enter Tryz.func62, Tryz.ntmps62
 go_wp2_with fail
 obtain ⟨w0, hw, kr, bb⟩ := D7 w [Iz false, .slice none 0 0] 66
 rw [← hw]
 clear hw
 go_fit (H0.out _)
 rintro e w1 ⟨rfl, b1⟩
 have sz := b1.size
 replace kr := kr.b b1
 replace bb := Ia bb b1
 clear b1
 go_wp2_with fail
 obtain ⟨w2, hw, kU, b1⟩ := D7 w1 [Iz false, I (U 0)] 24
 rw [← hw]
 clear hw
 have tr := kr.lt
 replace kr := kr.b b1
 replace bb := Ia bb b1
 clear b1
 go_loopw [22] (fun i wr => Below w.heap.size w wr ∧ ∃ k : Nat, k ≤ n ∧ i = .int .i64 k ∧ Be wr w1.heap.size [Iz false, I (U k)] 24 ∧ Be wr w.heap.size [Iz false, .slice none 0 0] 66) (fun i _ => n - (intOf i).toNat)
 case atStart => exact ⟨bb, 0, by omega, rfl, kU, kr⟩
 case round =>
  clear bb kU kr
  obtain ⟨bb, k, hk, rfl, kU, kr⟩ := hrel
  by_cases hkn : k < n
  ·obtain ⟨b, off, rfl, h0, h1, h2⟩ := h.out.b bb k hkn
   obtain ⟨u0, u1⟩ := B7 ((kU.alloc (.cells (Cr (N k) (S k) (D k)) 26)).alloc (.cells #[Iz false, I (D k)] 24))
   go_wp2_with fail
   obtain ⟨w3, hw, k6, k7, b1⟩ := Gx wr (Bx (N k) (S k) (D k)) [Iz false, I (D k)] 26 24
   rw [← hw]
   clear hw u0 u1 h0 h1 h2
   replace kU := kU.b b1
   replace kr := kr.b b1
   replace bb := Ia bb b1
   clear b1
   go_fit (H1.out k _ hkn bb)
   rintro e w4 ⟨rfl, b1⟩
   replace kU := kU.b b1
   replace kr := kr.b b1
   replace k7 := k7.b b1
   replace bb := Ia bb b1
   clear b1
   obtain ⟨x0, x1⟩ := B7 (k7.alloc (.cells #[Iz false, I (G k)] 24))
   obtain ⟨y0, y1⟩ := B7 (Be.new w4 [Iz false, I (G k)] 24)
   go_wp2_with fail
   obtain ⟨w5, hw, k8, b1⟩ := D7 w4 [Iz false, I (G k)] 24
   rw [← hw]
   clear hw x0 x1 y0 y1 k6
   replace kU := kU.b b1
   replace kr := kr.b b1
   replace bb := Ia bb b1
   clear b1
   go_fit (H2.out k _ hkn bb)
   rintro e w6 ⟨rfl, b1⟩
   replace kU := kU.b b1
   replace kr := kr.b b1
   replace bb := Ia bb b1
   clear b1
   obtain ⟨u0, u1⟩ := B7 ((kU.alloc (.cells #[Iz false, I (F k)] 24)).alloc (.cells #[Iz false, I (E k)] 24))
   obtain ⟨y0, y1⟩ := B7 ((Be.new w6 [Iz false, I (F k)] 24).alloc (.cells #[Iz false, I (E k)] 24))
   go_wp2_with fail
   obtain ⟨w7, hw, k10, k11, b1⟩ := Gx w6 [Iz false, I (F k)] [Iz false, I (E k)] 24 24
   rw [← hw]
   clear hw u0 u1 y0 y1 k7 k8
   replace kU := kU.b b1
   replace kr := kr.b b1
   replace bb := Ia bb b1
   clear b1
   go_fit (H3.out k _ hkn bb)
   rintro e w8 ⟨rfl, b1⟩
   replace kU := kU.b b1
   replace kr := kr.b b1
   replace bb := Ia bb b1
   clear b1
   clear k10 k11
   obtain ⟨u0, u1⟩ := B7 kU
   have f0 := Be.o kU 0
   have f1 := Be.o kU 1
   go_wp2
   exact ⟨⟨Bi (Bi bb (by omega) 0 _) (by omega) 1 _, k + 1, by omega, by go_num, (kU.set 0 _).set 1 _, (kr.w (by omega) 0 _).w (by omega) 1 _⟩, by simp [intOf]; omega⟩
  ·obtain rfl : k = n := by omega
   clear hkn hk
   have tU := kU.lt
   have tr2 := kr.lt
   have sb := bb.size
   go_wp2_with (at_make; refine Tj rfl _ _ rfl _ k rfl rfl rfl (by omega) ?_; intro w3 kg b1)
   replace kU := kU.b b1
   replace kr := kr.b b1
   replace bb := Ia bb b1
   clear b1
   generalize wr.heap.size = gO at *
   go_loopw [54] (fun i wx => Below w.heap.size w wx ∧ ∃ (j : Nat) (m : Nat → Bool) (v : Nat → Value), j ≤ k ∧ i = .int .i64 j ∧ Ck wx gO 66 (k * 2) (Na m v j) ∧ Km wx m v (fun q => X q * Y q) (L + L) j ∧ Be wx w1.heap.size [Iz false, I (U k)] 24 ∧ Be wx w.heap.size [Iz false, .slice none 0 0] 66) (fun i _ => k - (intOf i).toNat)
   case atStart => exact ⟨bb, 0, _, _, by omega, rfl, kg, fun q hq => absurd hq (by omega), kU, kr⟩
   case round =>
    clear bb kU kr kg
    obtain ⟨bb, j, m, v, hj, rfl, kg, hv, kU, kr⟩ := hrel
    have tg := kg.lt
    by_cases hjn : j < k
    ·obtain ⟨b, off, rfl, h0, h1, h2⟩ := h.out.b bb j hjn
     obtain ⟨u0, u1⟩ := B7 (kU.alloc (.cells (Cr (N j) (S j) (D j)) 26))
     go_wp2_with fail
     obtain ⟨w4, hw, k15, b1⟩ := D7 wr (Bx (N j) (S j) (D j)) 26
     rw [← hw]
     clear hw u0 u1 h0 h1 h2
     replace kU := kU.b b1
     replace kr := kr.b b1
     replace kg := kg.b b1
     replace hv := hv.b b1
     replace bb := Ia bb b1
     clear b1
     go_fit (H4.out j _ hjn bb)
     rintro e w5 ⟨rfl, b1⟩
     replace kU := kU.b b1
     replace kr := kr.b b1
     replace kg := kg.b b1
     replace k15 := k15.b b1
     replace hv := hv.b b1
     replace bb := Ia bb b1
     clear b1
     have tg5 := kg.lt
     go_wp2_with fail
     obtain ⟨w6, hw, k16, k17, b1⟩ := Gx w5 [Iz false, I (C j)] [Iz false, I (E' j)] 24 24
     rw [← hw]
     clear hw
     replace kU := kU.b b1
     replace kr := kr.b b1
     replace kg := kg.b b1
     replace k15 := k15.b b1
     replace hv := hv.b b1
     replace bb := Ia bb b1
     clear b1
     have t15 := k15.lt
     have t16 := k16.lt
     have ne15 : wr.heap.size ≠ gO := by omega
     have ne16 : w5.heap.size ≠ gO := by omega
     have bd := Cd w6
     replace kU := kU.b bd
     replace kr := kr.b bd
     replace kg := kg.b bd
     replace k15 := k15.b bd
     replace k16 := k16.b bd
     replace hv := hv.b bd
     replace bb := Ia bb bd
     clear bd
     refine Jc (S := fun w' => Gy w' wr.heap.size (Iz (N j)) (I (S j)) (I (D j)) ∧ Fb w' w5.heap.size (Iz false) (I (C j))) (by kernel_rfl) ⟨Ch k15, B7 k16⟩ (fun hS => ?_)
     generalize w6.drew = wd at *
     refine WA.start (n := 10) (by kernel_rfl) ?_
     refine WA.tp 0 rfl ?_
     refine WA.tp 1 rfl ?_
     refine WA.tp 2 rfl ?_
     refine WA.tp 3 rfl ?_
     refine WA.tp 5 rfl ?_
     refine WA.cal 4 rfl (fun K hK => ?_)
     simp only [Jq]
     go_simp
     go_fit (H5.out j _ hjn bb)
     rintro e wn ⟨v1, rfl, n1, b1⟩
     obtain ⟨a1, l1, c1, rfl⟩ := n1.slice
     replace kU := kU.b b1
     replace kr := kr.b b1
     replace kg := kg.b b1
     replace k15 := k15.b b1
     replace k16 := k16.b b1
     replace hv := hv.b b1
     replace bb := Ia bb b1
     clear b1
     try go_wp2_with fail
     clear hS
     refine hK.out _ _ ⟨Ch k15, B7 k16⟩ (fun hS => ?_)
     clear hK K
     refine WA.cal 6 rfl (fun K hK => ?_)
     simp only [Jq]
     go_simp
     go_fit (H6.out j _ hjn bb)
     rintro e wm ⟨v2, rfl, n2, b1⟩
     obtain ⟨a2, l2, c2, rfl⟩ := n2.slice
     replace kU := kU.b b1
     replace kr := kr.b b1
     replace kg := kg.b b1
     replace k15 := k15.b b1
     replace k16 := k16.b b1
     replace n1 := n1.b b1
     replace hv := hv.b b1
     replace bb := Ia bb b1
     clear b1
     try go_wp2_with fail
     clear hS
     refine hK.out _ _ ⟨Ch k15, B7 k16⟩ (fun hS => ?_)
     clear hK K
     refine WA.cal 7 rfl (fun K hK => ?_)
     simp only [Jq]
     go_simp
     go_fit (B5 _ _ _ _ (X j) (Y j) L L _ hL hL n1 n2)
     rintro e wp ⟨m3, v3, rfl, n3, -, b1⟩
     obtain ⟨a3, l3, c3, rfl⟩ := n3.slice
     replace kU := kU.b b1
     replace kr := kr.b b1
     replace kg := kg.b b1
     replace k15 := k15.b b1
     replace k16 := k16.b b1
     replace hv := hv.b b1
     replace bb := Ia bb b1
     clear b1
     clear n1 n2
     try go_wp2_with fail
     clear hS
     refine hK.out _ _ ⟨Ch k15, B7 k16⟩ (fun hS => ?_)
     clear hK K
     have i1 : (j : Int) < (k : Int) := by omega
     have i2 : ¬ (j : Int) < 0 := by omega
     refine WA.tp 8 rfl ?_
     have q0 := kg.cell (i := j * 2) (by omega)
     have q1 := kg.cell (i := j * 2 + 1) (by omega)
     have f0 := kg.o (j * 2)
     have f1 := kg.o (j * 2 + 1)
     refine WA.cal 9 rfl (fun K hK => ?_)
     simp only [Jq]
     go_simp
     try go_wp2_with fail
     clear q0 q1 f0 f1
     refine hK.out _ _ ⟨Ch ((k15.w ne15 _ _).w ne15 _ _), B7 ((k16.w ne16 _ _).w ne16 _ _)⟩ (fun _ => ?_)
     clear hK K hS
     refine WA.done (by kernel_rfl) ?_
     go_wp2
     exact ⟨⟨Bi (Bi bb (by omega) _ _) (by omega) _ _, j + 1, _, _, by omega, by go_num, kg.fill _ _, hv.fill kg n3 _, (kU.w (by omega) _ _).w (by omega) _ _, (kr.w (by omega) _ _).w (by omega) _ _⟩, by simp [intOf]; omega⟩
    ·obtain rfl : j = k := by omega
     obtain ⟨u0, u1⟩ := B7 kU
     go_wp2_with fail
     clear u0 u1
     go_fit (H7.out _ bb)
     rintro e w9 ⟨v9, rfl, n9, b1⟩
     obtain ⟨a9, l9, c9, rfl⟩ := n9.slice
     replace kr := kr.b b1
     replace kg := kg.b b1
     replace hv := hv.b b1
     replace bb := Ia bb b1
     clear b1
     obtain ⟨e0, e1⟩ := B7 kr
     have f0 := Be.o kr 0
     have f1 := Be.o kr 1
     go_wp2
     exact Bdt (p := 3) (u := 2) (by kernel_rfl) rfl rfl rfl ((kr.set 0 _).set 1 _) ⟨gO, m, v, a9, l9, c9, sb, rfl, (kg.w (by omega) 0 _).w (by omega) 1 _, fun q hq => ⟨(hv q hq).1.set2 kr _ _, (hv q hq).2⟩, n9.set2 kr _ _, Bi (Bi bb (by omega) 0 _) (by omega) 1 _⟩
theorem Kx (n : Bool) (k : Nat) : (C4 n k).natAbs = k := by
 unfold C4
 split <;> omega
theorem Hs (n : Bool) (v : Value) (z : Int) (L : Nat) (w : World) (hL : L ≤ 1000) (h : NV w n v z L) :
  Calls Tryz.prog 168 #[.agg #[Iz n, v]] w (Re w (.agg #[Iz (Bs z), I (Bp z)])) := by
 have H1 : Hid (∀ w1, Below w.heap.size w w1 → Calls Tryz.prog 199 #[v] w1 (Re w1 (.tuple #[I (Bp z), .int .i64 0]))) := fun w1 b => by
  obtain ⟨k, r, hk, rfl⟩ := h
  have := Wu v _ w1 (r.b b) (M.Low.digs Bg k) (Ku hk hL)
  rw [M.val_digs Bg] at this
  unfold Bp
  rw [Kx]
  exact this
 have H2 : Hid (∀ w1, Below w.heap.size w w1 → Calls Tryz.prog 200 #[.agg #[Iz n, v]] w1 (Re w1 (.int .i64 z.sign))) := fun w1 b => Yh n v z L w1 (h.b b)
 have hs : decide (z.sign < 0) = Bs z := by
  unfold Bs
  rw [decide_eq_decide]
  constructor
  ·intro k
   rcases Int.lt_trichotomy z 0 with q | q | q
   ·exact q
   ·rw [q] at k; exact absurd k (by decide)
   ·rw [Int.sign_eq_one_of_pos q] at k; exact absurd k (by decide)
  ·intro k
   rw [Int.sign_eq_neg_one_of_neg k]; decide
 obtain ⟨s, hs'⟩ : ∃ s, s = z.sign := ⟨_, rfl⟩
 rw [← hs'] at hs H2
 obtain ⟨N, hN⟩ : ∃ N, N = Bs z := ⟨_, rfl⟩
 obtain ⟨S, hS⟩ : ∃ S, S = Bp z := ⟨_, rfl⟩
 rw [← hN] at hs ⊢
 rw [← hS] at H1 ⊢
 obtain ⟨a, l, c, rfl⟩ := h.slice
 clear h hs' hN hS
 go_enter Tryz.func168, Tryz.ntmps168
 go_wp2_with fail
 obtain ⟨w0, hw, k0, kr, bb⟩ := Gx w [Iz n, .slice a l c] [Iz false, .string { data := #[] }] 66 24
 rw [← hw]
 clear hw
 go_fit (H1.out _ bb)
 rintro e w1 ⟨rfl, b1⟩
 replace k0 := k0.b b1
 replace kr := kr.b b1
 replace bb := Ia bb b1
 clear b1
 obtain ⟨c0, c1⟩ := B7 k0
 go_wp2_with fail
 clear c0 c1
 go_fit (H2.out _ bb)
 rintro e w2 ⟨rfl, b1⟩
 replace kr := kr.b b1
 replace bb := Ia bb b1
 clear b1
 obtain ⟨c0, c1⟩ := B7 kr
 have f0 := kr.o 0
 have f1 := kr.o 1
 go_wp2
 exact Dg (p := 2) (by kernel_rfl) rfl rfl ((kr.set 0 _).set 1 _) ⟨rfl, Bi (Bi bb (by omega) 0 _) (by omega) 1 _⟩
theorem Bil {w w' : World} {c0 : List Value} {t0 : TypeId} (b : Below (w.alloc (.cells c0.toArray t0)).drew.heap.size (w.alloc (.cells c0.toArray t0)).drew w') : Be w' w.heap.size c0 t0 ∧ Below w.heap.size w w' := by
 have b' : Below (w.alloc (.cells c0.toArray t0)).heap.size (w.alloc (.cells c0.toArray t0)) w' := ⟨b.os, b.tape, b.output, b.size, b.block⟩
 exact Tf b'
theorem Hh {n : Bool} {s d : ByteArray} {K : Nat} (h : Bt n s d = 0) (z : s.size ≤ K ∧ d.size ≤ K) : ∃ x : Rat, Bq x K ∧ n = Bs x.num ∧ s = Bp x.num ∧ d = Bf x.den := by
 have o := (Y9 h).1
 obtain ⟨e1, e2, e3⟩ := o.parts
 refine ⟨Gh n s d, ⟨?_, ?_⟩, e1.symm, e2.symm, e3.symm⟩
 ·rw [o.low.1]; exact E9 z.1
 ·rw [o.low.2]
  have := E9 (n := false) z.2
  simpa [Cq] using this
theorem Bij {w : World} {g : Nat} {x y z u : Value} {t : TypeId} (h : Be w g [x, y, z, u] t) : w.cell? ⟨g, 0, none⟩ = some x := h.cell 0
theorem Bii {w : World} {g : Nat} {x y z u : Value} {t : TypeId} (h : Be w g [x, y, z, u] t) : w.cell? ⟨g, 1, none⟩ = some y := h.cell 1
theorem Bih {w : World} {g : Nat} {x y z u : Value} {t : TypeId} (h : Be w g [x, y, z, u] t) : w.cell? ⟨g, 2, none⟩ = some z := h.cell 2
theorem Big {w : World} {g : Nat} {x y z u : Value} {t : TypeId} (h : Be w g [x, y, z, u] t) : w.cell? ⟨g, 3, none⟩ = some u := h.cell 3
theorem Tp (B : Nat) (s0 s1 s2 s3 : ByteArray) (w : World) (h : Be w B [I s0, I s1, I s2, I s3] 22) (z0 : s0.size ≤ 100) (z1 : s1.size ≤ 100) (z2 : s2.size ≤ 100) (z3 : s3.size ≤ 100) :
  Calls Tryz.prog 162 #[.slice (some ⟨B, 0, none⟩) 4 4] w (Re w (Iz false)) := by
 have i0 : ¬ (100 : Int) < s0.size := by omega
 have i1 : ¬ (100 : Int) < s1.size := by omega
 have i2 : ¬ (100 : Int) < s2.size := by omega
 have i3 : ¬ (100 : Int) < s3.size := by omega
 go_enter Tryz.func162, Tryz.ntmps162
 go_wp2
 go_loopw [7] (fun i wr => Below w.heap.size w wr ∧ (i = .int .i64 0 ∨ i = .int .i64 1 ∨ i = .int .i64 2 ∨ i = .int .i64 3 ∨ i = .int .i64 4)) (fun i _ => 4 - (intOf i).toNat)
 case atStart => exact ⟨Jg _ _, Or.inl rfl⟩
 case round =>
  obtain ⟨bb, hi⟩ := hrel
  have k := h.b bb
  obtain ⟨c0, c1, c2, c3⟩ := xk4 k
  clear k
  rcases hi with rfl | rfl | rfl | rfl | rfl
  ·go_wp2
   exact ⟨⟨bb, Or.inr (Or.inl (by go_num))⟩, by simp [intOf]⟩
  ·go_wp2
   exact ⟨⟨bb, Or.inr (Or.inr (Or.inl (by go_num)))⟩, by simp [intOf]⟩
  ·go_wp2
   exact ⟨⟨bb, Or.inr (Or.inr (Or.inr (Or.inl (by go_num))))⟩, by simp [intOf]⟩
  ·go_wp2
   exact ⟨⟨bb, Or.inr (Or.inr (Or.inr (Or.inr (by go_num))))⟩, by simp [intOf]⟩
  ·go_wp2
   go_ret
   exact ⟨rfl, bb⟩
def O7 (w : World) (a : Option Addr) (n : Nat) (N : Nat → Bool) (S D : Nat → ByteArray) (N' : Nat → Bool) (S' D' : Nat → ByteArray) : Prop :=
 ∀ j, j < n → ∃ b off, a = some ⟨b, off, none⟩ ∧ w.cell? ⟨b, off + j * 6, none⟩ = some (Iz (N j)) ∧ w.cell? ⟨b, off + j * 6 + 1, none⟩ = some (I (S j)) ∧ w.cell? ⟨b, off + j * 6 + 2, none⟩ = some (I (D j)) ∧ w.cell? ⟨b, off + j * 6 + 3, none⟩ = some (Iz (N' j)) ∧ w.cell? ⟨b, off + j * 6 + 4, none⟩ = some (I (S' j)) ∧ w.cell? ⟨b, off + j * 6 + 5, none⟩ = some (I (D' j))
theorem O7.b {w w' : World} {a : Option Addr} {n : Nat} {N N' : Nat → Bool} {S D S' D' : Nat → ByteArray} (h : O7 w a n N S D N' S' D') (hb : Below w.heap.size w w') : O7 w' a n N S D N' S' D' := by
 intro j hj
 obtain ⟨b, off, rfl, h0, h1, h2, h3, h4, h5⟩ := h j hj
 exact ⟨b, off, rfl, Bh h0 hb, Bh h1 hb, Bh h2 hb, Bh h3 hb, Bh h4 hb, Bh h5 hb⟩
theorem Mk (a : Option Addr) (n cap : Nat) (N N' : Nat → Bool) (S D S' D' : Nat → ByteArray) (c : Nat → Nat) (w : World) (hn : n ≤ 1000000) (h : O7 w a n N S D N' S' D')
  (HZ : Hid (∀ k, k < n → (S k).size ≤ 100 ∧ (D k).size ≤ 100 ∧ (S' k).size ≤ 100 ∧ (D' k).size ≤ 100))
  (HC : Hid (∀ (k : Nat) (w1 : World), k < n → Below w.heap.size w w1 → Calls Tryz.prog 164 #[(B4 (N k) (S k) (D k) (N' k) (S' k) (D' k))] w1 (Re w1 (.int .i64 (c k : Nat))))) :
  Calls Tryz.prog 119 #[.slice a n cap] w (Re w (.int .i64 (Br c n : Nat))) := by
 replace h := Ba h
 go_enter Tryz.func119, Tryz.ntmps119
 go_wp2
 go_loopw [8] (fun i wr => Below w.heap.size w wr ∧ ∃ k : Nat, k ≤ n ∧ i = .int .i64 k ∧ Br c k = 0) (fun i _ => n - (intOf i).toNat)
 case atStart => exact ⟨Jg _ _, 0, by omega, rfl, rfl⟩
 case round =>
  obtain ⟨bb, k, hk, rfl, hz⟩ := hrel
  by_cases hkn : k < n
  ·obtain ⟨b, off, rfl, h0, h1, h2, h3, h4, h5⟩ := h.out.b bb k hkn
   go_wp2_with fail
   obtain ⟨w1, hw, kp, kq, b1⟩ := Gx wr (Cn (N k) (S k) (D k) (N' k) (S' k) (D' k)) [I (S k), I (D k), I (S' k), I (D' k)] 30 22
   rw [← hw]
   clear hw
   replace bb := Ia bb b1
   clear b1 h0 h1 h2 h3 h4 h5
   go_fit (Tp _ _ _ _ _ _ kq (HZ.out k hkn).1 (HZ.out k hkn).2.1 (HZ.out k hkn).2.2.1 (HZ.out k hkn).2.2.2)
   rintro e w2 ⟨rfl, b1⟩
   replace kp := kp.b b1
   replace bb := Ia bb b1
   clear b1 kq
   obtain ⟨c0, c1, c2, c3, c4, c5⟩ := Cw kp
   go_wp2_with fail
   go_fit (HC.out k _ hkn bb)
   rintro e w3 ⟨rfl, b1⟩
   replace bb := Ia bb b1
   clear b1 c0 c1 c2 c3 c4 c5 kp
   by_cases hc : c k = 0
   ·have hs : Br c (k + 1) = 0 := by unfold Br; rw [if_pos hz, hc]
    replace hs := Ba hs
    replace hz := Ba hz
    rw [hc]
    go_wp2
    exact ⟨⟨bb, k + 1, by omega, by go_num, hs.out⟩, by simp [intOf]; omega⟩
   ·have hs := Dv hz hc n hkn
    replace hs := Ba hs
    replace hz := Ba hz
    go_wp2
    go_ret
    exact ⟨by rw [hs.out]; rfl, bb⟩
  ·obtain rfl : k = n := by omega
   replace hz := Ba hz
   go_wp2
   go_ret
   exact ⟨by rw [hz.out]; rfl, bb⟩
theorem Wm {fn : Func} {p q : Tmp} {R : Ending → World → Prop} {a : Act} {w : World} {g g' : Nat} {x y x' y' : Value} (h : fn.results = #[.cell p 66, .cell q 66]) (hp : a.tmps.getD p undef = .pointer (some ⟨g, 0, none⟩)) (hq : a.tmps.getD q undef = .pointer (some ⟨g', 0, none⟩)) (hd : a.defers = [])
  (hc : Be w g [x, y] 66) (hc' : Be w g' [x', y'] 66) (hR : R (.returned (.tuple #[.agg #[x, y], .agg #[x', y']])) w) : bodyPost Tryz.prog fn R .ret a w := by
 refine ⟨hd, .tuple #[.agg #[x, y], .agg #[x', y']], ?_, hR⟩
 have hp' : a.tmps[p]?.getD undef = .pointer (some ⟨g, 0, none⟩) := by simpa using hp
 have hq' : a.tmps[q]?.getD undef = .pointer (some ⟨g', 0, none⟩) := by simpa using hq
 simp only [results, h]
 simp [Sem.run_bind, Result.andThen, hp', hq', asAddr, Uv hc, Uv hc']
theorem Beg (n0 n1 : Bool) (s0 d0 s1 d1 : ByteArray) (z0 z1 D0 : Int) (L : Nat) (w : World) (hL : L ≤ 200)
  (H1 : Hid (∀ w1, Calls Tryz.prog 66 #[.agg #[Iz n0, I s0]] w1 fun e w' => ∃ v, e = .returned (.agg #[Iz n0, v]) ∧ NV w' n0 v z0 L ∧ Below w1.heap.size w1 w'))
  (H2 : Hid (∀ w1, Calls Tryz.prog 66 #[.agg #[Iz n1, I s1]] w1 fun e w' => ∃ v, e = .returned (.agg #[Iz n1, v]) ∧ NV w' n1 v z1 L ∧ Below w1.heap.size w1 w'))
  (H3 : Hid (∀ w1, Calls Tryz.prog 66 #[.agg #[Iz false, I d0]] w1 fun e w' => ∃ v, e = .returned (.agg #[Iz false, v]) ∧ NV w' false v D0 L ∧ Below w1.heap.size w1 w')) (hd : (d0.toList == d1.toList) = true) :
  Calls Tryz.prog 165 #[(Bo n0 s0 d0), (Bo n1 s1 d1)] w fun e w' => ∃ m a l c a' l' c', e = .returned (.tuple #[.agg #[Iz m, .slice a l c], .agg #[Iz false, .slice a' l' c']]) ∧ NV w' m (.slice a l c) (z0 - z1) (L + 1) ∧ NV w' false (.slice a' l' c') (D0) (L) ∧ Below w.heap.size w w' := by
 go_enter Tryz.func165, Tryz.ntmps165
 go_wp2_with fail
 obtain ⟨w1, hw, ka, kb, kr, ks, b1⟩ := mk4 w (Bx n0 s0 d0) (Bx n1 s1 d1) [Iz false, .slice none 0 0] [Iz false, .slice none 0 0] 26 26 66 66
 rw [← hw]
 clear hw
 have sz := b1.size
 have ta := ka.lt
 have tb := kb.lt
 have tr := kr.lt
 have ts := ks.lt
 have bb := b1
 clear b1
 have mk : Hid (∀ w', SB w1 w' → Gy w' w.heap.size (Iz n0) (I s0) (I d0) ∧ Gy w' (w.heap.size + 1) (Iz n1) (I s1) (I d1)) := fun w' h => ⟨Ch (ka.b h), Ch (kb.b h)⟩
 go_cut [6, 7] from 10 to 15 (fun v u wx => ∃ gc gd a1 l1 c1 a2 l2 c2, v = .pointer (some ⟨gc, 0, none⟩) ∧ u = .pointer (some ⟨gd, 0, none⟩) ∧ w1.heap.size ≤ gc ∧ w1.heap.size ≤ gd ∧ Be wx gc [Iz n0, .slice a1 l1 c1] 66 ∧ Be wx gd [Iz n1, .slice a2 l2 c2] 66 ∧ NV wx n0 (.slice a1 l1 c1) z0 L ∧ NV wx n1 (.slice a2 l2 c2) z1 L ∧ Below w1.heap.size w1 wx)
 case first =>
  clear H3
  refine Jc (S := SB w1) (by kernel_rfl) (Cd _) (fun bc => ?_)
  refine WA.start (n := 10) (by kernel_rfl) ?_
  refine WA.tl 0 rfl ?_
  refine WA.tl 1 rfl ?_
  refine WA.tl 3 rfl ?_
  refine WA.tl 4 rfl ?_
  refine WA.gen2 (i := 6) (s := 6) (i' := 7) (s' := 7) undef undef (Pt w1 [Iz false, .slice none 0 0] 66) (Pt w1 [Iz false, .slice none 0 0] 66) (fun b b' x x' hz hy hn => ?_)
  simp only [Jp]
  replace hz := P2.mk hz hy hn
  clear hy hn
  revert b b' x x'
  refine WA.two 10 27 2 6 7 rfl rfl rfl bc ?_
  clear bc
  intro b b' x x' w' hz bx bc K hK
  clear bx
  simp only [Jq]
  go_simp
  go_fit (H1.out _)
  rintro e wn ⟨v1, rfl, nv1, bn⟩
  obtain ⟨a1, l1, c1, rfl⟩ := nv1.slice
  replace bc := Ia bc bn
  try go_wp2_with fail
  refine hK.out _ _ bc (fun _ => ?_)
  replace hz := hz.b bn
  clear hK K bn
  revert b b' x x'
  refine WA.two 10 31 5 6 7 rfl rfl rfl bc ?_
  clear bc
  intro b b' x x' w' hz bx bc K hK
  replace nv1 := nv1.b bx
  clear bx
  simp only [Jq]
  go_simp
  go_fit (H2.out _)
  rintro e wn ⟨v2, rfl, nv2, bn⟩
  obtain ⟨a2, l2, c2, rfl⟩ := nv2.slice
  replace bc := Ia bc bn
  try go_wp2_with fail
  refine hK.out _ _ bc (fun _ => ?_)
  replace hz := hz.b bn
  replace nv1 := nv1.b bn
  clear hK K bn
  revert b b' x x'
  refine WA.fin2 6 7 rfl rfl bc ?_
  clear bc
  intro x x' w' hz bx bc
  replace nv1 := nv1.b bx
  replace nv2 := nv2.b bx
  obtain ⟨g0, rfl, h0, k0⟩ := hz.p rfl
  obtain ⟨g1, rfl, h1, k1⟩ := hz.p' rfl
  have n01 : ¬ g0 = g1 := fun e => hz.ne rfl rfl (by rw [e])
  clear bx hz
  have e0_0 := Bw k0
  have f0_0 := Be.o k0 0
  have e0_1 := C8 k0
  have f0_1 := Be.o k0 1
  refine WA.call 8 rfl (fun K hK => ?_)
  simp only [Jq]
  go_simp
  try go_wp2_with fail
  clear e0_0 f0_0 e0_1 f0_1
  refine hK.out _ _ (Bi (Bi bc h0 0 (Iz n0)) h0 1 (.slice a1 l1 c1)) (fun hS => ?_)
  clear hK K
  replace nv1 := nv1.set2 k0 (Iz n0) (.slice a1 l1 c1)
  replace nv2 := nv2.set2 k0 (Iz n0) (.slice a1 l1 c1)
  replace k0 := (Be.set (Be.set k0 0 (Iz n0)) 1 (.slice a1 l1 c1))
  replace k1 := (Be.w (Be.w k1 (fun e => n01 e.symm) 0 (Iz n0)) (fun e => n01 e.symm) 1 (.slice a1 l1 c1))
  replace bc := (Bi (Bi bc h0 0 (Iz n0)) h0 1 (.slice a1 l1 c1))
  have e1_0 := Bw k1
  have f1_0 := Be.o k1 0
  have e1_1 := C8 k1
  have f1_1 := Be.o k1 1
  refine WA.call 9 rfl (fun K hK => ?_)
  simp only [Jq]
  go_simp
  try go_wp2_with fail
  clear e1_0 f1_0 e1_1 f1_1
  refine hK.out _ _ (Bi (Bi bc h1 0 (Iz n1)) h1 1 (.slice a2 l2 c2)) (fun hS => ?_)
  clear hK K
  replace nv1 := nv1.set2 k1 (Iz n1) (.slice a2 l2 c2)
  replace nv2 := nv2.set2 k1 (Iz n1) (.slice a2 l2 c2)
  replace k0 := (Be.w (Be.w k0 n01 0 (Iz n1)) n01 1 (.slice a2 l2 c2))
  replace k1 := (Be.set (Be.set k1 0 (Iz n1)) 1 (.slice a2 l2 c2))
  replace bc := (Bi (Bi bc h1 0 (Iz n1)) h1 1 (.slice a2 l2 c2))
  refine WA.done (by kernel_rfl) ?_
  go_wp2_with fail
  go_meet
  exact ⟨_, _, a1, l1, c1, a2, l2, c2, rfl, rfl, h0, h1, k0, k1, nv1, nv2, bc⟩
 case rest =>
 obtain ⟨gx, gy, a1, l1, c1, a2, l2, c2, rfl, rfl, lx, ly, kx, ky, nv1, nv2, b1⟩ := hcut
 clear mk
 have sz := b1.size
 replace ka := ka.b b1
 replace kb := kb.b b1
 replace kr := kr.b b1
 replace ks := ks.b b1
 replace bb := Ia bb b1
 clear b1
 have tx := kx.lt
 have ty := ky.lt
 have ca := Dk ka
 go_wp2_with fail
 go_fit (H3.out _)
 rintro e w3 ⟨v3, rfl, nv3, b1⟩
 obtain ⟨a3, l3, c3, rfl⟩ := nv3.slice
 replace ka := ka.b b1
 replace kb := kb.b b1
 replace kr := kr.b b1
 replace ks := ks.b b1
 replace kx := kx.b b1
 replace ky := ky.b b1
 replace nv1 := nv1.b b1
 replace nv2 := nv2.b b1
 replace bb := Ia bb b1
 have sq0 := b1.size
 clear b1
 clear ca
 have ca := Dk (ka.alloc (.cells #[Iz false, .slice a3 l3 c3] 66))
 have cb := Dk (kb.alloc (.cells #[Iz false, .slice a3 l3 c3] 66))
 go_wp2_with fail
 obtain ⟨w4, hw, kz, b1⟩ := D7 w3 [Iz false, .slice a3 l3 c3] 66
 rw [← hw]
 clear hw
 replace ka := ka.b b1
 replace kb := kb.b b1
 replace kr := kr.b b1
 replace ks := ks.b b1
 replace kx := kx.b b1
 replace ky := ky.b b1
 replace nv1 := nv1.b b1
 replace nv2 := nv2.b b1
 replace nv3 := nv3.b b1
 replace bb := Ia bb b1
 have sq1 := b1.size
 have tz := kz.lt
 have sz := b1.size
 clear b1
 clear ca cb
 have tr' := kr.lt
 have mkS : Hid (∀ w', Be w' (gx) [Iz n0, .slice a1 l1 c1] 66 → Be w' (gy) [Iz n1, .slice a2 l2 c2] 66 → Be w' (w3.heap.size) [Iz false, .slice a3 l3 c3] 66 → (Fb w' gx (Iz n0) (.slice a1 l1 c1) ∧ Fb w' gy (Iz n1) (.slice a2 l2 c2) ∧ Fb w' w3.heap.size (Iz false) (.slice a3 l3 c3))) := fun w' hx hy hz => ⟨B7 hx, B7 hy, B7 hz⟩
 have qxr : gx ≠ w.heap.size + 1 + 1 := by omega
 have qyr : gy ≠ w.heap.size + 1 + 1 := by omega
 have qzr : w3.heap.size ≠ w.heap.size + 1 + 1 := by omega
 have qxs : gx ≠ w.heap.size + 1 + 1 + 1 := by omega
 have qys : gy ≠ w.heap.size + 1 + 1 + 1 := by omega
 have qzs : w3.heap.size ≠ w.heap.size + 1 + 1 + 1 := by omega
 go_region_held3 (fun w' => Fb w' gx (Iz n0) (.slice a1 l1 c1) ∧ Fb w' gy (Iz n1) (.slice a2 l2 c2) ∧ Fb w' w3.heap.size (Iz false) (.slice a3 l3 c3)) (first | with_reducible exact mkS.out _ kx ky kz | with_reducible exact mkS.out _ (Be.w (Be.w kx qxr 0 _) qxr 1 _) (Be.w (Be.w ky qyr 0 _) qyr 1 _) (Be.w (Be.w kz qzr 0 _) qzr 1 _) | with_reducible exact mkS.out _ (Be.w (Be.w (Be.w (Be.w kx qxr 0 _) qxr 1 _) qxs 0 _) qxs 1 _) (Be.w (Be.w (Be.w (Be.w ky qyr 0 _) qyr 1 _) qys 0 _) qys 1 _) (Be.w (Be.w (Be.w (Be.w kz qzr 0 _) qzr 1 _) qzs 0 _) qzs 1 _) | exact mkS.out _ kx ky kz) (first | (go_at_call 167; go_fit (Kv _ _ _ _ z0 z1 L _ (by omega) ?_ ?_); (first | exact nv1 | exact nv1.drew); (first | exact nv2 | exact nv2.drew); rintro e wn ⟨m5, v5, rfl, nv5, bn⟩; obtain ⟨a5, l5, c5, rfl⟩ := nv5.slice; replace kr := kr.b (un bn); replace ks := ks.b (un bn); replace kx := kx.b (un bn); replace ky := ky.b (un bn); replace kz := kz.b (un bn); (try replace nv1 := nv1.b (un bn)); (try replace nv2 := nv2.b (un bn)); (try replace nv3 := nv3.b (un bn)); replace bb := Ia bb (un bn); have er0 := Dy kr; have fr0 := Be.o kr 0; have er1 := H9 kr; have fr1 := Be.o kr 1; have es0 := Dy ks; have fs0 := Be.o ks 0; have es1 := H9 ks; have fs1 := Be.o ks 1) | fail)
 replace nv5 := Ba nv5
 replace nv3 := Ba nv3
 go_wp2
 exact Wm (p := 4) (q := 5) (by kernel_rfl) rfl rfl rfl ((((kr.set 0 _).set 1 _).w (by omega) _ _).w (by omega) _ _) ((((ks.w (by omega) _ _).w (by omega) _ _).set 0 _).set 1 _) ⟨_, _, _, _, _, _, _, rfl, (nv5.out.set2 kr _ _).set2 ((ks.w (by omega) _ _).w (by omega) _ _) _ _, (nv3.out.set2 kr _ _).set2 ((ks.w (by omega) _ _).w (by omega) _ _) _ _, Bi (Bi (Bi (Bi bb (by omega) 0 _) (by omega) 1 _) (by omega) 0 _) (by omega) 1 _⟩
theorem Bef (n0 n1 : Bool) (s0 d0 s1 d1 : ByteArray) (z0 z1 D0 D1 : Int) (L : Nat) (w : World) (hL : L ≤ 200)
  (H1 : Hid (∀ w1, Calls Tryz.prog 66 #[.agg #[Iz n0, I s0]] w1 fun e w' => ∃ v, e = .returned (.agg #[Iz n0, v]) ∧ NV w' n0 v z0 L ∧ Below w1.heap.size w1 w'))
  (H2 : Hid (∀ w1, Calls Tryz.prog 66 #[.agg #[Iz n1, I s1]] w1 fun e w' => ∃ v, e = .returned (.agg #[Iz n1, v]) ∧ NV w' n1 v z1 L ∧ Below w1.heap.size w1 w'))
  (H3 : Hid (∀ w1, Calls Tryz.prog 66 #[.agg #[Iz false, I d0]] w1 fun e w' => ∃ v, e = .returned (.agg #[Iz false, v]) ∧ NV w' false v D0 L ∧ Below w1.heap.size w1 w'))
  (H4 : Hid (∀ w1, Calls Tryz.prog 66 #[.agg #[Iz false, I d1]] w1 fun e w' => ∃ v, e = .returned (.agg #[Iz false, v]) ∧ NV w' false v D1 L ∧ Below w1.heap.size w1 w')) (hd : (d0.toList == d1.toList) = false) :
  Calls Tryz.prog 165 #[(Bo n0 s0 d0), (Bo n1 s1 d1)] w fun e w' => ∃ m a l c a' l' c', e = .returned (.tuple #[.agg #[Iz m, .slice a l c], .agg #[Iz false, .slice a' l' c']]) ∧ NV w' m (.slice a l c) (z0 * D1 - z1 * D0) (L + L + 1) ∧ NV w' false (.slice a' l' c') (D0 * D1) (L + L) ∧ Below w.heap.size w w' := by
 go_enter Tryz.func165, Tryz.ntmps165
 go_wp2_with fail
 obtain ⟨w1, hw, ka, kb, kr, ks, b1⟩ := mk4 w (Bx n0 s0 d0) (Bx n1 s1 d1) [Iz false, .slice none 0 0] [Iz false, .slice none 0 0] 26 26 66 66
 rw [← hw]
 clear hw
 have sz := b1.size
 have ta := ka.lt
 have tb := kb.lt
 have tr := kr.lt
 have ts := ks.lt
 have bb := b1
 clear b1
 have mk : Hid (∀ w', SB w1 w' → Gy w' w.heap.size (Iz n0) (I s0) (I d0) ∧ Gy w' (w.heap.size + 1) (Iz n1) (I s1) (I d1)) := fun w' h => ⟨Ch (ka.b h), Ch (kb.b h)⟩
 go_cut [6, 7] from 10 to 15 (fun v u wx => ∃ gc gd a1 l1 c1 a2 l2 c2, v = .pointer (some ⟨gc, 0, none⟩) ∧ u = .pointer (some ⟨gd, 0, none⟩) ∧ w1.heap.size ≤ gc ∧ w1.heap.size ≤ gd ∧ Be wx gc [Iz n0, .slice a1 l1 c1] 66 ∧ Be wx gd [Iz n1, .slice a2 l2 c2] 66 ∧ NV wx n0 (.slice a1 l1 c1) z0 L ∧ NV wx n1 (.slice a2 l2 c2) z1 L ∧ Below w1.heap.size w1 wx)
 case first =>
  clear H3 H4
  refine Jc (S := SB w1) (by kernel_rfl) (Cd _) (fun bc => ?_)
  refine WA.start (n := 10) (by kernel_rfl) ?_
  refine WA.tl 0 rfl ?_
  refine WA.tl 1 rfl ?_
  refine WA.tl 3 rfl ?_
  refine WA.tl 4 rfl ?_
  refine WA.gen2 (i := 6) (s := 6) (i' := 7) (s' := 7) undef undef (Pt w1 [Iz false, .slice none 0 0] 66) (Pt w1 [Iz false, .slice none 0 0] 66) (fun b b' x x' hz hy hn => ?_)
  simp only [Jp]
  replace hz := P2.mk hz hy hn
  clear hy hn
  revert b b' x x'
  refine WA.two 10 27 2 6 7 rfl rfl rfl bc ?_
  clear bc
  intro b b' x x' w' hz bx bc K hK
  clear bx
  simp only [Jq]
  go_simp
  go_fit (H1.out _)
  rintro e wn ⟨v1, rfl, nv1, bn⟩
  obtain ⟨a1, l1, c1, rfl⟩ := nv1.slice
  replace bc := Ia bc bn
  try go_wp2_with fail
  refine hK.out _ _ bc (fun _ => ?_)
  replace hz := hz.b bn
  clear hK K bn
  revert b b' x x'
  refine WA.two 10 31 5 6 7 rfl rfl rfl bc ?_
  clear bc
  intro b b' x x' w' hz bx bc K hK
  replace nv1 := nv1.b bx
  clear bx
  simp only [Jq]
  go_simp
  go_fit (H2.out _)
  rintro e wn ⟨v2, rfl, nv2, bn⟩
  obtain ⟨a2, l2, c2, rfl⟩ := nv2.slice
  replace bc := Ia bc bn
  try go_wp2_with fail
  refine hK.out _ _ bc (fun _ => ?_)
  replace hz := hz.b bn
  replace nv1 := nv1.b bn
  clear hK K bn
  revert b b' x x'
  refine WA.fin2 6 7 rfl rfl bc ?_
  clear bc
  intro x x' w' hz bx bc
  replace nv1 := nv1.b bx
  replace nv2 := nv2.b bx
  obtain ⟨g0, rfl, h0, k0⟩ := hz.p rfl
  obtain ⟨g1, rfl, h1, k1⟩ := hz.p' rfl
  have n01 : ¬ g0 = g1 := fun e => hz.ne rfl rfl (by rw [e])
  clear bx hz
  have e0_0 := Bw k0
  have f0_0 := Be.o k0 0
  have e0_1 := C8 k0
  have f0_1 := Be.o k0 1
  refine WA.call 8 rfl (fun K hK => ?_)
  simp only [Jq]
  go_simp
  try go_wp2_with fail
  clear e0_0 f0_0 e0_1 f0_1
  refine hK.out _ _ (Bi (Bi bc h0 0 (Iz n0)) h0 1 (.slice a1 l1 c1)) (fun hS => ?_)
  clear hK K
  replace nv1 := nv1.set2 k0 (Iz n0) (.slice a1 l1 c1)
  replace nv2 := nv2.set2 k0 (Iz n0) (.slice a1 l1 c1)
  replace k0 := (Be.set (Be.set k0 0 (Iz n0)) 1 (.slice a1 l1 c1))
  replace k1 := (Be.w (Be.w k1 (fun e => n01 e.symm) 0 (Iz n0)) (fun e => n01 e.symm) 1 (.slice a1 l1 c1))
  replace bc := (Bi (Bi bc h0 0 (Iz n0)) h0 1 (.slice a1 l1 c1))
  have e1_0 := Bw k1
  have f1_0 := Be.o k1 0
  have e1_1 := C8 k1
  have f1_1 := Be.o k1 1
  refine WA.call 9 rfl (fun K hK => ?_)
  simp only [Jq]
  go_simp
  try go_wp2_with fail
  clear e1_0 f1_0 e1_1 f1_1
  refine hK.out _ _ (Bi (Bi bc h1 0 (Iz n1)) h1 1 (.slice a2 l2 c2)) (fun hS => ?_)
  clear hK K
  replace nv1 := nv1.set2 k1 (Iz n1) (.slice a2 l2 c2)
  replace nv2 := nv2.set2 k1 (Iz n1) (.slice a2 l2 c2)
  replace k0 := (Be.w (Be.w k0 n01 0 (Iz n1)) n01 1 (.slice a2 l2 c2))
  replace k1 := (Be.set (Be.set k1 0 (Iz n1)) 1 (.slice a2 l2 c2))
  replace bc := (Bi (Bi bc h1 0 (Iz n1)) h1 1 (.slice a2 l2 c2))
  refine WA.done (by kernel_rfl) ?_
  go_wp2_with fail
  go_meet
  exact ⟨_, _, a1, l1, c1, a2, l2, c2, rfl, rfl, h0, h1, k0, k1, nv1, nv2, bc⟩
 case rest =>
 obtain ⟨gx, gy, a1, l1, c1, a2, l2, c2, rfl, rfl, lx, ly, kx, ky, nv1, nv2, b1⟩ := hcut
 clear mk
 have sz := b1.size
 replace ka := ka.b b1
 replace kb := kb.b b1
 replace kr := kr.b b1
 replace ks := ks.b b1
 replace bb := Ia bb b1
 clear b1
 have tx := kx.lt
 have ty := ky.lt
 have ca := Dk ka
 go_wp2_with fail
 go_fit (H3.out _)
 rintro e w3 ⟨v3, rfl, nv3, b1⟩
 obtain ⟨a3, l3, c3, rfl⟩ := nv3.slice
 replace ka := ka.b b1
 replace kb := kb.b b1
 replace kr := kr.b b1
 replace ks := ks.b b1
 replace kx := kx.b b1
 replace ky := ky.b b1
 replace nv1 := nv1.b b1
 replace nv2 := nv2.b b1
 replace bb := Ia bb b1
 have sq2 := b1.size
 clear b1
 clear ca
 have ca := Dk (ka.alloc (.cells #[Iz false, .slice a3 l3 c3] 66))
 have cb := Dk (kb.alloc (.cells #[Iz false, .slice a3 l3 c3] 66))
 go_wp2_with fail
 obtain ⟨w4, hw, kz, b1⟩ := D7 w3 [Iz false, .slice a3 l3 c3] 66
 rw [← hw]
 clear hw
 replace ka := ka.b b1
 replace kb := kb.b b1
 replace kr := kr.b b1
 replace ks := ks.b b1
 replace kx := kx.b b1
 replace ky := ky.b b1
 replace nv1 := nv1.b b1
 replace nv2 := nv2.b b1
 replace nv3 := nv3.b b1
 replace bb := Ia bb b1
 have sq3 := b1.size
 have tz := kz.lt
 have sz := b1.size
 clear b1
 clear ca cb
 have tr' := kr.lt
 have cb := Dk kb
 go_wp2_with fail
 go_fit (H4.out _)
 rintro e w4' ⟨v4, rfl, nv4, b1⟩
 obtain ⟨a4, l4, c4, rfl⟩ := nv4.slice
 replace ka := ka.b b1
 replace kb := kb.b b1
 replace kr := kr.b b1
 replace ks := ks.b b1
 replace kx := kx.b b1
 replace ky := ky.b b1
 replace kz := kz.b b1
 replace nv1 := nv1.b b1
 replace nv2 := nv2.b b1
 replace nv3 := nv3.b b1
 replace bb := Ia bb b1
 have sq4 := b1.size
 clear b1
 clear cb
 go_wp2_with fail
 obtain ⟨w6, hw, ku, b1⟩ := D7 w4' [Iz false, .slice a4 l4 c4] 66
 rw [← hw]
 clear hw
 replace ka := ka.b b1
 replace kb := kb.b b1
 replace kr := kr.b b1
 replace ks := ks.b b1
 replace kx := kx.b b1
 replace ky := ky.b b1
 replace kz := kz.b b1
 replace nv1 := nv1.b b1
 replace nv2 := nv2.b b1
 replace nv3 := nv3.b b1
 replace nv4 := nv4.b b1
 replace bb := Ia bb b1
 have sq5 := b1.size
 have tu := ku.lt
 have sz := b1.size
 clear b1
 have mkS : Hid (∀ w', Be w' (gx) [Iz n0, .slice a1 l1 c1] 66 → Be w' (gy) [Iz n1, .slice a2 l2 c2] 66 → Be w' (w3.heap.size) [Iz false, .slice a3 l3 c3] 66 → Be w' (w4'.heap.size) [Iz false, .slice a4 l4 c4] 66 → (Fb w' gx (Iz n0) (.slice a1 l1 c1) ∧ Fb w' gy (Iz n1) (.slice a2 l2 c2) ∧ Fb w' w3.heap.size (Iz false) (.slice a3 l3 c3) ∧ Fb w' w4'.heap.size (Iz false) (.slice a4 l4 c4))) := fun w' hx hy hz hu => ⟨B7 hx, B7 hy, B7 hz, B7 hu⟩
 have qxr : gx ≠ w.heap.size + 1 + 1 := by omega
 have qyr : gy ≠ w.heap.size + 1 + 1 := by omega
 have qzr : w3.heap.size ≠ w.heap.size + 1 + 1 := by omega
 have qur : w4'.heap.size ≠ w.heap.size + 1 + 1 := by omega
 have qxs : gx ≠ w.heap.size + 1 + 1 + 1 := by omega
 have qys : gy ≠ w.heap.size + 1 + 1 + 1 := by omega
 have qzs : w3.heap.size ≠ w.heap.size + 1 + 1 + 1 := by omega
 have qus : w4'.heap.size ≠ w.heap.size + 1 + 1 + 1 := by omega
 go_region_held3 (fun w' => Fb w' gx (Iz n0) (.slice a1 l1 c1) ∧ Fb w' gy (Iz n1) (.slice a2 l2 c2) ∧ Fb w' w3.heap.size (Iz false) (.slice a3 l3 c3) ∧ Fb w' w4'.heap.size (Iz false) (.slice a4 l4 c4)) (first | with_reducible exact mkS.out _ kx ky kz ku | with_reducible exact mkS.out _ (Be.w (Be.w kx qxr 0 _) qxr 1 _) (Be.w (Be.w ky qyr 0 _) qyr 1 _) (Be.w (Be.w kz qzr 0 _) qzr 1 _) (Be.w (Be.w ku qur 0 _) qur 1 _) | with_reducible exact mkS.out _ (Be.w (Be.w (Be.w (Be.w kx qxr 0 _) qxr 1 _) qxs 0 _) qxs 1 _) (Be.w (Be.w (Be.w (Be.w ky qyr 0 _) qyr 1 _) qys 0 _) qys 1 _) (Be.w (Be.w (Be.w (Be.w kz qzr 0 _) qzr 1 _) qzs 0 _) qzs 1 _) (Be.w (Be.w (Be.w (Be.w ku qur 0 _) qur 1 _) qus 0 _) qus 1 _) | exact mkS.out _ kx ky kz ku) (first | (go_at_call 68; go_fit (B5 _ _ _ _ z0 D1 L L _ (by omega) (by omega) ?_ ?_); (first | exact nv1 | exact nv1.drew); (first | exact nv4 | exact nv4.drew); rintro e wn ⟨m5, v5, rfl, nv5, -, bn⟩; obtain ⟨a5, l5, c5, rfl⟩ := nv5.slice; replace kr := kr.b (un bn); replace ks := ks.b (un bn); replace kx := kx.b (un bn); replace ky := ky.b (un bn); replace kz := kz.b (un bn); replace ku := ku.b (un bn); (try replace nv1 := nv1.b (un bn)); (try replace nv2 := nv2.b (un bn)); (try replace nv3 := nv3.b (un bn)); (try replace nv4 := nv4.b (un bn)); (try replace nv6 := nv6.b (un bn)); (try replace nv7 := nv7.b (un bn)); replace bb := Ia bb (un bn)) | (go_at_call 68; go_fit (B5 _ _ _ _ z1 D0 L L _ (by omega) (by omega) ?_ ?_); (first | exact nv2 | exact nv2.drew); (first | exact nv3 | exact nv3.drew); rintro e wn ⟨m6, v6, rfl, nv6, -, bn⟩; obtain ⟨a6, l6, c6, rfl⟩ := nv6.slice; replace kr := kr.b (un bn); replace ks := ks.b (un bn); replace kx := kx.b (un bn); replace ky := ky.b (un bn); replace kz := kz.b (un bn); replace ku := ku.b (un bn); (try replace nv1 := nv1.b (un bn)); (try replace nv2 := nv2.b (un bn)); (try replace nv3 := nv3.b (un bn)); (try replace nv4 := nv4.b (un bn)); (try replace nv5 := nv5.b (un bn)); (try replace nv7 := nv7.b (un bn)); replace bb := Ia bb (un bn)) | (go_at_call 167; go_fit (Kv _ _ _ _ (z0 * D1) (z1 * D0) (L + L) _ (by omega) ?_ ?_); (first | exact nv5 | exact nv5.drew); (first | exact nv6 | exact nv6.drew); rintro e wn ⟨m7, v7, rfl, nv7, bn⟩; obtain ⟨a7, l7, c7, rfl⟩ := nv7.slice; replace kr := kr.b (un bn); replace ks := ks.b (un bn); replace kx := kx.b (un bn); replace ky := ky.b (un bn); replace kz := kz.b (un bn); replace ku := ku.b (un bn); (try replace nv1 := nv1.b (un bn)); (try replace nv2 := nv2.b (un bn)); (try replace nv3 := nv3.b (un bn)); (try replace nv4 := nv4.b (un bn)); (try replace nv5 := nv5.b (un bn)); (try replace nv6 := nv6.b (un bn)); replace bb := Ia bb (un bn)) | (go_at_call 68; go_fit (B5 _ _ _ _ D0 D1 L L _ (by omega) (by omega) ?_ ?_); (first | exact nv3 | exact nv3.drew); (first | exact nv4 | exact nv4.drew); rintro e wn ⟨m8, v8, rfl, nv8, hm8, bn⟩; obtain ⟨a8, l8, c8, rfl⟩ := nv8.slice; replace kr := kr.b (un bn); replace ks := ks.b (un bn); replace kx := kx.b (un bn); replace ky := ky.b (un bn); replace kz := kz.b (un bn); replace ku := ku.b (un bn); (try replace nv1 := nv1.b (un bn)); (try replace nv2 := nv2.b (un bn)); (try replace nv3 := nv3.b (un bn)); (try replace nv4 := nv4.b (un bn)); (try replace nv5 := nv5.b (un bn)); (try replace nv6 := nv6.b (un bn)); (try replace nv7 := nv7.b (un bn)); replace bb := Ia bb (un bn); have er0 := Dy kr; have fr0 := Be.o kr 0; have er1 := H9 kr; have fr1 := Be.o kr 1; have es0 := Dy ks; have fs0 := Be.o ks 0; have es1 := H9 ks; have fs1 := Be.o ks 1))
 obtain rfl := hm8 trivial trivial
 clear hm8
 replace nv7 := Ba nv7
 replace nv8 := Ba nv8
 go_wp2
 exact Wm (p := 4) (q := 5) (by kernel_rfl) rfl rfl rfl ((((kr.set 0 _).set 1 _).w (by omega) _ _).w (by omega) _ _) ((((ks.w (by omega) _ _).w (by omega) _ _).set 0 _).set 1 _) ⟨_, _, _, _, _, _, _, rfl, (nv7.out.set2 kr _ _).set2 ((ks.w (by omega) _ _).w (by omega) _ _) _ _, (nv8.out.set2 kr _ _).set2 ((ks.w (by omega) _ _).w (by omega) _ _) _ _, Bi (Bi (Bi (Bi bb (by omega) 0 _) (by omega) 1 _) (by omega) 0 _) (by omega) 1 _⟩
end Go.Proofs.YtnplifkgeeicjaaGreatDoor
