/-
  Package poly: a polynomial made whole, at a place, walked.
  Package span: CheckNumbers, walked.
  Package geom, walked.
  Points compared.
  gussetref05: Orient, Disc, Circle, walked.
  Package poly: (cleared).at over a row of six; small.
  Package span: a number divided by others.
  Package poly: what weighed is told in.
  Package poly: weighed.
  Package span: a number over two others.
-/
import Derived.Test.YtbafjmjcepcckaaGreatDoorN36
set_option maxRecDepth 100000
set_option maxHeartbeats 16000000
namespace Go.Proofs.YtbafjmjcepcckaaGreatDoor
open Go.RowKit
theorem Cel.oth2 {w : World} {g g' : Nat} {cs : List Value} {t : TypeId} (h : Cel w g cs t) (hne : g ≠ g') (x0 x1 : Value) : Cel ((w.setCell ⟨g', 0, none⟩ x0).setCell ⟨g', 1, none⟩ x1) g cs t := (h.other hne 0 x0).other hne 1 x1
abbrev xc12 (w : World) (g : Nat) (x0 x1 x2 x3 x4 x5 x6 x7 x8 x9 x10 x11 : Value) : Prop := w.cell? ⟨g, 0, none⟩ = some x0 ∧ w.cell? ⟨g, 1, none⟩ = some x1 ∧ w.cell? ⟨g, 2, none⟩ = some x2 ∧ w.cell? ⟨g, 3, none⟩ = some x3 ∧ w.cell? ⟨g, 4, none⟩ = some x4 ∧ w.cell? ⟨g, 5, none⟩ = some x5 ∧ w.cell? ⟨g, 6, none⟩ = some x6 ∧ w.cell? ⟨g, 7, none⟩ = some x7 ∧ w.cell? ⟨g, 8, none⟩ = some x8 ∧ w.cell? ⟨g, 9, none⟩ = some x9 ∧ w.cell? ⟨g, 10, none⟩ = some x10 ∧ w.cell? ⟨g, 11, none⟩ = some x11
theorem xk12 {w : World} {g : Nat} {t : TypeId} {x0 x1 x2 x3 x4 x5 x6 x7 x8 x9 x10 x11 : Value} (h : Cel w g [x0, x1, x2, x3, x4, x5, x6, x7, x8, x9, x10, x11] t) : xc12 w g x0 x1 x2 x3 x4 x5 x6 x7 x8 x9 x10 x11 := ⟨h.cell 0, h.cell 1, h.cell 2, h.cell 3, h.cell 4, h.cell 5, h.cell 6, h.cell 7, h.cell 8, h.cell 9, h.cell 10, h.cell 11⟩
theorem mk5n (w : World) (c0 c1 c2 c3 c4 : List Value) (t0 t1 t2 t3 t4 : TypeId) : ∃ w', w' = ((((w.alloc (.cells c0.toArray t0)).alloc (.cells c1.toArray t1)).alloc (.cells c2.toArray t2)).alloc (.cells c3.toArray t3)).alloc (.cells c4.toArray t4) ∧ Cel w' w.heap.size c0 t0 ∧ Cel w' (w.heap.size + 1) c1 t1 ∧ Cel w' (w.heap.size + 1 + 1) c2 t2 ∧ Cel w' (w.heap.size + 1 + 1 + 1) c3 t3 ∧ Cel w' (w.heap.size + 1 + 1 + 1 + 1) c4 t4 ∧ Below w.heap.size w w' := by
 obtain ⟨v, hv, k0, k1, k2, k3, b⟩ := mk4 w c0 c1 c2 c3 t0 t1 t2 t3
 obtain ⟨u, hu, k4, b'⟩ := mk1 v c4 t4
 have hs : v.heap.size = w.heap.size + 1 + 1 + 1 + 1 := by rw [hv]; simp
 refine ⟨u, by rw [hu, hv], k0.below b', k1.below b', k2.below b', k3.below b', by rw [← hs]; exact k4, Below.after b b'⟩
theorem at_walk (r0 r1 r2 r3 r4 r5 : Bool) (ra0 ra1 ra2 ra3 ra4 ra5 : Option Addr) (rl0 rc0 rl1 rc1 rl2 rc2 rl3 rc3 rl4 rc4 rl5 rc5 : Nat) (uv xn yn tn : Bool) (ua xa ya ta : Option Addr) (ul uc xl xc yl yc tl tc : Nat) (Z0 Z1 Z2 Z3 Z4 Z5 X Y T : Int) (La Lx G : Nat) (w : World) (hL : La + Lx + Lx + 10 ≤ 1000)
  (kG : Cel w G [.bool r0, .slice ra0 rl0 rc0, .bool r1, .slice ra1 rl1 rc1, .bool r2, .slice ra2 rl2 rc2, .bool r3, .slice ra3 rl3 rc3, .bool r4, .slice ra4 rl4 rc4, .bool r5, .slice ra5 rl5 rc5] 68)
  (n0 : NV w r0 (.slice ra0 rl0 rc0) Z0 La)
  (n1 : NV w r1 (.slice ra1 rl1 rc1) Z1 La)
  (n2 : NV w r2 (.slice ra2 rl2 rc2) Z2 La)
  (n3 : NV w r3 (.slice ra3 rl3 rc3) Z3 La)
  (n4 : NV w r4 (.slice ra4 rl4 rc4) Z4 La)
  (n5 : NV w r5 (.slice ra5 rl5 rc5) Z5 La)
  (nx : NV w xn (.slice xa xl xc) X Lx)
  (ny : NV w yn (.slice ya yl yc) Y Lx)
  (nt : NV w tn (.slice ta tl tc) T Lx) :
  Calls Tryz.prog 35 #[.agg #[.slice (some ⟨G, 0, none⟩) 6 6, .bool uv, .slice ua ul uc], .agg #[.bool xn, .slice xa xl xc], .agg #[.bool yn, .slice ya yl yc], .agg #[.bool tn, .slice ta tl tc]] w fun e w' => ∃ m a l c, e = .returned (.agg #[.bool m, .slice a l c]) ∧ NV w' m (.slice a l c) ((Z0 * T + Z1 * X + Z2 * Y) * T + (Z3 * X + Z4 * Y) * X + Z5 * Y * Y) (La + Lx + Lx + 4) ∧ Below w.heap.size w w' := by
 go_enter Tryz.func35, Tryz.ntmps35
 go_wp2_with fail
 obtain ⟨w1, hw, k4, kx, ky, kt, kr, bb⟩ := mk5n w [.slice (some ⟨G, 0, none⟩) 6 6, .bool uv, .slice ua ul uc] [.bool xn, .slice xa xl xc] [.bool yn, .slice ya yl yc] [.bool tn, .slice ta tl tc] [.bool false, .slice none 0 0] 70 68 68 68 68
 rw [← hw]
 clear hw k4
 have tG := kG.lt
 replace kG := kG.below bb
 replace n0 := n0.below bb
 replace n1 := n1.below bb
 replace n2 := n2.below bb
 replace n3 := n3.below bb
 replace n4 := n4.below bb
 replace n5 := n5.below bb
 replace nx := nx.below bb
 replace ny := ny.below bb
 replace nt := nt.below bb
 have tr := kr.lt
 have mk : Hid (∀ w', SB w1 w' → xc12 w' G (.bool r0) (.slice ra0 rl0 rc0) (.bool r1) (.slice ra1 rl1 rc1) (.bool r2) (.slice ra2 rl2 rc2) (.bool r3) (.slice ra3 rl3 rc3) (.bool r4) (.slice ra4 rl4 rc4) (.bool r5) (.slice ra5 rl5 rc5) ∧ xc2 w' (w.heap.size + 1) (.bool xn) (.slice xa xl xc) ∧ xc2 w' (w.heap.size + 1 + 1) (.bool yn) (.slice ya yl yc)) := fun w' h => ⟨xk12 (kG.below h), xk2 (kx.below h), xk2 (ky.below h)⟩
 go_cut [10] from 15 to 27 (fun v wx => ∃ gc m24 a24 l24 c24, v = .pointer (some ⟨gc, 0, none⟩) ∧ w1.heap.size ≤ gc ∧ Cel wx gc [.bool m24, .slice a24 l24 c24] 68 ∧ NV wx m24 (.slice a24 l24 c24) ((((Z3) * (X)) + ((Z4) * (Y))) * (X)) (((La + Lx) + 1) + Lx) ∧ Below w1.heap.size w1 wx)
 case first =>
  refine wp_region_held_drew (S := SB w1) (by kernel_rfl) (bdrew _) (fun bc => ?_)
  refine WA.start (n := 15) (by kernel_rfl) ?_
  refine WA.tk 0 rfl ?_
  refine WA.tk 1 rfl ?_
  refine WA.tl 2 rfl ?_
  refine WA.tl 3 rfl ?_
  refine WA.tk 5 rfl ?_
  refine WA.tk 6 rfl ?_
  refine WA.tl 7 rfl ?_
  refine WA.tl 8 rfl ?_
  refine WA.tl 11 rfl ?_
  refine WA.gen (i := 13) (s := 10) undef (Pt w1 [.bool false, .slice none 0 0] 68) (fun b x hz => ?_)
  simp only [Act.put, List.setIfInBounds_toArray, List.set_cons_zero, List.set_cons_succ]
  revert b x
  refine WA.one 15 2543 4 13 rfl rfl bc ?_
  clear bc
  intro b x w' hz bx bc K hK
  clear bx
  simp only [List.getElem_toArray, List.getElem_cons_succ, List.getElem_cons_zero]
  go_simp
  go_fit (ntimes_any _ _ _ _ (Z3) (X) La Lx _ (by omega) (by omega) (n3.below bc) (nx.below bc))
  rintro e wn ⟨m21, v21, rfl, nv21, -, bn⟩
  obtain ⟨a21, l21, c21, rfl⟩ := nv21.slice
  replace bc := Below.after bc bn
  try go_wp2_with fail
  refine hK.out _ _ bc (fun _ => ?_)
  replace hz := fun h => (hz h).below bn
  clear hK K bn
  revert b x
  refine WA.one 15 2559 9 13 rfl rfl bc ?_
  clear bc
  intro b x w' hz bx bc K hK
  replace nv21 := nv21.below bx
  clear bx
  simp only [List.getElem_toArray, List.getElem_cons_succ, List.getElem_cons_zero]
  go_simp
  go_fit (ntimes_any _ _ _ _ (Z4) (Y) La Lx _ (by omega) (by omega) (n4.below bc) (ny.below bc))
  rintro e wn ⟨m22, v22, rfl, nv22, -, bn⟩
  obtain ⟨a22, l22, c22, rfl⟩ := nv22.slice
  replace bc := Below.after bc bn
  try go_wp2_with fail
  refine hK.out _ _ bc (fun _ => ?_)
  replace hz := fun h => (hz h).below bn
  replace nv21 := nv21.below bn
  clear hK K bn
  revert b x
  refine WA.one 15 3071 10 13 rfl rfl bc ?_
  clear bc
  intro b x w' hz bx bc K hK
  replace nv21 := nv21.below bx
  replace nv22 := nv22.below bx
  clear bx
  simp only [List.getElem_toArray, List.getElem_cons_succ, List.getElem_cons_zero]
  go_simp
  go_fit (nplus_any _ _ _ _ ((Z3) * (X)) ((Z4) * (Y)) (La + Lx) _ (by omega) nv21 nv22)
  rintro e wn ⟨m23, v23, rfl, nv23, bn⟩
  obtain ⟨a23, l23, c23, rfl⟩ := nv23.slice
  replace bc := Below.after bc bn
  try go_wp2_with fail
  refine hK.out _ _ bc (fun _ => ?_)
  replace hz := fun h => (hz h).below bn
  clear hK K bn nv21 nv22
  revert b x
  refine WA.one 15 4095 12 13 rfl rfl bc ?_
  clear bc
  intro b x w' hz bx bc K hK
  replace nv23 := nv23.below bx
  clear bx
  simp only [List.getElem_toArray, List.getElem_cons_succ, List.getElem_cons_zero]
  go_simp
  go_fit (ntimes_any _ _ _ _ (((Z3) * (X)) + ((Z4) * (Y))) (X) ((La + Lx) + 1) Lx _ (by omega) (by omega) nv23 (nx.below bc))
  rintro e wn ⟨m24, v24, rfl, nv24, -, bn⟩
  obtain ⟨a24, l24, c24, rfl⟩ := nv24.slice
  replace bc := Below.after bc bn
  try go_wp2_with fail
  refine hK.out _ _ bc (fun _ => ?_)
  replace hz := fun h => (hz h).below bn
  clear hK K bn nv23
  revert b x
  refine WA.fin 13 rfl bc ?_
  clear bc
  intro x w' hz bx bc
  replace nv24 := nv24.below bx
  obtain ⟨g0, rfl, h0, k0⟩ := hz
  clear bx
  obtain ⟨e0, e1⟩ := xk2 k0
  have f0 := Cel.frozen k0 0
  have f1 := Cel.frozen k0 1
  refine WA.call 14 rfl (fun K hK => ?_)
  simp only [List.getElem_toArray, List.getElem_cons_succ, List.getElem_cons_zero]
  go_simp
  try go_wp2_with fail
  clear e0 f0 e1 f1
  replace bc := (bset (bset bc h0 0 (.bool m24)) h0 1 (.slice a24 l24 c24))
  refine hK.out _ _ bc (fun _ => ?_)
  clear hK K
  replace nv24 := nv24.set2 k0 (.bool m24) (.slice a24 l24 c24)
  replace k0 := (Cel.set (Cel.set k0 0 (.bool m24)) 1 (.slice a24 l24 c24))
  refine WA.done (by kernel_rfl) ?_
  go_wp2_with fail
  go_meet
  exact ⟨_, m24, a24, l24, c24, rfl, h0, k0, nv24, bc⟩
 case rest =>
 obtain ⟨gp, m24, a24, l24, c24, rfl, lp, kp, nv24, b1⟩ := hcut
 clear mk; have sz := b1.size
 replace kx := kx.below b1
 replace ky := ky.below b1
 replace kt := kt.below b1
 replace kG := kG.below b1
 replace kr := kr.below b1
 replace bb := Below.after bb b1
 replace n0 := n0.below b1
 replace n1 := n1.below b1
 replace n2 := n2.below b1
 replace n3 := n3.below b1
 replace n4 := n4.below b1
 replace n5 := n5.below b1
 replace nx := nx.below b1
 replace ny := ny.below b1
 replace nt := nt.below b1
 clear b1
 have tp := kp.lt
 go_wp2_with fail
 have mk : Hid (∀ w', SB wc w' → xc12 w' G (.bool r0) (.slice ra0 rl0 rc0) (.bool r1) (.slice ra1 rl1 rc1) (.bool r2) (.slice ra2 rl2 rc2) (.bool r3) (.slice ra3 rl3 rc3) (.bool r4) (.slice ra4 rl4 rc4) (.bool r5) (.slice ra5 rl5 rc5) ∧ xc2 w' (w.heap.size + 1 + 1) (.bool yn) (.slice ya yl yc)) := fun w' h => ⟨xk12 (kG.below h), xk2 (ky.below h)⟩
 go_cut [11] from 28 to 34 (fun v wx => ∃ gc m26 a26 l26 c26, v = .pointer (some ⟨gc, 0, none⟩) ∧ wc.heap.size ≤ gc ∧ Cel wx gc [.bool m26, .slice a26 l26 c26] 68 ∧ NV wx m26 (.slice a26 l26 c26) (((Z5) * (Y)) * (Y)) ((La + Lx) + Lx) ∧ Below wc.heap.size wc wx)
 case first =>
  refine wp_region_held_drew (S := SB wc) (by kernel_rfl) (bdrew _) (fun bc => ?_)
  refine WA.start (n := 9) (by kernel_rfl) ?_
  refine WA.tk 0 rfl ?_
  refine WA.tk 1 rfl ?_
  refine WA.tl 2 rfl ?_
  refine WA.tl 3 rfl ?_
  refine WA.tl 5 rfl ?_
  refine WA.gen (i := 7) (s := 11) undef (Pt wc [.bool false, .slice none 0 0] 68) (fun b x hz => ?_)
  simp only [Act.put, List.setIfInBounds_toArray, List.set_cons_zero, List.set_cons_succ]
  revert b x
  refine WA.one 9 47 4 7 rfl rfl bc ?_
  clear bc
  intro b x w' hz bx bc K hK
  clear bx
  simp only [List.getElem_toArray, List.getElem_cons_succ, List.getElem_cons_zero]
  go_simp
  go_fit (ntimes_any _ _ _ _ (Z5) (Y) La Lx _ (by omega) (by omega) (n5.below bc) (ny.below bc))
  rintro e wn ⟨m25, v25, rfl, nv25, -, bn⟩
  obtain ⟨a25, l25, c25, rfl⟩ := nv25.slice
  replace bc := Below.after bc bn
  try go_wp2_with fail
  refine hK.out _ _ bc (fun _ => ?_)
  replace hz := fun h => (hz h).below bn
  clear hK K bn
  revert b x
  refine WA.one 9 63 6 7 rfl rfl bc ?_
  clear bc
  intro b x w' hz bx bc K hK
  replace nv25 := nv25.below bx
  clear bx
  simp only [List.getElem_toArray, List.getElem_cons_succ, List.getElem_cons_zero]
  go_simp
  go_fit (ntimes_any _ _ _ _ ((Z5) * (Y)) (Y) (La + Lx) Lx _ (by omega) (by omega) nv25 (ny.below bc))
  rintro e wn ⟨m26, v26, rfl, nv26, -, bn⟩
  obtain ⟨a26, l26, c26, rfl⟩ := nv26.slice
  replace bc := Below.after bc bn
  try go_wp2_with fail
  refine hK.out _ _ bc (fun _ => ?_)
  replace hz := fun h => (hz h).below bn
  clear hK K bn nv25
  revert b x
  refine WA.fin 7 rfl bc ?_
  clear bc
  intro x w' hz bx bc
  replace nv26 := nv26.below bx
  obtain ⟨g0, rfl, h0, k0⟩ := hz
  clear bx
  obtain ⟨e0, e1⟩ := xk2 k0
  have f0 := Cel.frozen k0 0
  have f1 := Cel.frozen k0 1
  refine WA.call 8 rfl (fun K hK => ?_)
  simp only [List.getElem_toArray, List.getElem_cons_succ, List.getElem_cons_zero]
  go_simp
  try go_wp2_with fail
  clear e0 f0 e1 f1
  replace bc := (bset (bset bc h0 0 (.bool m26)) h0 1 (.slice a26 l26 c26))
  refine hK.out _ _ bc (fun _ => ?_)
  clear hK K
  replace nv26 := nv26.set2 k0 (.bool m26) (.slice a26 l26 c26)
  replace k0 := (Cel.set (Cel.set k0 0 (.bool m26)) 1 (.slice a26 l26 c26))
  refine WA.done (by kernel_rfl) ?_
  go_wp2_with fail
  go_meet
  exact ⟨_, m26, a26, l26, c26, rfl, h0, k0, nv26, bc⟩
 case rest =>
 obtain ⟨gq, m26, a26, l26, c26, rfl, lq, kq, nv26, b1⟩ := hcut
 clear mk; have sz := b1.size
 replace kx := kx.below b1
 replace ky := ky.below b1
 replace kt := kt.below b1
 replace kG := kG.below b1
 replace kr := kr.below b1
 replace kp := kp.below b1
 replace bb := Below.after bb b1
 replace n0 := n0.below b1
 replace n1 := n1.below b1
 replace n2 := n2.below b1
 replace n3 := n3.below b1
 replace n4 := n4.below b1
 replace n5 := n5.below b1
 replace nx := nx.below b1
 replace ny := ny.below b1
 replace nt := nt.below b1
 replace nv24 := nv24.below b1
 clear b1
 have tq := kq.lt
 go_wp2_with fail
 have mk : Hid (∀ w', SB wc w' → xc12 w' G (.bool r0) (.slice ra0 rl0 rc0) (.bool r1) (.slice ra1 rl1 rc1) (.bool r2) (.slice ra2 rl2 rc2) (.bool r3) (.slice ra3 rl3 rc3) (.bool r4) (.slice ra4 rl4 rc4) (.bool r5) (.slice ra5 rl5 rc5) ∧ xc2 w' (w.heap.size + 1) (.bool xn) (.slice xa xl xc) ∧ xc2 w' (w.heap.size + 1 + 1) (.bool yn) (.slice ya yl yc) ∧ xc2 w' (w.heap.size + 1 + 1 + 1) (.bool tn) (.slice ta tl tc)) := fun w' h => ⟨xk12 (kG.below h), xk2 (kx.below h), xk2 (ky.below h), xk2 (kt.below h)⟩
 go_cut [12] from 35 to 51 (fun v wx => ∃ gc m31 a31 l31 c31, v = .pointer (some ⟨gc, 0, none⟩) ∧ wc.heap.size ≤ gc ∧ Cel wx gc [.bool m31, .slice a31 l31 c31] 68 ∧ NV wx m31 (.slice a31 l31 c31) ((((Z0) * (T)) + ((Z1) * (X))) + ((Z2) * (Y))) (((La + Lx) + 1) + 1) ∧ Below wc.heap.size wc wx)
 case first =>
  refine wp_region_held_drew (S := SB wc) (by kernel_rfl) (bdrew _) (fun bc => ?_)
  refine WA.start (n := 19) (by kernel_rfl) ?_
  refine WA.tk 0 rfl ?_
  refine WA.tk 1 rfl ?_
  refine WA.tl 2 rfl ?_
  refine WA.tl 3 rfl ?_
  refine WA.tk 5 rfl ?_
  refine WA.tk 6 rfl ?_
  refine WA.tl 7 rfl ?_
  refine WA.tl 8 rfl ?_
  refine WA.tk 11 rfl ?_
  refine WA.tk 12 rfl ?_
  refine WA.tl 13 rfl ?_
  refine WA.tl 14 rfl ?_
  refine WA.gen (i := 17) (s := 12) undef (Pt wc [.bool false, .slice none 0 0] 68) (fun b x hz => ?_)
  simp only [Act.put, List.setIfInBounds_toArray, List.set_cons_zero, List.set_cons_succ]
  revert b x
  refine WA.one 19 31215 4 17 rfl rfl bc ?_
  clear bc
  intro b x w' hz bx bc K hK
  clear bx
  simp only [List.getElem_toArray, List.getElem_cons_succ, List.getElem_cons_zero]
  go_simp
  go_fit (ntimes_any _ _ _ _ (Z0) (T) La Lx _ (by omega) (by omega) (n0.below bc) (nt.below bc))
  rintro e wn ⟨m27, v27, rfl, nv27, -, bn⟩
  obtain ⟨a27, l27, c27, rfl⟩ := nv27.slice
  replace bc := Below.after bc bn
  try go_wp2_with fail
  refine hK.out _ _ bc (fun _ => ?_)
  replace hz := fun h => (hz h).below bn
  clear hK K bn
  revert b x
  refine WA.one 19 31231 9 17 rfl rfl bc ?_
  clear bc
  intro b x w' hz bx bc K hK
  replace nv27 := nv27.below bx
  clear bx
  simp only [List.getElem_toArray, List.getElem_cons_succ, List.getElem_cons_zero]
  go_simp
  go_fit (ntimes_any _ _ _ _ (Z1) (X) La Lx _ (by omega) (by omega) (n1.below bc) (nx.below bc))
  rintro e wn ⟨m28, v28, rfl, nv28, -, bn⟩
  obtain ⟨a28, l28, c28, rfl⟩ := nv28.slice
  replace bc := Below.after bc bn
  try go_wp2_with fail
  refine hK.out _ _ bc (fun _ => ?_)
  replace hz := fun h => (hz h).below bn
  replace nv27 := nv27.below bn
  clear hK K bn
  revert b x
  refine WA.one 19 31743 10 17 rfl rfl bc ?_
  clear bc
  intro b x w' hz bx bc K hK
  replace nv27 := nv27.below bx
  replace nv28 := nv28.below bx
  clear bx
  simp only [List.getElem_toArray, List.getElem_cons_succ, List.getElem_cons_zero]
  go_simp
  go_fit (nplus_any _ _ _ _ ((Z0) * (T)) ((Z1) * (X)) (La + Lx) _ (by omega) nv27 nv28)
  rintro e wn ⟨m29, v29, rfl, nv29, bn⟩
  obtain ⟨a29, l29, c29, rfl⟩ := nv29.slice
  replace bc := Below.after bc bn
  try go_wp2_with fail
  refine hK.out _ _ bc (fun _ => ?_)
  replace hz := fun h => (hz h).below bn
  clear hK K bn nv27 nv28
  revert b x
  refine WA.one 19 32767 15 17 rfl rfl bc ?_
  clear bc
  intro b x w' hz bx bc K hK
  replace nv29 := nv29.below bx
  clear bx
  simp only [List.getElem_toArray, List.getElem_cons_succ, List.getElem_cons_zero]
  go_simp
  go_fit (ntimes_any _ _ _ _ (Z2) (Y) La Lx _ (by omega) (by omega) (n2.below bc) (ny.below bc))
  rintro e wn ⟨m30, v30, rfl, nv30, -, bn⟩
  obtain ⟨a30, l30, c30, rfl⟩ := nv30.slice
  replace bc := Below.after bc bn
  try go_wp2_with fail
  refine hK.out _ _ bc (fun _ => ?_)
  replace hz := fun h => (hz h).below bn
  replace nv29 := nv29.below bn
  clear hK K bn
  revert b x
  refine WA.one 19 65535 16 17 rfl rfl bc ?_
  clear bc
  intro b x w' hz bx bc K hK
  replace nv29 := nv29.below bx
  replace nv30 := nv30.below bx
  clear bx
  simp only [List.getElem_toArray, List.getElem_cons_succ, List.getElem_cons_zero]
  go_simp
  go_fit (nplus_any _ _ _ _ (((Z0) * (T)) + ((Z1) * (X))) ((Z2) * (Y)) ((La + Lx) + 1) _ (by omega) nv29 (nv30.mono (by omega)))
  rintro e wn ⟨m31, v31, rfl, nv31, bn⟩
  obtain ⟨a31, l31, c31, rfl⟩ := nv31.slice
  replace bc := Below.after bc bn
  try go_wp2_with fail
  refine hK.out _ _ bc (fun _ => ?_)
  replace hz := fun h => (hz h).below bn
  clear hK K bn nv29 nv30
  revert b x
  refine WA.fin 17 rfl bc ?_
  clear bc
  intro x w' hz bx bc
  replace nv31 := nv31.below bx
  obtain ⟨g0, rfl, h0, k0⟩ := hz
  clear bx
  obtain ⟨e0, e1⟩ := xk2 k0
  have f0 := Cel.frozen k0 0
  have f1 := Cel.frozen k0 1
  refine WA.call 18 rfl (fun K hK => ?_)
  simp only [List.getElem_toArray, List.getElem_cons_succ, List.getElem_cons_zero]
  go_simp
  try go_wp2_with fail
  clear e0 f0 e1 f1
  replace bc := (bset (bset bc h0 0 (.bool m31)) h0 1 (.slice a31 l31 c31))
  refine hK.out _ _ bc (fun _ => ?_)
  clear hK K
  replace nv31 := nv31.set2 k0 (.bool m31) (.slice a31 l31 c31)
  replace k0 := (Cel.set (Cel.set k0 0 (.bool m31)) 1 (.slice a31 l31 c31))
  refine WA.done (by kernel_rfl) ?_
  go_wp2_with fail
  go_meet
  exact ⟨_, m31, a31, l31, c31, rfl, h0, k0, nv31, bc⟩
 case rest =>
 obtain ⟨gs, m31, a31, l31, c31, rfl, ls, ks, nv31, b1⟩ := hcut
 clear mk; have sz := b1.size
 replace kx := kx.below b1
 replace ky := ky.below b1
 replace kt := kt.below b1
 replace kG := kG.below b1
 replace kr := kr.below b1
 replace kp := kp.below b1
 replace kq := kq.below b1
 replace bb := Below.after bb b1
 replace nt := nt.below b1
 replace nv24 := nv24.below b1
 replace nv26 := nv26.below b1
 clear b1
 have ts := ks.lt
 clear n0 n1 n2 n3 n4 n5 nx ny kG kx ky
 go_wp2_with fail
 have qs : gs ≠ w.heap.size + 1 + 1 + 1 + 1 := by omega
 have qp : gp ≠ w.heap.size + 1 + 1 + 1 + 1 := by omega
 have qq : gq ≠ w.heap.size + 1 + 1 + 1 + 1 := by omega
 have qt : w.heap.size + 1 + 1 + 1 ≠ w.heap.size + 1 + 1 + 1 + 1 := by omega
 have bd := bdrew wc
 replace kt := kt.below bd
 replace kr := kr.below bd
 replace kp := kp.below bd
 replace kq := kq.below bd
 replace ks := ks.below bd
 replace nt := nt.below bd
 replace nv24 := nv24.below bd
 replace nv26 := nv26.below bd
 replace nv31 := nv31.below bd
 replace bb := Below.after bb bd
 clear bd
 refine wp_region_held_drew (S := fun w' => xc2 w' gs (.bool m31) (.slice a31 l31 c31) ∧ xc2 w' (w.heap.size + 1 + 1 + 1) (.bool tn) (.slice ta tl tc) ∧ xc2 w' gp (.bool m24) (.slice a24 l24 c24) ∧ xc2 w' gq (.bool m26) (.slice a26 l26 c26)) (by kernel_rfl) ⟨xk2 ks, xk2 kt, xk2 kp, xk2 kq⟩ (fun hS => ?_)
 refine WA.start (n := 8) (by kernel_rfl) ?_
 refine WA.tp 0 rfl ?_
 refine WA.tp 1 rfl ?_
 refine WA.tp 3 rfl ?_
 refine WA.tp 5 rfl ?_
 refine WA.cal 2 rfl (fun K hK => ?_)
 simp only [List.getElem_toArray, List.getElem_cons_succ, List.getElem_cons_zero]
 go_simp
 go_fit (ntimes_any _ _ _ _ ((((Z0) * (T)) + ((Z1) * (X))) + ((Z2) * (Y))) (T) ((La + Lx) + 1 + 1) Lx _ (by omega) (by omega) nv31 nt)
 rintro e wn ⟨m32, v32, rfl, nv32, -, bn⟩
 obtain ⟨a32, l32, c32, rfl⟩ := nv32.slice
 replace kt := kt.below bn
 replace kr := kr.below bn
 replace kp := kp.below bn
 replace kq := kq.below bn
 replace ks := ks.below bn
 replace nt := nt.below bn
 replace nv24 := nv24.below bn
 replace nv26 := nv26.below bn
 replace nv31 := nv31.below bn
 replace bb := Below.after bb bn
 try go_wp2_with fail
 clear hS
 refine hK.out _ _ ⟨xk2 ks, xk2 kt, xk2 kp, xk2 kq⟩ (fun hS => ?_)
 clear hK K bn
 refine WA.cal 4 rfl (fun K hK => ?_)
 simp only [List.getElem_toArray, List.getElem_cons_succ, List.getElem_cons_zero]
 go_simp
 go_fit (nplus_any _ _ _ _ (((((Z0) * (T)) + ((Z1) * (X))) + ((Z2) * (Y))) * (T)) ((((Z3) * (X)) + ((Z4) * (Y))) * (X)) ((La + Lx) + 1 + 1 + Lx) _ (by omega) nv32 (nv24.mono (by omega)))
 rintro e wn ⟨m33, v33, rfl, nv33, bn⟩
 obtain ⟨a33, l33, c33, rfl⟩ := nv33.slice
 replace kt := kt.below bn
 replace kr := kr.below bn
 replace kp := kp.below bn
 replace kq := kq.below bn
 replace ks := ks.below bn
 replace nt := nt.below bn
 replace nv24 := nv24.below bn
 replace nv26 := nv26.below bn
 replace nv31 := nv31.below bn
 replace nv32 := nv32.below bn
 replace bb := Below.after bb bn
 try go_wp2_with fail
 clear hS
 refine hK.out _ _ ⟨xk2 ks, xk2 kt, xk2 kp, xk2 kq⟩ (fun hS => ?_)
 clear hK K bn
 refine WA.cal 6 rfl (fun K hK => ?_)
 simp only [List.getElem_toArray, List.getElem_cons_succ, List.getElem_cons_zero]
 go_simp
 go_fit (nplus_any _ _ _ _ ((((((Z0) * (T)) + ((Z1) * (X))) + ((Z2) * (Y))) * (T)) + ((((Z3) * (X)) + ((Z4) * (Y))) * (X))) (((Z5) * (Y)) * (Y)) (((La + Lx) + 1 + 1 + Lx) + 1) _ (by omega) nv33 (nv26.mono (by omega)))
 rintro e wn ⟨m34, v34, rfl, nv34, bn⟩
 obtain ⟨a34, l34, c34, rfl⟩ := nv34.slice
 replace kt := kt.below bn
 replace kr := kr.below bn
 replace kp := kp.below bn
 replace kq := kq.below bn
 replace ks := ks.below bn
 replace nt := nt.below bn
 replace nv24 := nv24.below bn
 replace nv26 := nv26.below bn
 replace nv31 := nv31.below bn
 replace nv32 := nv32.below bn
 replace nv33 := nv33.below bn
 replace bb := Below.after bb bn
 try go_wp2_with fail
 clear hS
 refine hK.out _ _ ⟨xk2 ks, xk2 kt, xk2 kp, xk2 kq⟩ (fun hS => ?_)
 clear hK K bn
 obtain ⟨e0, e1⟩ := xk2 kr
 have f0 := Cel.frozen kr 0
 have f1 := Cel.frozen kr 1
 refine WA.cal 7 rfl (fun K hK => ?_)
 simp only [List.getElem_toArray, List.getElem_cons_succ, List.getElem_cons_zero]
 go_simp
 try go_wp2_with fail
 clear e0 f0 e1 f1
 clear hS
 refine hK.out _ _ ⟨xk2 (ks.oth2 qs _ _), xk2 (kt.oth2 qt _ _), xk2 (kp.oth2 qp _ _), xk2 (kq.oth2 qq _ _)⟩ (fun hS => ?_)
 clear hK K
 refine WA.done (by kernel_rfl) ?_
 clear hS
 go_wp2_with fail
 exact post_n (p := 8) (by kernel_rfl) rfl rfl ((kr.set 0 _).set 1 _) ⟨_, _, _, _, rfl, (nv34.set2 kr _ _).mono (by omega), bset (bset bb (by omega) 0 _) (by omega) 1 _⟩
theorem toolong2_no (B : Nat) (s0 s1 : ByteArray) (w : World) (h : Cel w B [.string s0, .string s1] 22) (z0 : s0.size ≤ 100) (z1 : s1.size ≤ 100) :
  Calls Tryz.prog 64 #[.slice (some ⟨B, 0, none⟩) 2 2] w (Re w (.bool false)) := by
 have i0 : ¬ (100 : Int) < s0.size := by omega
 have i1 : ¬ (100 : Int) < s1.size := by omega
 go_enter Tryz.func64, Tryz.ntmps64
 go_wp2
 go_loopw [7] (fun i wr => Below w.heap.size w wr ∧ (i = .int .i64 0 ∨ i = .int .i64 1 ∨ i = .int .i64 2)) (fun i _ => 2 - (intOf i).toNat)
 case atStart => exact ⟨Below.refl _ _, Or.inl rfl⟩
 case round =>
  obtain ⟨bb, hi⟩ := hrel
  obtain ⟨c0, c1⟩ := xk2 (h.below bb)
  rcases hi with rfl | rfl | rfl
  ·go_wp2
   exact ⟨⟨bb, Or.inr (Or.inl (by go_num))⟩, by simp [intOf]⟩
  ·go_wp2
   exact ⟨⟨bb, Or.inr (Or.inr (by go_num))⟩, by simp [intOf]⟩
  ·go_wp2
   go_ret
   exact ⟨rfl, bb⟩
theorem cnums_walk (a : Option Addr) (n cap : Nat) (N : Nat → Bool) (S D : Nat → ByteArray) (c : Nat → Nat) (w : World) (hn : n ≤ 1000000) (h : RdQ w a n N S D)
  (HZ : Hid (∀ k, k < n → (S k).size ≤ 100 ∧ (D k).size ≤ 100))
  (HC : Hid (∀ (k : Nat) (w1 : World), k < n → Below w.heap.size w w1 → Calls Tryz.prog 65 #[.agg #[.bool (N k), .string (S k), .string (D k)]] w1 (Re w1 (.int .i64 (c k : Nat))))) :
  Calls Tryz.prog 38 #[.slice a n cap] w (Re w (.int .i64 (firstE c n : Nat))) := by
 replace h := shut h
 go_enter Tryz.func38, Tryz.ntmps38
 go_wp2
 go_loopw [8] (fun i wr => Below w.heap.size w wr ∧ ∃ k : Nat, k ≤ n ∧ i = .int .i64 k ∧ firstE c k = 0) (fun i _ => n - (intOf i).toNat)
 case atStart => exact ⟨Below.refl _ _, 0, by omega, rfl, rfl⟩
 case round =>
  obtain ⟨bb, k, hk, rfl, hz⟩ := hrel
  by_cases hkn : k < n
  ·obtain ⟨b, off, rfl, h0, h1, h2⟩ := h.out.below bb k hkn
   go_wp2_with fail
   obtain ⟨w1, hw, kp, kq, b1⟩ := mk2 wr [.bool (N k), .string (S k), .string (D k)] [.string (S k), .string (D k)] 26 22
   rw [← hw]
   clear hw
   replace bb := Below.after bb b1
   clear b1 h0 h1 h2
   go_fit (toolong2_no _ _ _ _ kq (HZ.out k hkn).1 (HZ.out k hkn).2)
   rintro e w2 ⟨rfl, b1⟩
   replace kp := kp.below b1
   replace bb := Below.after bb b1
   clear b1 kq
   obtain ⟨c0, c1, c2⟩ := xk3 kp
   go_wp2_with fail
   go_fit (HC.out k _ hkn bb)
   rintro e w3 ⟨rfl, b1⟩
   replace bb := Below.after bb b1
   clear b1 c0 c1 c2 kp
   by_cases hc : c k = 0
   ·have hs : firstE c (k + 1) = 0 := by unfold firstE; rw [if_pos hz, hc]
    replace hs := shut hs
    replace hz := shut hz
    rw [hc]
    go_wp2
    exact ⟨⟨bb, k + 1, by omega, by go_num, hs.out⟩, by simp [intOf]; omega⟩
   ·have hs := firstE_stop hz hc n hkn
    replace hs := shut hs
    replace hz := shut hz
    go_wp2
    go_ret
    exact ⟨by rw [hs.out]; rfl, bb⟩
  ·obtain rfl : k = n := by omega
   replace hz := shut hz
   go_wp2
   go_ret
   exact ⟨by rw [hz.out]; rfl, bb⟩
theorem mk5 (w : World) (c0 c1 c2 c3 c4 : List Value) (t0 t1 t2 t3 t4 : TypeId) : ∃ w', w' = ((((w.alloc (.cells c0.toArray t0)).alloc (.cells c1.toArray t1)).alloc (.cells c2.toArray t2)).alloc (.cells c3.toArray t3)).alloc (.cells c4.toArray t4) ∧ Cel w' w.heap.size c0 t0 ∧ Cel w' (w.heap.size + 1) c1 t1 ∧ Cel w' (w.heap.size + 1 + 1) c2 t2 ∧ Cel w' (w.heap.size + 1 + 1 + 1) c3 t3 ∧ Cel w' (w.heap.size + 1 + 1 + 1 + 1) c4 t4 ∧ Below w.heap.size w w' := by
 obtain ⟨v, hv, k0, k1, k2, k3, b⟩ := mk4 w c0 c1 c2 c3 t0 t1 t2 t3
 obtain ⟨u, hu, k4, b'⟩ := mk1 v c4 t4
 have hs : v.heap.size = w.heap.size + 1 + 1 + 1 + 1 := by rw [hv]; simp
 refine ⟨u, by rw [hu, hv], k0.below b', k1.below b', k2.below b', k3.below b', by rw [← hs]; exact k4, Below.after b b'⟩
def SpV (w : World) (m0 : Bool) (a0 : Option Addr) (l0 c0 : Nat) (m1 : Bool) (a1 : Option Addr) (l1 c1 : Nat) (a2 : Option Addr) (l2 c2 : Nat) (X Y U : Int) (x y : Rat) : Prop := NV w m0 (.slice a0 l0 c0) X 53 ∧ NV w m1 (.slice a1 l1 c1) Y 53 ∧ NV w false (.slice a2 l2 c2) U 52 ∧ Gm.Way X Y U x y
theorem SpV.below {w w' : World} {m0 : Bool} {a0 : Option Addr} {l0 c0 : Nat} {m1 : Bool} {a1 : Option Addr} {l1 c1 : Nat} {a2 : Option Addr} {l2 c2 : Nat} {X Y U : Int} {x y : Rat} (h : SpV w m0 a0 l0 c0 m1 a1 l1 c1 a2 l2 c2 X Y U x y) (b : Below w.heap.size w w') : SpV w' m0 a0 l0 c0 m1 a1 l1 c1 a2 l2 c2 X Y U x y := ⟨h.1.below b, h.2.1.below b, h.2.2.1.below b, h.2.2.2⟩
theorem SpV.set6 {w : World} {n0 : Bool} {a0 : Option Addr} {l0 c0 : Nat} {n1 : Bool} {a1 : Option Addr} {l1 c1 : Nat} {a2 : Option Addr} {l2 c2 : Nat} {X Y U : Int} {rx ry : Rat} {m o p : Bool} {g : Nat} {a b d : Option Addr} {l c l3 c3 l4 c4 : Nat} {t : TypeId} (h : SpV w n0 a0 l0 c0 n1 a1 l1 c1 a2 l2 c2 X Y U rx ry) (hc : Cel w g [.bool m, .slice a l c, .bool o, .slice b l3 c3, .bool p, .slice d l4 c4] t) (x0 x1 x2 x3 x4 x5 : Value) : SpV ((((((w.setCell ⟨g, 0, none⟩ x0).setCell ⟨g, 1, none⟩ x1).setCell ⟨g, 2, none⟩ x2).setCell ⟨g, 3, none⟩ x3).setCell ⟨g, 4, none⟩ x4).setCell ⟨g, 5, none⟩ x5) n0 a0 l0 c0 n1 a1 l1 c1 a2 l2 c2 X Y U rx ry := ⟨h.1.set6 hc x0 x1 x2 x3 x4 x5, h.2.1.set6 hc x0 x1 x2 x3 x4 x5, h.2.2.1.set6 hc x0 x1 x2 x3 x4 x5, h.2.2.2⟩
theorem rorient_walk (n0 n1 n2 n3 n4 n5 n10 n11 n12 n13 n14 : Bool) (s0 d0 s1 d1 s2 d2 s3 d3 s4 d4 s5 d5 s10 d10 s11 d11 s12 d12 s13 d13 s14 d14 : ByteArray) (G : Int) (w : World)
  (H1 : Hid (∀ w1, Calls Tryz.prog 71 #[.agg #[.bool n2, .string s2, .string d2, .bool n3, .string s3, .string d3], .agg #[.bool n0, .string s0, .string d0, .bool n1, .string s1, .string d1]] w1 (Re w1 (.agg #[.bool n10, .string s10, .string d10, .bool n11, .string s11, .string d11]))))
  (H2 : Hid (∀ w1, Calls Tryz.prog 71 #[.agg #[.bool n4, .string s4, .string d4, .bool n5, .string s5, .string d5], .agg #[.bool n0, .string s0, .string d0, .bool n1, .string s1, .string d1]] w1 (Re w1 (.agg #[.bool n12, .string s12, .string d12, .bool n13, .string s13, .string d13]))))
  (H3 : Hid (∀ w1, Calls Tryz.prog 70 #[.agg #[.bool n10, .string s10, .string d10, .bool n11, .string s11, .string d11], .agg #[.bool n12, .string s12, .string d12, .bool n13, .string s13, .string d13]] w1 (Re w1 (.agg #[.bool n14, .string s14, .string d14]))))
  (H4 : Hid (∀ w1, Calls Tryz.prog 25 #[.agg #[.bool n14, .string s14, .string d14]] w1 (Re w1 (.int .i64 (G))))) :
  Calls Tryz.prog 44 #[.agg #[.bool n0, .string s0, .string d0, .bool n1, .string s1, .string d1], .agg #[.bool n2, .string s2, .string d2, .bool n3, .string s3, .string d3], .agg #[.bool n4, .string s4, .string d4, .bool n5, .string s5, .string d5]] w (Re w (.int .i64 (G))) := by
 go_enter Tryz.func44, Tryz.ntmps44
 go_wp2_with fail
 obtain ⟨w0, hw, ka, kb, kc, bb⟩ := mk3 w [.bool n0, .string s0, .string d0, .bool n1, .string s1, .string d1] [.bool n2, .string s2, .string d2, .bool n3, .string s3, .string d3] [.bool n4, .string s4, .string d4, .bool n5, .string s5, .string d5] 30 30 30
 rw [← hw]
 clear hw
 have mkS : Hid (∀ w', Cel w' (w.heap.size) [.bool n0, .string s0, .string d0, .bool n1, .string s1, .string d1] 30 → Cel w' (w.heap.size + 1) [.bool n2, .string s2, .string d2, .bool n3, .string s3, .string d3] 30 → Cel w' (w.heap.size + 1 + 1) [.bool n4, .string s4, .string d4, .bool n5, .string s5, .string d5] 30 → (xc6 w' w.heap.size (.bool n0) (.string s0) (.string d0) (.bool n1) (.string s1) (.string d1) ∧ xc6 w' (w.heap.size + 1) (.bool n2) (.string s2) (.string d2) (.bool n3) (.string s3) (.string d3) ∧ xc6 w' (w.heap.size + 1 + 1) (.bool n4) (.string s4) (.string d4) (.bool n5) (.string s5) (.string d5))) := fun w' ha hb hc => ⟨xk6 ha, xk6 hb, xk6 hc⟩
 go_region_held3 (fun w' => xc6 w' w.heap.size (.bool n0) (.string s0) (.string d0) (.bool n1) (.string s1) (.string d1) ∧ xc6 w' (w.heap.size + 1) (.bool n2) (.string s2) (.string d2) (.bool n3) (.string s3) (.string d3) ∧ xc6 w' (w.heap.size + 1 + 1) (.bool n4) (.string s4) (.string d4) (.bool n5) (.string s5) (.string d5)) (first | with_reducible exact mkS.out _ ka kb kc | exact mkS.out _ ka kb kc) (first | (go_at_call 71; go_fit (H1.out _); rintro e wn ⟨rfl, bn⟩; replace ka := ka.below (un bn); replace kb := kb.below (un bn); replace kc := kc.below (un bn); replace bb := Below.after bb (un bn)) | (go_at_call 71; go_fit (H2.out _); rintro e wn ⟨rfl, bn⟩; replace ka := ka.below (un bn); replace kb := kb.below (un bn); replace kc := kc.below (un bn); replace bb := Below.after bb (un bn)) | (go_at_call 70; go_fit (H3.out _); rintro e wn ⟨rfl, bn⟩; replace ka := ka.below (un bn); replace kb := kb.below (un bn); replace kc := kc.below (un bn); replace bb := Below.after bb (un bn)) | (go_at_call 25; go_fit (H4.out _); rintro e wn ⟨rfl, bn⟩; replace ka := ka.below (un bn); replace kb := kb.below (un bn); replace kc := kc.below (un bn); replace bb := Below.after bb (un bn)))
 go_wp2
 go_ret
 exact ⟨rfl, bb⟩
theorem Cells.row6 {w : World} {g : Nat} {t : TypeId} {m : Nat → Bool} {v : Nat → Value} (h : Cells w g t (6 * 2) (fnn m v 6)) : Cel w g [.bool (m 0), v 0, .bool (m 1), v 1, .bool (m 2), v 2, .bool (m 3), v 3, .bool (m 4), v 4, .bool (m 5), v 5] t := by
 obtain ⟨cs, h1, h2, h3⟩ := h
 have e : cs = #[.bool (m 0), v 0, .bool (m 1), v 1, .bool (m 2), v 2, .bool (m 3), v 3, .bool (m 4), v 4, .bool (m 5), v 5] := by
  apply Array.ext_getElem?
  intro i
  by_cases hi : i < 12
  ·rw [h3 i hi]
   match i, hi with
   | 0, _ => rfl
   | 1, _ => rfl
   | 2, _ => rfl
   | 3, _ => rfl
   | 4, _ => rfl
   | 5, _ => rfl
   | 6, _ => rfl
   | 7, _ => rfl
   | 8, _ => rfl
   | 9, _ => rfl
   | 10, _ => rfl
   | 11, _ => rfl
  ·rw [Array.getElem?_eq_none (by omega), Array.getElem?_eq_none (by simp; omega)]
 subst e
 exact h1
theorem pat_any (m : Nat → Bool) (v : Nat → Value) (uv xn yn tn : Bool) (ua xa ya ta : Option Addr) (ul uc xl xc yl yc tl tc : Nat) (Z : Nat → Int) (X Y T : Int) (La Lx g : Nat) (w : World) (hL : La + Lx + Lx + 10 ≤ 1000)
  (kg : Cells w g 68 (6 * 2) (fnn m v 6)) (hv : NVs w m v Z La 6) (nx : NV w xn (.slice xa xl xc) X Lx) (ny : NV w yn (.slice ya yl yc) Y Lx) (nt : NV w tn (.slice ta tl tc) T Lx) :
  Calls Tryz.prog 35 #[.agg #[.slice (some ⟨g, 0, none⟩) 6 6, .bool uv, .slice ua ul uc], .agg #[.bool xn, .slice xa xl xc], .agg #[.bool yn, .slice ya yl yc], .agg #[.bool tn, .slice ta tl tc]] w fun e w' => ∃ m a l c, e = .returned (.agg #[.bool m, .slice a l c]) ∧ NV w' m (.slice a l c) ((Z 0 * T + Z 1 * X + Z 2 * Y) * T + (Z 3 * X + Z 4 * Y) * X + Z 5 * Y * Y) (La + Lx + Lx + 4) ∧ Below w.heap.size w w' := by
 obtain ⟨n0, a0, l0, c0, e0⟩ := hv 0 (by omega)
 obtain ⟨n1, a1, l1, c1, e1⟩ := hv 1 (by omega)
 obtain ⟨n2, a2, l2, c2, e2⟩ := hv 2 (by omega)
 obtain ⟨n3, a3, l3, c3, e3⟩ := hv 3 (by omega)
 obtain ⟨n4, a4, l4, c4, e4⟩ := hv 4 (by omega)
 obtain ⟨n5, a5, l5, c5, e5⟩ := hv 5 (by omega)
 have k := kg.row6
 rw [e0, e1, e2, e3, e4, e5] at k
 rw [e0] at n0
 rw [e1] at n1
 rw [e2] at n2
 rw [e3] at n3
 rw [e4] at n4
 rw [e5] at n5
 exact at_walk _ _ _ _ _ _ _ _ _ _ _ _ _ _ _ _ _ _ _ _ _ _ _ _ uv xn yn tn ua xa ya ta ul uc xl xc yl yc tl tc _ _ _ _ _ _ X Y T La Lx g w hL k n0 n1 n2 n3 n4 n5 nx ny nt
theorem psmall_walk (n : Int) (f : Bool) (s : ByteArray) (L : Nat) (w : World)
  (H0 : Hid (∀ w1, Calls Tryz.prog 54 #[.int .i64 n] w1 (Re w1 (.agg #[.bool f, .string s]))))
  (H1 : Hid (∀ w1, Calls Tryz.prog 58 #[.agg #[.bool f, .string s]] w1 fun e w' => ∃ v, e = .returned (.agg #[.bool f, v]) ∧ NV w' f v n L ∧ Below w1.heap.size w1 w')) :
  Calls Tryz.prog 109 #[.int .i64 n] w fun e w' => ∃ a l c, e = .returned (.agg #[.bool f, .slice a l c]) ∧ NV w' f (.slice a l c) n L ∧ Below w.heap.size w w' := by
 go_enter Tryz.func109, Tryz.ntmps109
 go_wp2_with fail
 obtain ⟨w0, hw, kr, bb⟩ := mk1 w [.bool false, .slice none 0 0] 68
 rw [← hw]
 clear hw
 go_fit (H0.out _)
 rintro e w1 ⟨rfl, b1⟩
 replace kr := kr.below b1
 replace bb := Below.after bb b1
 clear b1
 go_wp2_with fail
 go_fit (H1.out _)
 rintro e w2 ⟨v, rfl, n1, b1⟩
 obtain ⟨a, l, c, rfl⟩ := n1.slice
 replace kr := kr.below b1
 replace bb := Below.after bb b1
 clear b1
 obtain ⟨e0, e1⟩ := xk2 kr
 have f0 := Cel.frozen kr 0
 have f1 := Cel.frozen kr 1
 go_wp2
 exact post_n (p := 2) (by kernel_rfl) rfl rfl ((kr.set 0 _).set 1 _) ⟨_, _, _, rfl, n1.set2 kr _ _, bset (bset bb (by omega) 0 _) (by omega) 1 _⟩
theorem psmall_any (n : Int) (h1 : -1000000 ≤ n) (h2 : n ≤ 1000000) (w : World) :
  Calls Tryz.prog 109 #[.int .i64 n] w fun e w' => ∃ a l c, e = .returned (.agg #[.bool (nfZ n), .slice a l c]) ∧ NV w' (nfZ n) (.slice a l c) n 1 ∧ Below w.heap.size w w' := by
 have hz : natOf (sfZ n) < B64 ^ 1 := by
  rw [natOf_sfZ, Nat.pow_one]
  exact Nat.lt_of_le_of_lt (show n.natAbs ≤ 1000000 by omega) (by decide)
 have hs : (sfZ n).size ≤ 8 := bd_sf (K := 8) (show n.natAbs < 256 ^ 8 by omega)
 refine psmall_walk n (nfZ n) (sfZ n) 1 w ?_ ?_
 ·exact fun w1 => zof_any n (by omega) (by omega) w1
 ·intro w1
  have := numOf_any (nfZ n) (sfZ n) w1 (by omega) (okZ_nz n).1 1 hz
  rwa [show sgn (nfZ n) (natOf (sfZ n)) = n from zOf_nz _] at this
theorem cellsS0 : Value.cells (.string { data := #[] }) = #[.string { data := #[] }] := by kernel_rfl
theorem run_mkS (n : Nat) (hn : n ≤ 1000000) (w : World) :
  ∃ w', (Instr.makeSlice 104 (.int .i64 n) (.int .i64 n)).run Tryz.prog w = .ok (.slice (some ⟨w.heap.size, 0, none⟩) n n) w' ∧ Cells w' w.heap.size 22 n (fun _ => .string ⟨#[]⟩) ∧ Below w.heap.size w w' := by
 obtain ⟨i0, hi, hz0, hz1, hz2⟩ := info_parts (show (Tryz.prog.info? 22).map (fun i => (i.zero, i.size, i.bytes)) = some (some (.string ⟨#[]⟩), 1, 16) by kernel_rfl)
 have h := run_make (P := Tryz.prog) w 104 22 i0 (.string ⟨#[]⟩) Tryz.underlying104 hi hz0 .i64 .i64 n n (by omega) (by omega) (by rw [hz2]; omega) (by omega)
 rw [hz1, cellsS0, Int.toNat_natCast, Nat.mul_one] at h
 refine ⟨_, h, ⟨_, heap_alloc_new w _, size_madeCells _ _, fun i hi => ?_⟩, (Below.refl _ _).alloc (Nat.le_refl _) _⟩
 simp [madeCells, hi, Nat.mod_one]
theorem wpList_mkS {w : World} {ops : Array Oper} {rest : List Oper} {o : Oper} {a : Act} {Q : Exit → Act → World → Prop}
  (hg : o.guard = none) (l c : Operand) (hop : o.op = Op.makeSlice 104 l c) (L : Int) (n : Nat) (hl : a.eval l = .int .i64 L) (hc : a.eval c = .int .i64 L) (hL : L = (n : Int)) (hn : n ≤ 1000000)
  (hK : ∀ w1, Cells w1 w.heap.size 22 n (fun _ => .string ⟨#[]⟩) → Below w.heap.size w w1 → wpList Tryz.prog ops Q rest (a.put o.dst (.slice (some ⟨w.heap.size, 0, none⟩) n n)) w1) :
  wpList Tryz.prog ops Q (o :: rest) a w := by
 refine wpList_plain hg fun K hK' => ?_
 subst hL
 obtain ⟨w', hrun, hc', hb⟩ := run_mkS n hn w
 unfold Oper.wp
 simp [execOp, hop, hl, hc, hrun, Result.andThen]
 exact hK' _ _ (hK _ hc' hb)
def RdN (w : World) (a : Option Addr) (n : Nat) (m : Nat → Bool) (v : Nat → Value) : Prop :=
 ∀ j, j < n → ∃ b off, a = some ⟨b, off, none⟩ ∧ w.cell? ⟨b, off + j * 2, none⟩ = some (.bool (m j)) ∧ w.cell? ⟨b, off + j * 2 + 1, none⟩ = some (v j)
theorem RdN.below {w w' : World} {a : Option Addr} {n : Nat} {m : Nat → Bool} {v : Nat → Value} (h : RdN w a n m v) (hb : Below w.heap.size w w') : RdN w' a n m v := by
 intro j hj
 obtain ⟨b, off, e, h0, h1⟩ := h j hj
 exact ⟨b, off, e, cell_below h0 hb, cell_below h1 hb⟩
def fst' (Z : Nat → Int) (k i : Nat) : Value := if i < k then .string (sfZ (Z i)) else .string ⟨#[]⟩
theorem fst_up (Z : Nat → Int) (k i : Nat) : (if i = k then Value.string (sfZ (Z k)) else fst' Z k i) = fst' Z (k + 1) i := by
 unfold fst'
 by_cases h : i = k
 ·rw [if_pos h, if_pos (by omega), h]
 ·rw [if_neg h]
  by_cases h' : i < k
  ·rw [if_pos h', if_pos (by omega)]
  ·rw [if_neg h', if_neg (by omega)]
theorem over_walk (n0 : Bool) (v0 : Value) (a : Option Addr) (n cap : Nat) (m : Nat → Bool) (al : Nat → Option Addr) (ll cl : Nat → Nat) (z : Int) (Z : Nat → Int) (xN : Bool) (xS xD : ByteArray) (w : World) (hn : n ≤ 1000) (hv0 : ∃ a l c, v0 = .slice a l c)
  (h : RdN w a n m (fun j => .slice (al j) (ll j) (cl j)))
  (H1 : Hid (∀ (k : Nat) (w1 : World), k < n → Below w.heap.size w w1 → Calls Tryz.prog 61 #[.agg #[.bool (m k), .slice (al k) (ll k) (cl k)]] w1 (Re w1 (.agg #[.bool (nfZ (Z k)), .string (sfZ (Z k))]))))
  (H2 : Hid (∀ w1, Below w.heap.size w w1 → Calls Tryz.prog 61 #[.agg #[.bool n0, v0]] w1 (Re w1 (.agg #[.bool (nfZ z), .string (sfZ z)]))))
  (H3 : Hid (∀ (g : Nat) (w1 : World), Below w.heap.size w w1 → Cells w1 g 22 n (fst' Z n) → Calls Tryz.prog 62 #[.agg #[.bool (nfZ z), .string (sfZ z)], .slice (some ⟨g, 0, none⟩) n n] w1 (Re w1 (.agg #[.bool xN, .string xS, .string xD])))) :
  Calls Tryz.prog 36 #[.agg #[.bool n0, v0], .slice a n cap] w (Re w (.agg #[.bool xN, .string xS, .string xD])) := by
 obtain ⟨a0, l0, c0, rfl⟩ := hv0
 replace h := shut h
 go_enter Tryz.func36, Tryz.ntmps36
 go_wp2_with (at_make; refine wpList_mkS rfl _ _ rfl _ n rfl rfl rfl (by omega) ?_; intro w1 k1 b1)
 obtain ⟨k0, kr, bb⟩ := al2 b1
 have K1 : Hid (Cells w1 (w.heap.size + 1 + 1) 22 n (fst' Z 0)) := by
  show Cells _ _ _ _ _
  have k1' : Cells w1 (w.heap.size + 1 + 1) 22 n (fun _ => .string ⟨#[]⟩) := by simpa using k1
  refine k1'.congr fun i hi => ?_
  unfold fst'
  rw [if_neg (by omega)]
 clear k1 b1
 go_loopw [13] (fun i wr => ∃ k : Nat, k ≤ n ∧ i = .int .i64 k ∧ Cells wr (w.heap.size + 1 + 1) 22 n (fst' Z k) ∧ Cel wr w.heap.size [.bool n0, .slice a0 l0 c0] 68 ∧ Cel wr (w.heap.size + 1) [.bool false, .string { data := #[] }, .string { data := #[] }] 26 ∧ Below w.heap.size w wr) (fun i _ => n - (intOf i).toNat)
 case atStart => exact ⟨0, by omega, rfl, K1.out, k0, kr, bb⟩
 case round =>
  clear K1 k0 kr bb
  obtain ⟨k, hk, rfl, kg, k0, kr, bb⟩ := hrel
  by_cases hkn : k < n
  ·obtain ⟨b, off, rfl, h0, h1⟩ := h.out.below bb k hkn
   go_wp2_with fail
   go_fit (H1.out k _ hkn (ba bb _))
   rintro e w2 ⟨rfl, b2⟩
   obtain ⟨-, b2⟩ := al1 b2
   replace kg := kg.below b2
   replace k0 := k0.below b2
   replace kr := kr.below b2
   replace bb := Below.after bb b2
   clear b2 h0 h1
   have fl := fld1 (nfZ (Z k)) (sfZ (Z k))
   have q0 := kg.cell hkn
   have q1 := kg.frozen k
   have kg' : Hid (Cells (w2.setCell ⟨w.heap.size + 1 + 1, k, none⟩ (.string (sfZ (Z k)))) (w.heap.size + 1 + 1) 22 n (fst' Z (k + 1))) := by
    show Cells _ _ _ _ _
    exact (kg.set k (.string (sfZ (Z k)))).congr fun i hi => fst_up Z k i
   have k0' := shut (Cel.other (g' := w.heap.size + 1 + 1) k0 (by omega) k (.string (sfZ (Z k))))
   have kr' := shut (Cel.other (g' := w.heap.size + 1 + 1) kr (by omega) k (.string (sfZ (Z k))))
   have bb' := shut (bset (g := w.heap.size + 1 + 1) bb (by omega) k (.string (sfZ (Z k))))
   clear kg k0 kr bb
   go_wp2
   exact ⟨⟨k + 1, by omega, by go_num, kg'.out, k0'.out, kr'.out, bb'.out⟩, by simp [intOf]; omega⟩
  ·obtain rfl : k = n := by omega
   obtain ⟨c0, c1⟩ := xk2 k0
   go_wp2_with fail
   clear c0 c1
   go_fit (H2.out _ bb)
   rintro e w2 ⟨rfl, b2⟩
   replace kg := kg.below b2
   replace kr := kr.below b2
   replace bb := Below.after bb b2
   clear b2
   go_wp2_with fail
   go_fit (H3.out _ _ bb kg)
   rintro e w3 ⟨rfl, b2⟩
   replace kr := kr.below b2
   replace bb := Below.after bb b2
   clear b2
   have e0 := cel3_0 kr
   have f0 := kr.frozen 0
   have e1 := cel3_1 kr
   have f1 := kr.frozen 1
   have e2 := cel3_2 kr
   have f2 := kr.frozen 2
   go_wp2
   exact post_q (p := 4) (by kernel_rfl) rfl rfl (((kr.set 0 _).set 1 _).set 2 _) ⟨rfl, bset (bset (bset bb (by omega) 0 _) (by omega) 1 _) (by omega) 2 _⟩
def RdW (w : World) (a : Option Addr) (n : Nat) (W : Nat → Int) : Prop := ∀ j, j < n → ∃ b off, a = some ⟨b, off, none⟩ ∧ w.cell? ⟨b, off + j, none⟩ = some (.int .i64 (W j))
theorem RdW.below {w w' : World} {a : Option Addr} {n : Nat} {W : Nat → Int} (h : RdW w a n W) (hb : Below w.heap.size w w') : RdW w' a n W := by
 intro j hj
 obtain ⟨b, off, e, h0⟩ := h j hj
 exact ⟨b, off, e, cell_below h0 hb⟩
def wsum (Z W : Nat → Int) : Nat → Int
 | 0 => 0
 | k + 1 => wsum Z W k + Z k * W k
theorem nv_zero (w : World) (L : Nat) : NV w false (.slice none 0 0) 0 L := by
 have r : Rd w (.slice none 0 0) [] := ⟨none, 0, rfl, by simp, fun j hj => by simp at hj⟩
 exact ⟨0, by simpa [M.digs, M.digsF] using r, Nat.pow_pos (by decide), rfl⟩
theorem cell_oth2 {w : World} {d g i j k : Nat} {u : Value} (h : w.cell? ⟨d, i, none⟩ = some u) (hne : ¬ d = g) (x y : Value) : ((w.setCell ⟨g, j, none⟩ x).setCell ⟨g, k, none⟩ y).cell? ⟨d, i, none⟩ = some u := by
 rw [World.cell?_setCell_other _ _ _ _ (fun e => hne (by injection e with e; exact e.symm)), World.cell?_setCell_other _ _ _ _ (fun e => hne (by injection e with e; exact e.symm))]
 exact h
theorem weighed_walk (la wa : Option Addr) (n lcap m wcap : Nat) (N : Nat → Bool) (v : Nat → Value) (Z W : Nat → Int) (L : Nat) (w : World) (hm : m ≤ n) (hn : n ≤ 10) (hL : L ≤ 900)
  (hl : RdN w la n N v) (hv : NVs w N v Z L n) (hw : RdW w wa m W)
  (HS : Hid (∀ (k : Nat) (w1 : World), k < m → Calls Tryz.prog 109 #[.int .i64 (W k)] w1 fun e w' => ∃ f a l c, e = .returned (.agg #[.bool f, .slice a l c]) ∧ NV w' f (.slice a l c) (W k) 1 ∧ Below w1.heap.size w1 w')) :
  Calls Tryz.prog 67 #[.slice la n lcap, .slice wa m wcap] w fun e w' => ∃ f a l c, e = .returned (.agg #[.bool f, .slice a l c]) ∧ NV w' f (.slice a l c) (wsum Z W m) (L + 1 + m) ∧ Below w.heap.size w w' := by
 replace hl := shut hl
 replace hv := shut hv
 replace hw := shut hw
 go_enter Tryz.func67, Tryz.ntmps67
 go_wp2_with fail
 obtain ⟨w0, hq, kr, ks, bb⟩ := mk2 w [.bool false, .slice none 0 0] [.bool false, .slice none 0 0] 68 68
 rw [← hq]
 clear hq
 go_loopw [11] (fun i wr => Below w.heap.size w wr ∧ ∃ (k : Nat) (f : Bool) (a : Option Addr) (l c : Nat), k ≤ m ∧ i = .int .i64 k ∧ Cel wr (w.heap.size + 1) [.bool f, .slice a l c] 68 ∧ NV wr f (.slice a l c) (wsum Z W k) (L + 1 + k) ∧ Cel wr w.heap.size [.bool false, .slice none 0 0] 68) (fun i _ => m - (intOf i).toNat)
 case atStart => exact ⟨bb, 0, _, _, _, _, by omega, rfl, ks, nv_zero _ _, kr⟩
 case round =>
  clear bb kr ks
  obtain ⟨bb, k, f, a, l, c, hk, rfl, ks, ns, kr⟩ := hrel
  by_cases hkm : k < m
  ·obtain ⟨b, off, rfl, h0⟩ := hw.out.below bb k hkm
   obtain ⟨d, o, rfl, g0, g1⟩ := hl.out.below bb k (by omega)
   have hd : d < w.heap.size := by
    obtain ⟨d', o', e, q0, -⟩ := hl.out k (by omega)
    injection e with e
    injection e with e1 e2
    subst e1
    exact World.block_lt_of_cell? w _ q0
   obtain ⟨nk, ak, lk, ck, ek⟩ := hv.out k (by omega)
   rw [ek] at nk g1
   replace nk := nk.below bb
   have i1 : (k : Int) < (n : Int) := by omega
   have i2 : ¬ (k : Int) < 0 := by omega
   have i3 : (k : Int) < (m : Int) := by omega
   go_wp2_with fail
   clear h0
   have bd := bdrew wr
   replace ks := ks.below bd
   replace kr := kr.below bd
   replace ns := ns.below bd
   replace nk := nk.below bd
   replace g0 := cell_below g0 bd
   replace g1 := cell_below g1 bd
   replace bb := Below.after bb bd
   clear bd
   refine wp_region_held_drew (S := fun w' => w'.cell? ⟨d, o + k * 2, none⟩ = some (.bool (N k)) ∧ w'.cell? ⟨d, o + k * 2 + 1, none⟩ = some (.slice ak lk ck)) (by kernel_rfl) ⟨g0, g1⟩ (fun hS => ?_)
   generalize wr.drew = wd at *
   refine WA.start (n := 10) (by kernel_rfl) ?_
   refine WA.tp 1 rfl ?_
   refine WA.tp 2 rfl ?_
   refine WA.tp 3 rfl ?_
   refine WA.tp 4 rfl ?_
   refine WA.tp 5 rfl ?_
   refine WA.genR (i := 0) (s := 16) (.agg #[.bool f, .slice a l c]) (fun b x hz => ?_)
   simp only [Act.put, List.setIfInBounds_toArray, List.set_cons_zero, List.set_cons_succ]
   obtain ⟨c0, c1⟩ := xk2 ks
   revert b x
   refine WA.oneR 10 62 6 0 rfl rfl hS ?_
   clear hS c0 c1
   intro b x hz K hK
   simp only [List.getElem_toArray, List.getElem_cons_succ, List.getElem_cons_zero]
   go_simp
   go_fit (HS.out k _ hkm)
   rintro e w1 ⟨f1, a1, l1, c1, rfl, n1, b1⟩
   replace ks := ks.below b1
   replace kr := kr.below b1
   replace ns := ns.below b1
   replace nk := nk.below b1
   replace g0 := cell_below g0 b1
   replace g1 := cell_below g1 b1
   replace bb := Below.after bb b1
   clear b1
   try go_wp2_with fail
   refine hK.out _ _ ⟨g0, g1⟩ (fun hS => ?_)
   clear hK K
   obtain ⟨c0, c1⟩ := xk2 ks
   revert b x
   refine WA.oneR 10 126 7 0 rfl rfl hS ?_
   clear hS c0 c1
   intro b x hz K hK
   simp only [List.getElem_toArray, List.getElem_cons_succ, List.getElem_cons_zero]
   go_simp
   go_fit (ntimes_any _ _ _ _ (Z k) (W k) L 1 _ (by omega) (by omega) nk n1)
   rintro e w2 ⟨f2, v2, rfl, n2, -, b1⟩
   obtain ⟨a2, l2, c2, rfl⟩ := n2.slice
   clear nk n1
   replace ks := ks.below b1
   replace kr := kr.below b1
   replace ns := ns.below b1
   replace g0 := cell_below g0 b1
   replace g1 := cell_below g1 b1
   replace bb := Below.after bb b1
   clear b1
   try go_wp2_with fail
   refine hK.out _ _ ⟨g0, g1⟩ (fun hS => ?_)
   clear hK K
   obtain ⟨c0, c1⟩ := xk2 ks
   revert b x
   refine WA.finR 0 rfl hS ?_
   clear c0 c1
   refine WA.cal 8 rfl (fun K hK => ?_)
   simp only [List.getElem_toArray, List.getElem_cons_succ, List.getElem_cons_zero]
   go_simp
   go_fit (nplus_any _ _ _ _ (wsum Z W k) (Z k * W k) (L + 1 + k) _ (by omega) ns (n2.mono (by omega)))
   rintro e w3 ⟨f3, v3, rfl, n3, b1⟩
   obtain ⟨a3, l3, c3, rfl⟩ := n3.slice
   clear ns n2
   replace ks := ks.below b1
   replace kr := kr.below b1
   replace g0 := cell_below g0 b1
   replace g1 := cell_below g1 b1
   replace bb := Below.after bb b1
   clear b1
   try go_wp2_with fail
   clear hS
   refine hK.out _ _ ⟨g0, g1⟩ (fun hS => ?_)
   clear hK K
   obtain ⟨c0, c1⟩ := xk2 ks
   have q0 := Cel.frozen ks 0
   have q1 := Cel.frozen ks 1
   refine WA.cal 9 rfl (fun K hK => ?_)
   simp only [List.getElem_toArray, List.getElem_cons_succ, List.getElem_cons_zero]
   go_simp
   try go_wp2_with fail
   clear c0 c1 q0 q1 hS
   have hne : ¬ (d = w.heap.size + 1) := by omega
   refine hK.out _ _ ⟨cell_oth2 g0 hne _ _, cell_oth2 g1 hne _ _⟩ (fun hS => ?_)
   clear hK K
   refine WA.done (by kernel_rfl) ?_
   clear hS
   replace n3 := n3.set2 ks (.bool f3) (.slice a3 l3 c3)
   replace kr := kr.oth2 (show w.heap.size ≠ w.heap.size + 1 by omega) (.bool f3) (.slice a3 l3 c3)
   have bs := bb
   replace bs := bset (bset bs (show w.heap.size ≤ w.heap.size + 1 by omega) 0 (.bool f3)) (show w.heap.size ≤ w.heap.size + 1 by omega) 1 (.slice a3 l3 c3)
   replace ks := (ks.set 0 (.bool f3)).set 1 (.slice a3 l3 c3)
   clear bb g0 g1
   go_wp2_with fail
   refine ⟨⟨bs, k + 1, f3, a3, l3, c3, by omega, by go_num, ks, n3, kr⟩, ?_⟩
   simp [intOf]; omega
  ·have hkm' : k = m := by omega
   subst hkm'
   have i3 : ¬ (k : Int) < (k : Int) := by omega
   obtain ⟨c0, c1⟩ := xk2 ks
   obtain ⟨d0, d1⟩ := xk2 kr
   have q0 := Cel.frozen kr 0
   have q1 := Cel.frozen kr 1
   have hne : ¬ (w.heap.size + 1 = w.heap.size) := by omega
   go_wp2
   exact post_n (p := 4) (by kernel_rfl) rfl rfl ((kr.set 0 _).set 1 _) (by cases f with | false => exact Or.inl ⟨a, l, c, rfl, ns.set2 kr _ _, bset (bset bb (Nat.le_refl _) 0 _) (Nat.le_refl _) 1 _⟩ | true => exact Or.inr ⟨a, l, c, rfl, ns.set2 kr _ _, bset (bset bb (Nat.le_refl _) 0 _) (Nat.le_refl _) 1 _⟩)
theorem NV.bd {w : World} {n : Bool} {v : Value} {z : Int} {L K : Nat} (h : NV w n v z L) (hK : 8 * L ≤ K) : Bd z K := by
 obtain ⟨k, -, hk, rfl⟩ := h
 rw [B64_pow] at hk
 show (sgn n k).natAbs < _
 rw [natAbs_sgn]
 exact Nat.lt_of_lt_of_le hk (Nat.pow_le_pow_right (by omega) hK)
theorem rds_two {w : World} {g : Nat} {t : TypeId} {Z : Nat → Int} (h : Cells w g t 2 (fst' Z 2)) : RdS w (.slice (some ⟨g, 0, none⟩) 2 2) [sfZ (Z 0), sfZ (Z 1)] := by
 refine ⟨_, 2, rfl, Nat.le_refl _, fun j hj => ⟨g, 0, rfl, ?_⟩⟩
 have hj' : j < 2 := hj
 rw [Nat.zero_add, h.cell hj']
 match j, hj' with
 | 0, _ => rfl
 | 1, _ => rfl
def tw2 {α : Type} (x y : α) (j : Nat) : α := if j = 0 then x else y
theorem rdn_two {w : World} {B : Nat} {t : TypeId} {m1 m2 : Bool} {a1 a2 : Option Addr} {l1 c1 l2 c2 : Nat} (h : Cel w B [.bool m1, .slice a1 l1 c1, .bool m2, .slice a2 l2 c2] t) : RdN w (some ⟨B, 0, none⟩) 2 (tw2 m1 m2) (fun j => .slice (tw2 a1 a2 j) (tw2 l1 l2 j) (tw2 c1 c2 j)) := by
 intro j hj
 refine ⟨B, 0, rfl, ?_⟩
 match j, hj with
 | 0, _ => exact ⟨h.cell 0, h.cell 1⟩
 | 1, _ => exact ⟨h.cell 2, h.cell 3⟩
theorem nover2 (m0 m1 m2 : Bool) (v0 : Value) (a1 a2 : Option Addr) (l1 c1 l2 c2 : Nat) (z d1 d2 : Int) (L : Nat) (B : Nat) (w : World) (hT : Tab w) (hL : L ≤ 400) (p1 : 0 < d1) (p2 : 0 < d2)
  (n0 : NV w m0 v0 z L) (n1 : NV w m1 (.slice a1 l1 c1) d1 L) (n2 : NV w m2 (.slice a2 l2 c2) d2 L) (h : Cel w B [.bool m1, .slice a1 l1 c1, .bool m2, .slice a2 l2 c2] 68) :
  Calls Tryz.prog 36 #[.agg #[.bool m0, v0], .slice (some ⟨B, 0, none⟩) 2 2] w (Re w (.agg #[.bool (nfZ (mkRat z (d1.natAbs * d2.natAbs)).num), .string (sfZ (mkRat z (d1.natAbs * d2.natAbs)).num), .string (strOf (mkRat z (d1.natAbs * d2.natAbs)).den)])) := by
 refine over_walk m0 v0 _ 2 2 (tw2 m1 m2) (tw2 a1 a2) (tw2 l1 l2) (tw2 c1 c2) z (tw2 d1 d2) _ _ _ w (by omega) n0.slice (rdn_two h) (fun k w1 hk b => ?_) (fun w1 b => nint_any _ _ z L w1 (by omega) (n0.below b)) (fun g w1 b hc => ?_)
 ·match k, hk with
  | 0, _ => exact nint_any _ _ d1 L w1 (by omega) (n1.below b)
  | 1, _ => exact nint_any _ _ d2 L w1 (by omega) (n2.below b)
 ·have b0 := n0.bd (K := 4000) (by omega)
  have b1 := n1.bd (K := 4000) (by omega)
  have b2 := n2.bd (K := 4000) (by omega)
  have o1 : OkS (sfZ d1) ∧ 0 < natOf (sfZ d1) ∧ (sfZ d1).size ≤ 8000 := ⟨okS_sfZ d1, by rw [natOf_sfZ]; omega, Nat.le_trans b1.size (by omega)⟩
  have o2 : OkS (sfZ d2) ∧ 0 < natOf (sfZ d2) ∧ (sfZ d2).size ≤ 8000 := ⟨okS_sfZ d2, by rw [natOf_sfZ]; omega, Nat.le_trans b2.size (by omega)⟩
  have hm := b1.mul b2
  have := over_any z (.slice (some ⟨g, 0, none⟩) 2 2) [sfZ d1, sfZ d2] w1 (hT.below b) (rds_two hc) (by simp) (fun x hx => by rcases List.mem_cons.1 hx with rfl | hx; exact o1; rcases List.mem_cons.1 hx with rfl | hx; exact o2; cases hx) (K := 4000 + 4000) (by omega) (b0.mono (by omega)) (by
   show natOf (sfZ d1) * (natOf (sfZ d2) * 1) < _
   rw [Nat.mul_one, natOf_sfZ, natOf_sfZ, ← Int.natAbs_mul]
   exact hm)
  rw [show Dt.nprod ([sfZ d1, sfZ d2].map natOf) = d1.natAbs * d2.natAbs by show natOf (sfZ d1) * (natOf (sfZ d2) * 1) = _; rw [Nat.mul_one, natOf_sfZ, natOf_sfZ]] at this
  exact this
end Go.Proofs.YtbafjmjcepcckaaGreatDoor
