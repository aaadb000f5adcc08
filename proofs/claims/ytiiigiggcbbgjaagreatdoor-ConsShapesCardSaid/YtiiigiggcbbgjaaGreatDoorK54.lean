/-
  Package span: the way to a centre.
-/
import Derived.Test.YtiiigiggcbbgjaaGreatDoorK43
namespace Go.Proofs.YtiiigiggcbbgjaaGreatDoor
open Go.RowKit
set_option maxRecDepth 100000 in
set_option maxHeartbeats 32000000 in
theorem toC_ok (n0 n1 n2 n3 n4 n5 : Bool) (s0 d0 s1 d1 s2 d2 s3 d3 s4 d4 s5 d5 : ByteArray) (ux uy vx vy : Rat) (w : World) (h0 : (Gm.sg (ux * vy - uy * vx) == 0) = false)
  (H1 : Hid (∀ w1, Calls Tryz.prog 70 #[.agg #[.bool n0, .string s0, .string d0, .bool n1, .string s1, .string d1], .agg #[.bool n2, .string s2, .string d2, .bool n3, .string s3, .string d3]] w1 fun e w' => ∃ m0 a0 l0 c0 m1 a1 l1 c1 a2 l2 c2 X Y U, e = .returned (.agg #[.bool m0, .slice a0 l0 c0, .bool m1, .slice a1 l1 c1, .bool false, .slice a2 l2 c2]) ∧ SpV w' m0 a0 l0 c0 m1 a1 l1 c1 a2 l2 c2 X Y U ux uy ∧ Below w1.heap.size w1 w'))
  (H2 : Hid (∀ w1, Calls Tryz.prog 70 #[.agg #[.bool n0, .string s0, .string d0, .bool n1, .string s1, .string d1], .agg #[.bool n4, .string s4, .string d4, .bool n5, .string s5, .string d5]] w1 fun e w' => ∃ m0 a0 l0 c0 m1 a1 l1 c1 a2 l2 c2 X Y U, e = .returned (.agg #[.bool m0, .slice a0 l0 c0, .bool m1, .slice a1 l1 c1, .bool false, .slice a2 l2 c2]) ∧ SpV w' m0 a0 l0 c0 m1 a1 l1 c1 a2 l2 c2 X Y U vx vy ∧ Below w1.heap.size w1 w')) :
  Calls Tryz.prog 60 #[.agg #[.bool n0, .string s0, .string d0, .bool n1, .string s1, .string d1], .agg #[.bool n2, .string s2, .string d2, .bool n3, .string s3, .string d3], .agg #[.bool n4, .string s4, .string d4, .bool n5, .string s5, .string d5]] w fun e w' => ∃ m0 a0 l0 c0 m1 a1 l1 c1 m2 a2 l2 c2 X Y U, e = .returned (.tuple #[.agg #[.bool m0, .slice a0 l0 c0, .bool m1, .slice a1 l1 c1, .bool m2, .slice a2 l2 c2], .bool true]) ∧ NV w' m0 (.slice a0 l0 c0) X 319 ∧ NV w' m1 (.slice a1 l1 c1) Y 319 ∧ NV w' m2 (.slice a2 l2 c2) U 212 ∧ Gm.Way X Y U (((ux * ux + uy * uy) * vy - (vx * vx + vy * vy) * uy) / ((ux * vy - uy * vx) + (ux * vy - uy * vx))) ((ux * (vx * vx + vy * vy) - vx * (ux * ux + uy * uy)) / ((ux * vy - uy * vx) + (ux * vy - uy * vx))) ∧ Below w.heap.size w w' := by
 go_enter Tryz.func60, Tryz.ntmps60
 go_wp2_with fail
 obtain ⟨w1, hw, ka, kb, kc, kr, bb⟩ := mk4 w [.bool n0, .string s0, .string d0, .bool n1, .string s1, .string d1] [.bool n2, .string s2, .string d2, .bool n3, .string s3, .string d3] [.bool n4, .string s4, .string d4, .bool n5, .string s5, .string d5] [.bool false, .slice none 0 0, .bool false, .slice none 0 0, .bool false, .slice none 0 0] 28 28 28 74
 rw [← hw]
 clear hw
 have tr := kr.lt
 have mk : Hid (∀ w', SB w1 w' → xc6 w' w.heap.size (.bool n0) (.string s0) (.string d0) (.bool n1) (.string s1) (.string d1) ∧ xc6 w' (w.heap.size + 1) (.bool n2) (.string s2) (.string d2) (.bool n3) (.string s3) (.string d3) ∧ xc6 w' (w.heap.size + 1 + 1) (.bool n4) (.string s4) (.string d4) (.bool n5) (.string s5) (.string d5)) := fun w' h => ⟨xk6 (ka.below h), xk6 (kb.below h), xk6 (kc.below h)⟩
 go_cut [8, 9] from 14 to 19 (fun v u wx => ∃ gc gd m1 a1 l1 c1 m2 a2 l2 c2 a3 l3 c3 X1 Y1 U1 m4 a4 l4 c4 m5 a5 l5 c5 a6 l6 c6 X4 Y4 U4, v = .pointer (some ⟨gc, 0, none⟩) ∧ u = .pointer (some ⟨gd, 0, none⟩) ∧ w1.heap.size ≤ gc ∧ w1.heap.size ≤ gd ∧ Cel wx gc [.bool m1, .slice a1 l1 c1, .bool m2, .slice a2 l2 c2, .bool false, .slice a3 l3 c3] 74 ∧ Cel wx gd [.bool m4, .slice a4 l4 c4, .bool m5, .slice a5 l5 c5, .bool false, .slice a6 l6 c6] 74 ∧ SpV wx m1 a1 l1 c1 m2 a2 l2 c2 a3 l3 c3 X1 Y1 U1 ux uy ∧ SpV wx m4 a4 l4 c4 m5 a5 l5 c5 a6 l6 c6 X4 Y4 U4 vx vy ∧ Below w1.heap.size w1 wx)
 case first =>
  clear h0
  refine wp_region_held_drew (S := SB w1) (by kernel_rfl) (bdrew _) (fun bc => ?_)
  refine WA.start (n := 10) (by kernel_rfl) ?_
  refine WA.tl 0 rfl ?_
  refine WA.tl 1 rfl ?_
  refine WA.tl 3 rfl ?_
  refine WA.tl 4 rfl ?_
  refine WA.gen2 (i := 6) (s := 8) (i' := 7) (s' := 9) undef undef (Pt w1 [.bool false, .slice none 0 0, .bool false, .slice none 0 0, .bool false, .slice none 0 0] 74) (Pt w1 [.bool false, .slice none 0 0, .bool false, .slice none 0 0, .bool false, .slice none 0 0] 74) (fun b b' x x' hz hy hn => ?_)
  simp only [Act.put, List.setIfInBounds_toArray, List.set_cons_zero, List.set_cons_succ]
  replace hz := P2.mk hz hy hn
  clear hy hn
  revert b b' x x'
  refine WA.two 10 27 2 6 7 rfl rfl rfl bc ?_
  clear bc
  intro b b' x x' w' hz bx bc K hK
  clear bx
  simp only [List.getElem_toArray, List.getElem_cons_succ, List.getElem_cons_zero]
  go_simp
  go_fit (H1.out _)
  rintro e wn ⟨m1, a1, l1, c1, m2, a2, l2, c2, a3, l3, c3, X1, Y1, U1, rfl, sv1, bn⟩
  replace bc := Below.after bc bn
  try go_wp2_with fail
  refine hK.out _ _ bc (fun _ => ?_)
  replace hz := hz.below bn
  clear hK K bn
  revert b b' x x'
  refine WA.two 10 31 5 6 7 rfl rfl rfl bc ?_
  clear bc
  intro b b' x x' w' hz bx bc K hK
  replace sv1 := sv1.below bx
  clear bx
  simp only [List.getElem_toArray, List.getElem_cons_succ, List.getElem_cons_zero]
  go_simp
  go_fit (H2.out _)
  rintro e wn ⟨m4, a4, l4, c4, m5, a5, l5, c5, a6, l6, c6, X4, Y4, U4, rfl, sv4, bn⟩
  replace bc := Below.after bc bn
  try go_wp2_with fail
  refine hK.out _ _ bc (fun _ => ?_)
  replace hz := hz.below bn
  replace sv1 := sv1.below bn
  clear hK K bn
  revert b b' x x'
  refine WA.fin2 6 7 rfl rfl bc ?_
  clear bc
  intro x x' w' hz bx bc
  replace sv1 := sv1.below bx
  replace sv4 := sv4.below bx
  obtain ⟨g0, rfl, h0, k0⟩ := hz.p rfl
  obtain ⟨g1, rfl, h1, k1⟩ := hz.p' rfl
  have n01 : ¬ g0 = g1 := fun e => hz.ne rfl rfl (by rw [e])
  clear bx hz
  obtain ⟨e0, e1, e2, e3, e4, e5⟩ := xk6 k0
  have f0 := Cel.frozen k0 0
  have f1 := Cel.frozen k0 1
  have f2 := Cel.frozen k0 2
  have f3 := Cel.frozen k0 3
  have f4 := Cel.frozen k0 4
  have f5 := Cel.frozen k0 5
  refine WA.call 8 rfl (fun K hK => ?_)
  simp only [List.getElem_toArray, List.getElem_cons_succ, List.getElem_cons_zero]
  go_simp
  try go_wp2_with fail
  clear e0 f0 e1 f1 e2 f2 e3 f3 e4 f4 e5 f5
  replace bc := (bset (bset (bset (bset (bset (bset bc h0 0 (.bool m1)) h0 1 (.slice a1 l1 c1)) h0 2 (.bool m2)) h0 3 (.slice a2 l2 c2)) h0 4 (.bool false)) h0 5 (.slice a3 l3 c3))
  refine hK.out _ _ bc (fun _ => ?_)
  clear hK K
  replace sv1 := sv1.set6 k0 (.bool m1) (.slice a1 l1 c1) (.bool m2) (.slice a2 l2 c2) (.bool false) (.slice a3 l3 c3)
  replace sv4 := sv4.set6 k0 (.bool m1) (.slice a1 l1 c1) (.bool m2) (.slice a2 l2 c2) (.bool false) (.slice a3 l3 c3)
  replace k0 := (Cel.set (Cel.set (Cel.set (Cel.set (Cel.set (Cel.set k0 0 (.bool m1)) 1 (.slice a1 l1 c1)) 2 (.bool m2)) 3 (.slice a2 l2 c2)) 4 (.bool false)) 5 (.slice a3 l3 c3))
  replace k1 := (Cel.other (Cel.other (Cel.other (Cel.other (Cel.other (Cel.other k1 (fun e => n01 e.symm) 0 (.bool m1)) (fun e => n01 e.symm) 1 (.slice a1 l1 c1)) (fun e => n01 e.symm) 2 (.bool m2)) (fun e => n01 e.symm) 3 (.slice a2 l2 c2)) (fun e => n01 e.symm) 4 (.bool false)) (fun e => n01 e.symm) 5 (.slice a3 l3 c3))
  obtain ⟨e0, e1, e2, e3, e4, e5⟩ := xk6 k1
  have f0 := Cel.frozen k1 0
  have f1 := Cel.frozen k1 1
  have f2 := Cel.frozen k1 2
  have f3 := Cel.frozen k1 3
  have f4 := Cel.frozen k1 4
  have f5 := Cel.frozen k1 5
  refine WA.call 9 rfl (fun K hK => ?_)
  simp only [List.getElem_toArray, List.getElem_cons_succ, List.getElem_cons_zero]
  go_simp
  try go_wp2_with fail
  clear e0 f0 e1 f1 e2 f2 e3 f3 e4 f4 e5 f5
  replace bc := (bset (bset (bset (bset (bset (bset bc h1 0 (.bool m4)) h1 1 (.slice a4 l4 c4)) h1 2 (.bool m5)) h1 3 (.slice a5 l5 c5)) h1 4 (.bool false)) h1 5 (.slice a6 l6 c6))
  refine hK.out _ _ bc (fun _ => ?_)
  clear hK K
  replace sv1 := sv1.set6 k1 (.bool m4) (.slice a4 l4 c4) (.bool m5) (.slice a5 l5 c5) (.bool false) (.slice a6 l6 c6)
  replace sv4 := sv4.set6 k1 (.bool m4) (.slice a4 l4 c4) (.bool m5) (.slice a5 l5 c5) (.bool false) (.slice a6 l6 c6)
  replace k0 := (Cel.other (Cel.other (Cel.other (Cel.other (Cel.other (Cel.other k0 n01 0 (.bool m4)) n01 1 (.slice a4 l4 c4)) n01 2 (.bool m5)) n01 3 (.slice a5 l5 c5)) n01 4 (.bool false)) n01 5 (.slice a6 l6 c6))
  replace k1 := (Cel.set (Cel.set (Cel.set (Cel.set (Cel.set (Cel.set k1 0 (.bool m4)) 1 (.slice a4 l4 c4)) 2 (.bool m5)) 3 (.slice a5 l5 c5)) 4 (.bool false)) 5 (.slice a6 l6 c6))
  refine WA.done (by kernel_rfl) ?_
  go_wp2_with fail
  go_meet
  exact ⟨_, _, m1, a1, l1, c1, m2, a2, l2, c2, a3, l3, c3, X1, Y1, U1, m4, a4, l4, c4, m5, a5, l5, c5, a6, l6, c6, X4, Y4, U4, rfl, rfl, h0, h1, k0, k1, sv1, sv4, bc⟩
 case rest =>
 obtain ⟨gu, gv, m1, a1, l1, c1, m2, a2, l2, c2, a3, l3, c3, X1, Y1, U1, m4, a4, l4, c4, m5, a5, l5, c5, a6, l6, c6, X4, Y4, U4, rfl, rfl, lu, lv, ku, kv, sv1, sv4, b1⟩ := hcut
 clear mk; have sz := b1.size
 replace ka := ka.below b1
 replace kb := kb.below b1
 replace kc := kc.below b1
 replace kr := kr.below b1
 replace bb := Below.after bb b1
 clear b1
 have tu := ku.lt
 have tv := kv.lt
 obtain ⟨cu_0, cu_1, cu_2, cu_3, cu_4, cu_5⟩ := xk6 ku
 obtain ⟨cv_6, cv_7, cv_8, cv_9, cv_10, cv_11⟩ := xk6 kv
 go_wp2_with fail
 clear cu_0 cu_1 cu_2 cu_3 cu_4 cu_5 cv_6 cv_7 cv_8 cv_9 cv_10 cv_11
 go_fit (scross_any _ _ _ _ _ _ _ _ _ _ _ _ _ _ _ _ _ _ _ _ _ _ _ _ X1 Y1 X4 Y4 53 _ (by omega) sv1.1 sv1.2.1 sv4.1 sv4.2.1)
 rintro e w2 ⟨m7, v7, rfl, nv7, b1⟩
 obtain ⟨a7, l7, c7, rfl⟩ := nv7.slice
 have sz := b1.size
 replace ka := ka.below b1
 replace kb := kb.below b1
 replace kc := kc.below b1
 replace kr := kr.below b1
 replace ku := ku.below b1
 replace kv := kv.below b1
 replace sv1 := sv1.below b1
 replace sv4 := sv4.below b1
 replace bb := Below.after bb b1
 clear b1
 go_wp2_with fail
 go_fit (nsign_any _ _ (X1 * Y4 - Y1 * X4) (53 + 53 + 1) _ (nv7.below (bel_al _ _)))
 rintro e w3 ⟨rfl, b1⟩
 obtain ⟨kt, b1⟩ := al1 b1
 have sz := b1.size
 replace ka := ka.below b1
 replace kb := kb.below b1
 replace kc := kc.below b1
 replace kr := kr.below b1
 replace ku := ku.below b1
 replace kv := kv.below b1
 replace sv1 := sv1.below b1
 replace sv4 := sv4.below b1
 replace nv7 := nv7.below b1
 replace bb := Below.after bb b1
 clear b1
 rw [Gm.cross_sign sv1.2.2.2 sv4.2.2.2]
 have tt := kt.lt
 go_wp2_with fail
 have mk : Hid (∀ w', SB w3 w' → xc6 w' gu (.bool m1) (.slice a1 l1 c1) (.bool m2) (.slice a2 l2 c2) (.bool false) (.slice a3 l3 c3) ∧ xc6 w' gv (.bool m4) (.slice a4 l4 c4) (.bool m5) (.slice a5 l5 c5) (.bool false) (.slice a6 l6 c6)) := fun w' h => ⟨xk6 (ku.below h), xk6 (kv.below h)⟩
 go_cut [11] from 27 to 37 (fun v wx => ∃ gc m22 a22 l22 c22 m24 a24 l24 c24, v = .pointer (some ⟨gc, 0, none⟩) ∧ w3.heap.size ≤ gc ∧ Cel wx gc [.bool m22, .slice a22 l22 c22, .bool m24, .slice a24 l24 c24, .bool false, .slice none 0 0] 74 ∧ NV wx m22 (.slice a22 l22 c22) ((X1 * X1 + Y1 * Y1) * U4) (53 + 53 + 1 + 52) ∧ NV wx m24 (.slice a24 l24 c24) ((X4 * X4 + Y4 * Y4) * U1) (53 + 53 + 1 + 52) ∧ Below w3.heap.size w3 wx)
 case first =>
  clear h0 H1 H2
  refine wp_region_held_drew (S := SB w3) (by kernel_rfl) (bdrew _) (fun bc => ?_)
  refine WA.start (n := 13) (by kernel_rfl) ?_
  refine WA.tl 0 rfl ?_
  refine WA.tk 2 rfl ?_
  refine WA.tl 3 rfl ?_
  refine WA.tl 5 rfl ?_
  refine WA.tk 7 rfl ?_
  refine WA.tl 8 rfl ?_
  refine WA.gen (i := 11) (s := 11) undef (Pt w3 [.bool false, .slice none 0 0, .bool false, .slice none 0 0, .bool false, .slice none 0 0] 74) (fun b x hz => ?_)
  simp only [Act.put, List.setIfInBounds_toArray, List.set_cons_zero, List.set_cons_succ]
  revert b x
  refine WA.one 13 429 1 11 rfl rfl bc ?_
  clear bc
  intro b x w' hz bx bc K hK
  clear bx
  simp only [List.getElem_toArray, List.getElem_cons_succ, List.getElem_cons_zero]
  go_simp
  go_fit (ssquare_any _ _ _ _ _ _ _ _ _ _ _ _ X1 Y1 53 _ (by omega) (sv1.1.below bc) (sv1.2.1.below bc))
  rintro e wn ⟨m21, v21, rfl, nv21, bn⟩
  obtain ⟨a21, l21, c21, rfl⟩ := nv21.slice
  replace bc := Below.after bc bn
  try go_wp2_with fail
  refine hK.out _ _ bc (fun _ => ?_)
  replace hz := fun h => (hz h).below bn
  clear hK K bn
  revert b x
  refine WA.one 13 431 4 11 rfl rfl bc ?_
  clear bc
  intro b x w' hz bx bc K hK
  replace nv21 := nv21.below bx
  clear bx
  simp only [List.getElem_toArray, List.getElem_cons_succ, List.getElem_cons_zero]
  go_simp
  go_fit (ntimes_any _ _ _ _ (X1 * X1 + Y1 * Y1) U4 (53 + 53 + 1) 52 _ (by omega) (by omega) nv21 (sv4.2.2.1.below bc))
  rintro e wn ⟨m22, v22, rfl, nv22, -, bn⟩
  obtain ⟨a22, l22, c22, rfl⟩ := nv22.slice
  replace bc := Below.after bc bn
  try go_wp2_with fail
  refine hK.out _ _ bc (fun _ => ?_)
  replace hz := fun h => (hz h).below bn
  clear hK K bn nv21
  revert b x
  refine WA.one 13 447 6 11 rfl rfl bc ?_
  clear bc
  intro b x w' hz bx bc K hK
  replace nv22 := nv22.below bx
  clear bx
  simp only [List.getElem_toArray, List.getElem_cons_succ, List.getElem_cons_zero]
  go_simp
  go_fit (ssquare_any _ _ _ _ _ _ _ _ _ _ _ _ X4 Y4 53 _ (by omega) (sv4.1.below bc) (sv4.2.1.below bc))
  rintro e wn ⟨m23, v23, rfl, nv23, bn⟩
  obtain ⟨a23, l23, c23, rfl⟩ := nv23.slice
  replace bc := Below.after bc bn
  try go_wp2_with fail
  refine hK.out _ _ bc (fun _ => ?_)
  replace hz := fun h => (hz h).below bn
  replace nv22 := nv22.below bn
  clear hK K bn
  revert b x
  refine WA.one 13 511 9 11 rfl rfl bc ?_
  clear bc
  intro b x w' hz bx bc K hK
  replace nv22 := nv22.below bx
  replace nv23 := nv23.below bx
  clear bx
  simp only [List.getElem_toArray, List.getElem_cons_succ, List.getElem_cons_zero]
  go_simp
  go_fit (ntimes_any _ _ _ _ (X4 * X4 + Y4 * Y4) U1 (53 + 53 + 1) 52 _ (by omega) (by omega) nv23 (sv1.2.2.1.below bc))
  rintro e wn ⟨m24, v24, rfl, nv24, -, bn⟩
  obtain ⟨a24, l24, c24, rfl⟩ := nv24.slice
  replace bc := Below.after bc bn
  try go_wp2_with fail
  refine hK.out _ _ bc (fun _ => ?_)
  replace hz := fun h => (hz h).below bn
  replace nv22 := nv22.below bn
  clear hK K bn nv23
  refine WA.tk 10 rfl ?_
  revert b x
  refine WA.fin 11 rfl bc ?_
  clear bc
  intro x w' hz bx bc
  replace nv22 := nv22.below bx
  replace nv24 := nv24.below bx
  obtain ⟨g0, rfl, h0, k0⟩ := hz
  clear bx
  obtain ⟨e0, e1, e2, e3, e4, e5⟩ := xk6 k0
  have f0 := Cel.frozen k0 0
  have f1 := Cel.frozen k0 1
  have f2 := Cel.frozen k0 2
  have f3 := Cel.frozen k0 3
  have f4 := Cel.frozen k0 4
  have f5 := Cel.frozen k0 5
  refine WA.call 12 rfl (fun K hK => ?_)
  simp only [List.getElem_toArray, List.getElem_cons_succ, List.getElem_cons_zero]
  go_simp
  try go_wp2_with fail
  clear e0 f0 e1 f1 e2 f2 e3 f3 e4 f4 e5 f5
  replace bc := (bset (bset (bset (bset (bset (bset bc h0 0 (.bool m22)) h0 1 (.slice a22 l22 c22)) h0 2 (.bool m24)) h0 3 (.slice a24 l24 c24)) h0 4 (.bool false)) h0 5 (.slice none 0 0))
  refine hK.out _ _ bc (fun _ => ?_)
  clear hK K
  replace nv22 := nv22.set6 k0 (.bool m22) (.slice a22 l22 c22) (.bool m24) (.slice a24 l24 c24) (.bool false) (.slice none 0 0)
  replace nv24 := nv24.set6 k0 (.bool m22) (.slice a22 l22 c22) (.bool m24) (.slice a24 l24 c24) (.bool false) (.slice none 0 0)
  replace k0 := (Cel.set (Cel.set (Cel.set (Cel.set (Cel.set (Cel.set k0 0 (.bool m22)) 1 (.slice a22 l22 c22)) 2 (.bool m24)) 3 (.slice a24 l24 c24)) 4 (.bool false)) 5 (.slice none 0 0))
  refine WA.done (by kernel_rfl) ?_
  go_wp2_with fail
  go_meet
  exact ⟨_, m22, a22, l22, c22, m24, a24, l24, c24, rfl, h0, k0, nv22, nv24, bc⟩
 case rest =>
 obtain ⟨gq, m22, a22, l22, c22, m24, a24, l24, c24, rfl, lq, kq, nv22, nv24, b1⟩ := hcut
 clear mk; have sz := b1.size
 replace ka := ka.below b1
 replace kb := kb.below b1
 replace kc := kc.below b1
 replace kr := kr.below b1
 replace ku := ku.below b1
 replace kv := kv.below b1
 replace kt := kt.below b1
 replace bb := Below.after bb b1
 replace sv1 := sv1.below b1
 replace sv4 := sv4.below b1
 replace nv7 := nv7.below b1
 clear b1
 have tq := kq.lt
 go_wp2_with fail
 have mk : Hid (∀ w', SB wc w' → xc6 w' gu (.bool m1) (.slice a1 l1 c1) (.bool m2) (.slice a2 l2 c2) (.bool false) (.slice a3 l3 c3) ∧ xc6 w' gv (.bool m4) (.slice a4 l4 c4) (.bool m5) (.slice a5 l5 c5) (.bool false) (.slice a6 l6 c6) ∧ xc6 w' gq (.bool m22) (.slice a22 l22 c22) (.bool m24) (.slice a24 l24 c24) (.bool false) (.slice none 0 0)) := fun w' h => ⟨xk6 (ku.below h), xk6 (kv.below h), xk6 (kq.below h)⟩
 go_cut [12, 13] from 38 to 51 (fun v u wx => ∃ gc gd m31 a31 l31 c31 m32 a32 l32 c32, v = .pointer (some ⟨gc, 0, none⟩) ∧ u = .pointer (some ⟨gd, 0, none⟩) ∧ wc.heap.size ≤ gc ∧ wc.heap.size ≤ gd ∧ Cel wx gc [.bool m31, .slice a31 l31 c31] 72 ∧ Cel wx gd [.bool m32, .slice a32 l32 c32] 72 ∧ NV wx m31 (.slice a31 l31 c31) (((X1 * X1 + Y1 * Y1) * U4) * Y4 - ((X4 * X4 + Y4 * Y4) * U1) * Y1) ((53 + 53 + 1 + 52) + (53 + 53 + 1 + 52) + 1) ∧ NV wx m32 (.slice a32 l32 c32) (X1 * ((X4 * X4 + Y4 * Y4) * U1) - X4 * ((X1 * X1 + Y1 * Y1) * U4)) ((53 + 53 + 1 + 52) + (53 + 53 + 1 + 52) + 1) ∧ ¬ gc = gd ∧ Below wc.heap.size wc wx)
 case first =>
  clear h0 H1 H2
  refine wp_region_held_drew (S := SB wc) (by kernel_rfl) (bdrew _) (fun bc => ?_)
  refine WA.start (n := 18) (by kernel_rfl) ?_
  refine WA.tl 0 rfl ?_
  refine WA.tk 1 rfl ?_
  refine WA.tl 2 rfl ?_
  refine WA.tk 3 rfl ?_
  refine WA.tl 4 rfl ?_
  refine WA.tk 5 rfl ?_
  refine WA.tk 7 rfl ?_
  refine WA.tl 8 rfl ?_
  refine WA.tk 9 rfl ?_
  refine WA.tl 10 rfl ?_
  refine WA.tk 11 rfl ?_
  refine WA.tl 12 rfl ?_
  refine WA.gen2 (i := 14) (s := 12) (i' := 15) (s' := 13) undef undef (Pt wc [.bool false, .slice none 0 0] 72) (Pt wc [.bool false, .slice none 0 0] 72) (fun b b' x x' hz hy hn => ?_)
  simp only [Act.put, List.setIfInBounds_toArray, List.set_cons_zero, List.set_cons_succ]
  replace hz := P2.mk hz hy hn
  clear hy hn
  revert b b' x x'
  refine WA.two 18 8127 6 14 15 rfl rfl rfl bc ?_
  clear bc
  intro b b' x x' w' hz bx bc K hK
  clear bx
  simp only [List.getElem_toArray, List.getElem_cons_succ, List.getElem_cons_zero]
  go_simp
  go_fit (scross_any _ _ _ _ _ _ _ _ _ _ _ _ _ _ _ _ _ _ _ _ _ _ _ _ ((X1 * X1 + Y1 * Y1) * U4) ((X4 * X4 + Y4 * Y4) * U1) Y1 Y4 (53 + 53 + 1 + 52) _ (by omega) (nv22.below bc) (nv24.below bc) ((sv1.2.1.below bc).mono (by omega)) ((sv4.2.1.below bc).mono (by omega)))
  rintro e wn ⟨m31, v31, rfl, nv31, bn⟩
  obtain ⟨a31, l31, c31, rfl⟩ := nv31.slice
  replace bc := Below.after bc bn
  try go_wp2_with fail
  refine hK.out _ _ bc (fun _ => ?_)
  replace hz := hz.below bn
  clear hK K bn
  revert b b' x x'
  refine WA.two 18 8191 13 14 15 rfl rfl rfl bc ?_
  clear bc
  intro b b' x x' w' hz bx bc K hK
  replace nv31 := nv31.below bx
  clear bx
  simp only [List.getElem_toArray, List.getElem_cons_succ, List.getElem_cons_zero]
  go_simp
  go_fit (scross_any _ _ _ _ _ _ _ _ _ _ _ _ _ _ _ _ _ _ _ _ _ _ _ _ X1 X4 ((X1 * X1 + Y1 * Y1) * U4) ((X4 * X4 + Y4 * Y4) * U1) (53 + 53 + 1 + 52) _ (by omega) ((sv1.1.below bc).mono (by omega)) ((sv4.1.below bc).mono (by omega)) (nv22.below bc) (nv24.below bc))
  rintro e wn ⟨m32, v32, rfl, nv32, bn⟩
  obtain ⟨a32, l32, c32, rfl⟩ := nv32.slice
  replace bc := Below.after bc bn
  try go_wp2_with fail
  refine hK.out _ _ bc (fun _ => ?_)
  replace hz := hz.below bn
  replace nv31 := nv31.below bn
  clear hK K bn
  revert b b' x x'
  refine WA.fin2 14 15 rfl rfl bc ?_
  clear bc
  intro x x' w' hz bx bc
  replace nv31 := nv31.below bx
  replace nv32 := nv32.below bx
  obtain ⟨g0, rfl, h0, k0⟩ := hz.p rfl
  obtain ⟨g1, rfl, h1, k1⟩ := hz.p' rfl
  have n01 : ¬ g0 = g1 := fun e => hz.ne rfl rfl (by rw [e])
  clear bx hz
  obtain ⟨e0, e1⟩ := xk2 k0
  have f0 := Cel.frozen k0 0
  have f1 := Cel.frozen k0 1
  refine WA.call 16 rfl (fun K hK => ?_)
  simp only [List.getElem_toArray, List.getElem_cons_succ, List.getElem_cons_zero]
  go_simp
  try go_wp2_with fail
  clear e0 f0 e1 f1
  replace bc := (bset (bset bc h0 0 (.bool m31)) h0 1 (.slice a31 l31 c31))
  refine hK.out _ _ bc (fun _ => ?_)
  clear hK K
  replace nv31 := nv31.set2 k0 (.bool m31) (.slice a31 l31 c31)
  replace nv32 := nv32.set2 k0 (.bool m31) (.slice a31 l31 c31)
  replace k0 := (Cel.set (Cel.set k0 0 (.bool m31)) 1 (.slice a31 l31 c31))
  replace k1 := (Cel.other (Cel.other k1 (fun e => n01 e.symm) 0 (.bool m31)) (fun e => n01 e.symm) 1 (.slice a31 l31 c31))
  obtain ⟨e0, e1⟩ := xk2 k1
  have f0 := Cel.frozen k1 0
  have f1 := Cel.frozen k1 1
  refine WA.call 17 rfl (fun K hK => ?_)
  simp only [List.getElem_toArray, List.getElem_cons_succ, List.getElem_cons_zero]
  go_simp
  try go_wp2_with fail
  clear e0 f0 e1 f1
  replace bc := (bset (bset bc h1 0 (.bool m32)) h1 1 (.slice a32 l32 c32))
  refine hK.out _ _ bc (fun _ => ?_)
  clear hK K
  replace nv31 := nv31.set2 k1 (.bool m32) (.slice a32 l32 c32)
  replace nv32 := nv32.set2 k1 (.bool m32) (.slice a32 l32 c32)
  replace k0 := (Cel.other (Cel.other k0 n01 0 (.bool m32)) n01 1 (.slice a32 l32 c32))
  replace k1 := (Cel.set (Cel.set k1 0 (.bool m32)) 1 (.slice a32 l32 c32))
  refine WA.done (by kernel_rfl) ?_
  go_wp2_with fail
  go_meet
  exact ⟨_, _, m31, a31, l31, c31, m32, a32, l32, c32, rfl, rfl, h0, h1, k0, k1, nv31, nv32, n01, bc⟩
 case rest =>
 obtain ⟨gx, gy, m31, a31, l31, c31, m32, a32, l32, c32, rfl, rfl, lx, ly, kx, ky, nv31, nv32, nxy, b1⟩ := hcut
 clear mk; have sz := b1.size
 replace ka := ka.below b1
 replace kb := kb.below b1
 replace kc := kc.below b1
 replace kr := kr.below b1
 replace ku := ku.below b1
 replace kv := kv.below b1
 replace kt := kt.below b1
 replace kq := kq.below b1
 replace bb := Below.after bb b1
 replace sv1 := sv1.below b1
 replace sv4 := sv4.below b1
 replace nv7 := nv7.below b1
 clear b1
 have tx := kx.lt
 have ty := ky.lt
 have ne0 : ux * vy - uy * vx ≠ 0 := by
  intro e
  rw [e] at h0
  simp [Gm.sg] at h0
 replace ne0 := shut ne0
 obtain ⟨U1n, U4n, wy1, wy4⟩ : NV wc false (.slice a3 l3 c3) U1 52 ∧ NV wc false (.slice a6 l6 c6) U4 52 ∧ Hid (Gm.Way X1 Y1 U1 ux uy) ∧ Hid (Gm.Way X4 Y4 U4 vx vy) := ⟨sv1.2.2.1, sv4.2.2.1, sv1.2.2.2, sv4.2.2.2⟩
 clear sv1 sv4 nv22 nv24 H1 H2 h0
 obtain ⟨ct_0, ct_1⟩ := xk2 kt
 obtain ⟨cx_2, cx_3⟩ := xk2 kx
 obtain ⟨cy_4, cy_5⟩ := xk2 ky
 go_upto_if 53 with fail
 clear ct_0 ct_1 cx_2 cx_3 cy_4 cy_5
 go_cut [] from 54 to 61 (fun wx => ∃ X Y : Int, Cel wx gx [.bool (bif m7 then !m31 else m31), .slice a31 l31 c31] 72 ∧ Cel wx gy [.bool (bif m7 then !m32 else m32), .slice a32 l32 c32] 72 ∧ Cel wx w2.heap.size [.bool m7, .slice a7 l7 c7] 72 ∧ Cel wx gu [.bool m1, .slice a1 l1 c1, .bool m2, .slice a2 l2 c2, .bool false, .slice a3 l3 c3] 74 ∧ Cel wx gv [.bool m4, .slice a4 l4 c4, .bool m5, .slice a5 l5 c5, .bool false, .slice a6 l6 c6] 74 ∧ Cel wx (w.heap.size + 1 + 1 + 1) [.bool false, .slice none 0 0, .bool false, .slice none 0 0, .bool false, .slice none 0 0] 74 ∧ NV wx (bif m7 then !m31 else m31) (.slice a31 l31 c31) X ((53 + 53 + 1 + 52) + (53 + 53 + 1 + 52) + 1) ∧ NV wx (bif m7 then !m32 else m32) (.slice a32 l32 c32) Y ((53 + 53 + 1 + 52) + (53 + 53 + 1 + 52) + 1) ∧ NV wx m7 (.slice a7 l7 c7) (X1 * Y4 - Y1 * X4) (53 + 53 + 1) ∧ NV wx false (.slice a3 l3 c3) U1 52 ∧ NV wx false (.slice a6 l6 c6) U4 52 ∧ Hid ((X = ((X1 * X1 + Y1 * Y1) * U4) * Y4 - ((X4 * X4 + Y4 * Y4) * U1) * Y1 ∧ Y = X1 * ((X4 * X4 + Y4 * Y4) * U1) - X4 * ((X1 * X1 + Y1 * Y1) * U4) ∧ 0 ≤ X1 * Y4 - Y1 * X4) ∨ (X = -(((X1 * X1 + Y1 * Y1) * U4) * Y4 - ((X4 * X4 + Y4 * Y4) * U1) * Y1) ∧ Y = -(X1 * ((X4 * X4 + Y4 * Y4) * U1) - X4 * ((X1 * X1 + Y1 * Y1) * U4)) ∧ X1 * Y4 - Y1 * X4 ≤ 0)) ∧ Below w.heap.size w wx)
 case first =>
  cases m7 with
  | false =>
   go_wp2
   go_meet
   exact ⟨_, _, kx, ky, kt, ku, kv, kr, nv31, nv32, nv7, U1n, U4n, Or.inl ⟨rfl, rfl, nv7.pos⟩, bb⟩
  | true =>
   obtain ⟨ex, ex'⟩ := xk2 kx
   obtain ⟨ey, ey'⟩ := xk2 ky
   have fx := Cel.frozen kx 0
   have fy := Cel.frozen ky 0
   have qq : gy ≠ gx := fun e => nxy e.symm
   go_wp2_with fail
   go_region
   all_goals (go_wp2_with fail)
   all_goals go_meet
   all_goals exact ⟨_, _, ((Cel.drew kx).set 0 _).other nxy 0 _, ((Cel.drew ky).other qq 0 _).set 0 _, ((Cel.drew kt).other (by omega) 0 _).other (by omega) 0 _, ((Cel.drew ku).other (by omega) 0 _).other (by omega) 0 _, ((Cel.drew kv).other (by omega) 0 _).other (by omega) 0 _, ((Cel.drew kr).other (by omega) 0 _).other (by omega) 0 _, NV.flip (NV.set1 (NV.set1 (NV.below nv31 (bdrew wc)) (kx.drew) _) ((ky.drew).other qq 0 _) _), NV.flip (NV.set1 (NV.set1 (NV.below nv32 (bdrew wc)) (kx.drew) _) ((ky.drew).other qq 0 _) _), (NV.set1 (NV.set1 (NV.below nv7 (bdrew wc)) (kx.drew) _) ((ky.drew).other qq 0 _) _), (NV.set1 (NV.set1 (NV.below U1n (bdrew wc)) (kx.drew) _) ((ky.drew).other qq 0 _) _), (NV.set1 (NV.set1 (NV.below U4n (bdrew wc)) (kx.drew) _) ((ky.drew).other qq 0 _) _), Or.inr ⟨rfl, rfl, nv7.neg⟩, bset (bset (Below.after bb (bdrew wc)) (by omega) 0 _) (by omega) 0 _⟩
 case rest =>
 obtain ⟨X, Y, kx, ky, kt, ku, kv, kr, nv31, nv32, nv7, U1n, U4n, wz, bb⟩ := hcut
 go_wp2_with fail
 have bd := bdrew wc
 replace kx := kx.below bd
 replace ky := ky.below bd
 replace kt := kt.below bd
 replace ku := ku.below bd
 replace kv := kv.below bd
 replace kr := kr.below bd
 replace nv31 := nv31.below bd
 replace nv32 := nv32.below bd
 replace nv7 := nv7.below bd
 replace U1n := U1n.below bd
 replace U4n := U4n.below bd
 replace bb := Below.after bb bd
 clear bd
 refine wp_region_held_drew (S := fun w' => xc2 w' gx (.bool (bif m7 then !m31 else m31)) (.slice a31 l31 c31) ∧ xc2 w' gy (.bool (bif m7 then !m32 else m32)) (.slice a32 l32 c32) ∧ xc2 w' w2.heap.size (.bool m7) (.slice a7 l7 c7) ∧ xc6 w' gu (.bool m1) (.slice a1 l1 c1) (.bool m2) (.slice a2 l2 c2) (.bool false) (.slice a3 l3 c3) ∧ xc6 w' gv (.bool m4) (.slice a4 l4 c4) (.bool m5) (.slice a5 l5 c5) (.bool false) (.slice a6 l6 c6)) (by kernel_rfl) ⟨xk2 kx, xk2 ky, xk2 kt, xk6 ku, xk6 kv⟩ (fun hS => ?_)
 refine WA.start (n := 15) (by kernel_rfl) ?_
 refine WA.tp 0 rfl ?_
 refine WA.tp 1 rfl ?_
 refine WA.tp 2 rfl ?_
 refine WA.tp 3 rfl ?_
 refine WA.tp 6 rfl ?_
 refine WA.tp 7 rfl ?_
 refine WA.tp 9 rfl ?_
 refine WA.tp 10 rfl ?_
 refine WA.cal 4 rfl (fun K hK => ?_)
 simp only [List.getElem_toArray, List.getElem_cons_succ, List.getElem_cons_zero]
 go_simp
 go_fit (nplus_any _ _ _ _ (X1 * Y4 - Y1 * X4) (X1 * Y4 - Y1 * X4) (53 + 53 + 1) _ (by omega) nv7 nv7)
 rintro e wn ⟨m41, v41, rfl, nv41, bn⟩
 obtain ⟨a41, l41, c41, rfl⟩ := nv41.slice
 replace kx := kx.below bn
 replace ky := ky.below bn
 replace kt := kt.below bn
 replace ku := ku.below bn
 replace kv := kv.below bn
 replace kr := kr.below bn
 replace nv31 := nv31.below bn
 replace nv32 := nv32.below bn
 replace nv7 := nv7.below bn
 replace U1n := U1n.below bn
 replace U4n := U4n.below bn
 replace bb := Below.after bb bn
 try go_wp2_with fail
 clear hS
 refine hK.out _ _ ⟨xk2 kx, xk2 ky, xk2 kt, xk6 ku, xk6 kv⟩ (fun hS => ?_)
 clear hK K bn
 refine WA.cal 5 rfl (fun K hK => ?_)
 simp only [List.getElem_toArray, List.getElem_cons_succ, List.getElem_cons_zero]
 go_simp
 go_fit (nsize_any _ _ ((X1 * Y4 - Y1 * X4) + (X1 * Y4 - Y1 * X4)) ((53 + 53 + 1) + 1) _ nv41)
 rintro e wn ⟨rfl, nv42, bn⟩
 replace kx := kx.below bn
 replace ky := ky.below bn
 replace kt := kt.below bn
 replace ku := ku.below bn
 replace kv := kv.below bn
 replace kr := kr.below bn
 replace nv31 := nv31.below bn
 replace nv32 := nv32.below bn
 replace nv7 := nv7.below bn
 replace U1n := U1n.below bn
 replace U4n := U4n.below bn
 replace nv41 := nv41.below bn
 replace bb := Below.after bb bn
 try go_wp2_with fail
 clear hS
 refine hK.out _ _ ⟨xk2 kx, xk2 ky, xk2 kt, xk6 ku, xk6 kv⟩ (fun hS => ?_)
 clear hK K bn
 refine WA.cal 8 rfl (fun K hK => ?_)
 simp only [List.getElem_toArray, List.getElem_cons_succ, List.getElem_cons_zero]
 go_simp
 go_fit (ntimes_any _ _ _ _ (((X1 * Y4 - Y1 * X4) + (X1 * Y4 - Y1 * X4)).natAbs) U1 ((53 + 53 + 1) + 1) 52 _ (by omega) (by omega) nv42 U1n)
 rintro e wn ⟨m43, v43, rfl, nv43, -, bn⟩
 obtain ⟨a43, l43, c43, rfl⟩ := nv43.slice
 replace kx := kx.below bn
 replace ky := ky.below bn
 replace kt := kt.below bn
 replace ku := ku.below bn
 replace kv := kv.below bn
 replace kr := kr.below bn
 replace nv31 := nv31.below bn
 replace nv32 := nv32.below bn
 replace nv7 := nv7.below bn
 replace U1n := U1n.below bn
 replace U4n := U4n.below bn
 replace nv41 := nv41.below bn
 replace nv42 := nv42.below bn
 replace bb := Below.after bb bn
 try go_wp2_with fail
 clear hS
 refine hK.out _ _ ⟨xk2 kx, xk2 ky, xk2 kt, xk6 ku, xk6 kv⟩ (fun hS => ?_)
 clear hK K bn
 refine WA.cal 11 rfl (fun K hK => ?_)
 simp only [List.getElem_toArray, List.getElem_cons_succ, List.getElem_cons_zero]
 go_simp
 go_fit (ntimes_any _ _ _ _ ((((X1 * Y4 - Y1 * X4) + (X1 * Y4 - Y1 * X4)).natAbs : Int) * U1) U4 ((53 + 53 + 1) + 1 + 52) 52 _ (by omega) (by omega) nv43 U4n)
 rintro e wn ⟨m44, v44, rfl, nv44, -, bn⟩
 obtain ⟨a44, l44, c44, rfl⟩ := nv44.slice
 replace kx := kx.below bn
 replace ky := ky.below bn
 replace kt := kt.below bn
 replace ku := ku.below bn
 replace kv := kv.below bn
 replace kr := kr.below bn
 replace nv31 := nv31.below bn
 replace nv32 := nv32.below bn
 replace nv7 := nv7.below bn
 replace U1n := U1n.below bn
 replace U4n := U4n.below bn
 replace nv41 := nv41.below bn
 replace nv42 := nv42.below bn
 replace nv43 := nv43.below bn
 replace bb := Below.after bb bn
 try go_wp2_with fail
 clear hS
 refine hK.out _ _ ⟨xk2 kx, xk2 ky, xk2 kt, xk6 ku, xk6 kv⟩ (fun hS => ?_)
 clear hK K bn
 refine WA.tp 12 rfl ?_
 obtain ⟨e0, e1, e2, e3, e4, e5⟩ := xk6 kr
 have f0 := Cel.frozen kr 0
 have f1 := Cel.frozen kr 1
 have f2 := Cel.frozen kr 2
 have f3 := Cel.frozen kr 3
 have f4 := Cel.frozen kr 4
 have f5 := Cel.frozen kr 5
 refine WA.cal 13 rfl (fun K hK => ?_)
 simp only [List.getElem_toArray, List.getElem_cons_succ, List.getElem_cons_zero]
 go_simp
 try go_wp2_with fail
 clear e0 f0 e1 f1 e2 f2 e3 f3 e4 f4 e5 f5
 clear hS
 refine hK.out _ _ ⟨xk2 (kx.oth6 (by omega) _ _ _ _ _ _), xk2 (ky.oth6 (by omega) _ _ _ _ _ _), xk2 (kt.oth6 (by omega) _ _ _ _ _ _), xk6 (ku.oth6 (by omega) _ _ _ _ _ _), xk6 (kv.oth6 (by omega) _ _ _ _ _ _)⟩ (fun hS => ?_)
 clear hK K
 refine WA.tp 14 rfl ?_
 refine WA.done (by kernel_rfl) ?_
 clear hS
 go_wp2_with fail
 exact post_s1 (p := 6) (u := 7) (v := .bool true) (by kernel_rfl) rfl rfl rfl (kr.set6 _ _ _ _ _ _) ⟨_, _, _, _, _, _, _, _, _, _, _, _, _, _, _, rfl, nv31.set6 kr _ _ _ _ _ _, nv32.set6 kr _ _ _ _ _ _, nv44.set6 kr _ _ _ _ _ _, Gm.centre_way wy1.out wy4.out ne0.out wz.out, bset6 bb (by omega) _ _ _ _ _ _⟩
end Go.Proofs.YtiiigiggcbbgjaaGreatDoor
