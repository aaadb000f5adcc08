/-
  Package cons: Near2, walked, near the second end.
  gussetref06: Sharp, Shortest2, Ratio2, Area2, walked.
  gussetlaw06: ConsShapes, walked.
  gussetlaw06: ConsShapes, walked.
  gussetlaw06: ConsShapes, walked.
-/
import Derived.Test.YtiiigiggcbbgjaaGreatDoorK43
set_option maxRecDepth 100000
set_option maxHeartbeats 16000000
namespace Go.Proofs.YtiiigiggcbbgjaaGreatDoor
open Go.RowKit
theorem cNear_b (n0 n1 n2 n3 n4 n5 : Bool) (s0 d0 s1 d1 s2 d2 s3 d3 s4 d4 s5 d5 : ByteArray) (xN : Bool) (xS xD : ByteArray) (ux uy vx vy tx ty : Rat) (w : World)
  (HC : Hid (∀ (w1 : World) (B : Nat), Below w.heap.size w w1 → Cel w1 B [.bool n0, .string s0, .string d0, .bool n1, .string s1, .string d1, .bool n2, .string s2, .string d2, .bool n3, .string s3, .string d3, .bool n4, .string s4, .string d4, .bool n5, .string s5, .string d5] 28 → Calls Tryz.prog 45 #[.slice (some ⟨B, 0, none⟩) 3 3] w1 (Re w1 (.int .i64 0))))
  (q1 : ∀ w1, (binOp .eql 28 (.agg #[.bool n0, .string s0, .string d0, .bool n1, .string s1, .string d1]) (.agg #[.bool n2, .string s2, .string d2, .bool n3, .string s3, .string d3])).run Tryz.prog w1 = .ok (.bool false) w1)
  (H1 : Hid (∀ w1, Calls Tryz.prog 70 #[.agg #[.bool n0, .string s0, .string d0, .bool n1, .string s1, .string d1], .agg #[.bool n2, .string s2, .string d2, .bool n3, .string s3, .string d3]] w1 fun e w' => ∃ m0 a0 l0 c0 m1 a1 l1 c1 a2 l2 c2 X Y U, e = .returned (.agg #[.bool m0, .slice a0 l0 c0, .bool m1, .slice a1 l1 c1, .bool false, .slice a2 l2 c2]) ∧ SpV w' m0 a0 l0 c0 m1 a1 l1 c1 a2 l2 c2 X Y U ux uy ∧ Below w1.heap.size w1 w'))
  (H2 : Hid (∀ w1, Calls Tryz.prog 70 #[.agg #[.bool n0, .string s0, .string d0, .bool n1, .string s1, .string d1], .agg #[.bool n4, .string s4, .string d4, .bool n5, .string s5, .string d5]] w1 fun e w' => ∃ m0 a0 l0 c0 m1 a1 l1 c1 a2 l2 c2 X Y U, e = .returned (.agg #[.bool m0, .slice a0 l0 c0, .bool m1, .slice a1 l1 c1, .bool false, .slice a2 l2 c2]) ∧ SpV w' m0 a0 l0 c0 m1 a1 l1 c1 a2 l2 c2 X Y U vx vy ∧ Below w1.heap.size w1 w')) (hd : ¬ Gm.sg (ux * vx + uy * vy) ≤ 0) (hb : 0 ≤ Gm.sg (ux * tx + uy * ty))
  (H3 : Hid (∀ w1, Calls Tryz.prog 70 #[.agg #[.bool n2, .string s2, .string d2, .bool n3, .string s3, .string d3], .agg #[.bool n4, .string s4, .string d4, .bool n5, .string s5, .string d5]] w1 fun e w' => ∃ m0 a0 l0 c0 m1 a1 l1 c1 a2 l2 c2 X Y U, e = .returned (.agg #[.bool m0, .slice a0 l0 c0, .bool m1, .slice a1 l1 c1, .bool false, .slice a2 l2 c2]) ∧ NV w' m0 (.slice a0 l0 c0) X 53 ∧ NV w' m1 (.slice a1 l1 c1) Y 53 ∧ NV w' false (.slice a2 l2 c2) U 52 ∧ Gm.Way X Y U tx ty ∧ Below w1.heap.size w1 w'))
  (HF : Hid (∀ w1, Below w.heap.size w w1 → Calls Tryz.prog 59 #[.agg #[.bool n2, .string s2, .string d2, .bool n3, .string s3, .string d3], .agg #[.bool n4, .string s4, .string d4, .bool n5, .string s5, .string d5]] w1 (Re w1 (.agg #[.bool xN, .string xS, .string xD])))) :
  Calls Tryz.prog 34 #[.agg #[.bool n0, .string s0, .string d0, .bool n1, .string s1, .string d1], .agg #[.bool n2, .string s2, .string d2, .bool n3, .string s3, .string d3], .agg #[.bool n4, .string s4, .string d4, .bool n5, .string s5, .string d5]] w (Re w (.tuple #[.agg #[.bool xN, .string xS, .string xD], .int .i64 0])) := by
 go_enter Tryz.func34, Tryz.ntmps34
 go_wp2_with fail
 obtain ⟨w0, hw, ka, kb, kc, kr, kl, bb⟩ := mk5 w [.bool n0, .string s0, .string d0, .bool n1, .string s1, .string d1] [.bool n2, .string s2, .string d2, .bool n3, .string s3, .string d3] [.bool n4, .string s4, .string d4, .bool n5, .string s5, .string d5] [.bool false, .string { data := #[] }, .string { data := #[] }] [.bool n0, .string s0, .string d0, .bool n1, .string s1, .string d1, .bool n2, .string s2, .string d2, .bool n3, .string s3, .string d3, .bool n4, .string s4, .string d4, .bool n5, .string s5, .string d5] 28 28 28 26 28
 rw [← hw]
 clear hw
 go_fit (HC.out _ _ bb kl)
 rintro e w1 ⟨rfl, b1⟩
 replace ka := ka.below b1
 replace kb := kb.below b1
 replace kc := kc.below b1
 replace kr := kr.below b1
 replace bb := Below.after bb b1
 clear b1 kl
 have tr := kr.lt
 obtain ⟨ca_0, ca_1, ca_2, ca_3, ca_4, ca_5⟩ := xk6 ka
 obtain ⟨cb_6, cb_7, cb_8, cb_9, cb_10, cb_11⟩ := xk6 kb
 obtain ⟨cc_12, cc_13, cc_14, cc_15, cc_16, cc_17⟩ := xk6 kc
 go_wp2_with fail
 clear ca_0 ca_1 ca_2 ca_3 ca_4 ca_5 cb_6 cb_7 cb_8 cb_9 cb_10 cb_11 cc_12 cc_13 cc_14 cc_15 cc_16 cc_17
 have mk : Hid (∀ w', SB w1 w' → xc6 w' w.heap.size (.bool n0) (.string s0) (.string d0) (.bool n1) (.string s1) (.string d1) ∧ xc6 w' (w.heap.size + 1) (.bool n2) (.string s2) (.string d2) (.bool n3) (.string s3) (.string d3) ∧ xc6 w' (w.heap.size + 1 + 1) (.bool n4) (.string s4) (.string d4) (.bool n5) (.string s5) (.string d5)) := fun w' h => ⟨xk6 (ka.below h), xk6 (kb.below h), xk6 (kc.below h)⟩
 go_cut [9, 10] from 27 to 32 (fun v u wx => ∃ gc gd m1 a1 l1 c1 m2 a2 l2 c2 a3 l3 c3 X1 Y1 U1 m4 a4 l4 c4 m5 a5 l5 c5 a6 l6 c6 X4 Y4 U4, v = .pointer (some ⟨gc, 0, none⟩) ∧ u = .pointer (some ⟨gd, 0, none⟩) ∧ w1.heap.size ≤ gc ∧ w1.heap.size ≤ gd ∧ Cel wx gc [.bool m1, .slice a1 l1 c1, .bool m2, .slice a2 l2 c2, .bool false, .slice a3 l3 c3] 74 ∧ Cel wx gd [.bool m4, .slice a4 l4 c4, .bool m5, .slice a5 l5 c5, .bool false, .slice a6 l6 c6] 74 ∧ SpV wx m1 a1 l1 c1 m2 a2 l2 c2 a3 l3 c3 X1 Y1 U1 ux uy ∧ SpV wx m4 a4 l4 c4 m5 a5 l5 c5 a6 l6 c6 X4 Y4 U4 vx vy ∧ Below w1.heap.size w1 wx)
 case first =>
  clear HC q1 HF H3
  refine wp_region_held_drew (S := SB w1) (by kernel_rfl) (bdrew _) (fun bc => ?_)
  refine WA.start (n := 10) (by kernel_rfl) ?_
  refine WA.tl 0 rfl ?_
  refine WA.tl 1 rfl ?_
  refine WA.tl 3 rfl ?_
  refine WA.tl 4 rfl ?_
  refine WA.gen2 (i := 6) (s := 9) (i' := 7) (s' := 10) undef undef (Pt w1 [.bool false, .slice none 0 0, .bool false, .slice none 0 0, .bool false, .slice none 0 0] 74) (Pt w1 [.bool false, .slice none 0 0, .bool false, .slice none 0 0, .bool false, .slice none 0 0] 74) (fun b b' x x' hz hy hn => ?_)
  simp only [Act.put, List.setIfInBounds_toArray, List.set_cons_zero, List.set_cons_succ]
  replace hz := P2.mk hz hy hn
  clear hy hn
  revert b b' x x'
  refine WA.two 10 27 2 6 7 rfl rfl rfl bc ?_
  clear bc
  intro b b' x x' w' hz bx bc K hK
  clear bx
  simp only [List.getElem_toArray, List.getElem_cons_succ, List.getElem_cons_zero]
  go_simp
  go_fit (H1.out _)
  rintro e wn ⟨m1, a1, l1, c1, m2, a2, l2, c2, a3, l3, c3, X1, Y1, U1, rfl, sv1, bn⟩
  replace bc := Below.after bc bn
  try go_wp2_with fail
  refine hK.out _ _ bc (fun _ => ?_)
  replace hz := hz.below bn
  clear hK K bn
  revert b b' x x'
  refine WA.two 10 31 5 6 7 rfl rfl rfl bc ?_
  clear bc
  intro b b' x x' w' hz bx bc K hK
  replace sv1 := sv1.below bx
  clear bx
  simp only [List.getElem_toArray, List.getElem_cons_succ, List.getElem_cons_zero]
  go_simp
  go_fit (H2.out _)
  rintro e wn ⟨m4, a4, l4, c4, m5, a5, l5, c5, a6, l6, c6, X4, Y4, U4, rfl, sv4, bn⟩
  replace bc := Below.after bc bn
  try go_wp2_with fail
  refine hK.out _ _ bc (fun _ => ?_)
  replace hz := hz.below bn
  replace sv1 := sv1.below bn
  clear hK K bn
  revert b b' x x'
  refine WA.fin2 6 7 rfl rfl bc ?_
  clear bc
  intro x x' w' hz bx bc
  replace sv1 := sv1.below bx
  replace sv4 := sv4.below bx
  obtain ⟨g0, rfl, h0, k0⟩ := hz.p rfl
  obtain ⟨g1, rfl, h1, k1⟩ := hz.p' rfl
  have n01 : ¬ g0 = g1 := fun e => hz.ne rfl rfl (by rw [e])
  clear bx hz
  have e0_0 := cel6_0 k0
  have f0_0 := Cel.frozen k0 0
  have e0_1 := cel6_1 k0
  have f0_1 := Cel.frozen k0 1
  have e0_2 := cel6_2 k0
  have f0_2 := Cel.frozen k0 2
  have e0_3 := cel6_3 k0
  have f0_3 := Cel.frozen k0 3
  have e0_4 := cel6_4 k0
  have f0_4 := Cel.frozen k0 4
  have e0_5 := cel6_5 k0
  have f0_5 := Cel.frozen k0 5
  refine WA.call 8 rfl (fun K hK => ?_)
  simp only [List.getElem_toArray, List.getElem_cons_succ, List.getElem_cons_zero]
  go_simp
  try go_wp2_with fail
  clear e0_0 f0_0 e0_1 f0_1 e0_2 f0_2 e0_3 f0_3 e0_4 f0_4 e0_5 f0_5
  refine hK.out _ _ (bset (bset (bset (bset (bset (bset bc h0 0 (.bool m1)) h0 1 (.slice a1 l1 c1)) h0 2 (.bool m2)) h0 3 (.slice a2 l2 c2)) h0 4 (.bool false)) h0 5 (.slice a3 l3 c3)) (fun hS => ?_)
  clear hK K
  replace sv1 := sv1.set6 k0 (.bool m1) (.slice a1 l1 c1) (.bool m2) (.slice a2 l2 c2) (.bool false) (.slice a3 l3 c3)
  replace sv4 := sv4.set6 k0 (.bool m1) (.slice a1 l1 c1) (.bool m2) (.slice a2 l2 c2) (.bool false) (.slice a3 l3 c3)
  replace k0 := (Cel.set (Cel.set (Cel.set (Cel.set (Cel.set (Cel.set k0 0 (.bool m1)) 1 (.slice a1 l1 c1)) 2 (.bool m2)) 3 (.slice a2 l2 c2)) 4 (.bool false)) 5 (.slice a3 l3 c3))
  replace k1 := (Cel.other (Cel.other (Cel.other (Cel.other (Cel.other (Cel.other k1 (fun e => n01 e.symm) 0 (.bool m1)) (fun e => n01 e.symm) 1 (.slice a1 l1 c1)) (fun e => n01 e.symm) 2 (.bool m2)) (fun e => n01 e.symm) 3 (.slice a2 l2 c2)) (fun e => n01 e.symm) 4 (.bool false)) (fun e => n01 e.symm) 5 (.slice a3 l3 c3))
  replace bc := (bset (bset (bset (bset (bset (bset bc h0 0 (.bool m1)) h0 1 (.slice a1 l1 c1)) h0 2 (.bool m2)) h0 3 (.slice a2 l2 c2)) h0 4 (.bool false)) h0 5 (.slice a3 l3 c3))
  have e1_0 := cel6_0 k1
  have f1_0 := Cel.frozen k1 0
  have e1_1 := cel6_1 k1
  have f1_1 := Cel.frozen k1 1
  have e1_2 := cel6_2 k1
  have f1_2 := Cel.frozen k1 2
  have e1_3 := cel6_3 k1
  have f1_3 := Cel.frozen k1 3
  have e1_4 := cel6_4 k1
  have f1_4 := Cel.frozen k1 4
  have e1_5 := cel6_5 k1
  have f1_5 := Cel.frozen k1 5
  refine WA.call 9 rfl (fun K hK => ?_)
  simp only [List.getElem_toArray, List.getElem_cons_succ, List.getElem_cons_zero]
  go_simp
  try go_wp2_with fail
  clear e1_0 f1_0 e1_1 f1_1 e1_2 f1_2 e1_3 f1_3 e1_4 f1_4 e1_5 f1_5
  refine hK.out _ _ (bset (bset (bset (bset (bset (bset bc h1 0 (.bool m4)) h1 1 (.slice a4 l4 c4)) h1 2 (.bool m5)) h1 3 (.slice a5 l5 c5)) h1 4 (.bool false)) h1 5 (.slice a6 l6 c6)) (fun hS => ?_)
  clear hK K
  replace sv1 := sv1.set6 k1 (.bool m4) (.slice a4 l4 c4) (.bool m5) (.slice a5 l5 c5) (.bool false) (.slice a6 l6 c6)
  replace sv4 := sv4.set6 k1 (.bool m4) (.slice a4 l4 c4) (.bool m5) (.slice a5 l5 c5) (.bool false) (.slice a6 l6 c6)
  replace k0 := (Cel.other (Cel.other (Cel.other (Cel.other (Cel.other (Cel.other k0 n01 0 (.bool m4)) n01 1 (.slice a4 l4 c4)) n01 2 (.bool m5)) n01 3 (.slice a5 l5 c5)) n01 4 (.bool false)) n01 5 (.slice a6 l6 c6))
  replace k1 := (Cel.set (Cel.set (Cel.set (Cel.set (Cel.set (Cel.set k1 0 (.bool m4)) 1 (.slice a4 l4 c4)) 2 (.bool m5)) 3 (.slice a5 l5 c5)) 4 (.bool false)) 5 (.slice a6 l6 c6))
  replace bc := (bset (bset (bset (bset (bset (bset bc h1 0 (.bool m4)) h1 1 (.slice a4 l4 c4)) h1 2 (.bool m5)) h1 3 (.slice a5 l5 c5)) h1 4 (.bool false)) h1 5 (.slice a6 l6 c6))
  refine WA.done (by kernel_rfl) ?_
  go_wp2_with fail
  go_meet
  exact ⟨_, _, m1, a1, l1, c1, m2, a2, l2, c2, a3, l3, c3, X1, Y1, U1, m4, a4, l4, c4, m5, a5, l5, c5, a6, l6, c6, X4, Y4, U4, rfl, rfl, h0, h1, k0, k1, sv1, sv4, bc⟩
 case rest =>
 obtain ⟨gu, gv, m1, a1, l1, c1, m2, a2, l2, c2, a3, l3, c3, X1, Y1, U1, m4, a4, l4, c4, m5, a5, l5, c5, a6, l6, c6, X4, Y4, U4, rfl, rfl, lu, lv, ku, kv, sv1, sv4, b1⟩ := hcut
 clear mk
 have sz := b1.size
 replace ka := ka.below b1
 replace kb := kb.below b1
 replace kc := kc.below b1
 replace kr := kr.below b1
 replace bb := Below.after bb b1
 clear b1
 have tu := ku.lt
 have tv := kv.lt
 obtain ⟨cu_0, cu_1, cu_2, cu_3, cu_4, cu_5⟩ := xk6 ku
 obtain ⟨cv_6, cv_7, cv_8, cv_9, cv_10, cv_11⟩ := xk6 kv
 go_wp2_with fail
 clear cu_0 cu_1 cu_2 cu_3 cu_4 cu_5 cv_6 cv_7 cv_8 cv_9 cv_10 cv_11
 go_fit (sdot_any _ _ _ _ _ _ _ _ _ _ _ _ _ _ _ _ _ _ _ _ _ _ _ _ X1 Y1 X4 Y4 53 _ (by omega) sv1.1 sv1.2.1 sv4.1 sv4.2.1)
 rintro e w2 ⟨m7, v7, rfl, nv7, b1⟩
 obtain ⟨a7, l7, c7, rfl⟩ := nv7.slice
 replace ka := ka.below b1
 replace kb := kb.below b1
 replace kc := kc.below b1
 replace kr := kr.below b1
 replace ku := ku.below b1
 replace kv := kv.below b1
 replace sv1 := sv1.below b1
 replace sv4 := sv4.below b1
 replace bb := Below.after bb b1
 clear b1
 go_wp2_with fail
 go_fit (nsign_any _ _ (X1 * X4 + Y1 * Y4) (53 + 53 + 1) _ nv7)
 rintro e w3 ⟨rfl, b1⟩
 clear nv7
 replace ka := ka.below b1
 replace kb := kb.below b1
 replace kc := kc.below b1
 replace kr := kr.below b1
 replace ku := ku.below b1
 replace kv := kv.below b1
 replace sv1 := sv1.below b1
 replace sv4 := sv4.below b1
 replace bb := Below.after bb b1
 clear b1
 rw [Gm.dot_sign sv1.2.2.2 sv4.2.2.2]
 obtain ⟨nx, ny, -, hw1⟩ := sv1
 clear sv4
 go_wp2_with fail
 have mkS : Hid (∀ w', Cel w' (gu) [.bool m1, .slice a1 l1 c1, .bool m2, .slice a2 l2 c2, .bool false, .slice a3 l3 c3] 74 → Cel w' (w.heap.size + 1) [.bool n2, .string s2, .string d2, .bool n3, .string s3, .string d3] 28 → Cel w' (w.heap.size + 1 + 1) [.bool n4, .string s4, .string d4, .bool n5, .string s5, .string d5] 28 → (xc6 w' gu (.bool m1) (.slice a1 l1 c1) (.bool m2) (.slice a2 l2 c2) (.bool false) (.slice a3 l3 c3) ∧ xc6 w' (w.heap.size + 1) (.bool n2) (.string s2) (.string d2) (.bool n3) (.string s3) (.string d3) ∧ xc6 w' (w.heap.size + 1 + 1) (.bool n4) (.string s4) (.string d4) (.bool n5) (.string s5) (.string d5))) := fun w' hu hb hc => ⟨xk6 hu, xk6 hb, xk6 hc⟩
 go_region_held3 (fun w' => xc6 w' gu (.bool m1) (.slice a1 l1 c1) (.bool m2) (.slice a2 l2 c2) (.bool false) (.slice a3 l3 c3) ∧ xc6 w' (w.heap.size + 1) (.bool n2) (.string s2) (.string d2) (.bool n3) (.string s3) (.string d3) ∧ xc6 w' (w.heap.size + 1 + 1) (.bool n4) (.string s4) (.string d4) (.bool n5) (.string s5) (.string d5)) (first | with_reducible exact mkS.out _ ku kb kc | exact mkS.out _ ku kb kc) (first | (go_at_call 70; go_fit (H3.out _); rintro e wn ⟨m20, a20, l20, c20, m21, a21, l21, c21, a22, l22, c22, X9, Y9, U9, rfl, nv20, nv21, nv22, hw9, bn⟩; replace ku := ku.below (un bn); replace kv := kv.below (un bn); replace ka := ka.below (un bn); replace kb := kb.below (un bn); replace kc := kc.below (un bn); replace kr := kr.below (un bn); (try replace nx := nx.below (un bn)); (try replace ny := ny.below (un bn)); (try replace nv8 := nv8.below (un bn)); replace bb := Below.after bb (un bn)) | (go_at_call 71; go_fit (sdot_any _ _ _ _ _ _ _ _ _ _ _ _ _ _ _ _ _ _ _ _ _ _ _ _ X1 Y1 X9 Y9 53 _ (by omega) ?_ ?_ ?_ ?_); (first | exact nx | exact nx.drew); (first | exact ny | exact ny.drew); (first | exact nv20 | exact nv20.drew); (first | exact nv21 | exact nv21.drew); rintro e wn ⟨m8, v8, rfl, nv8, bn⟩; obtain ⟨a8, l8, c8, rfl⟩ := nv8.slice; replace ku := ku.below (un bn); replace kv := kv.below (un bn); replace ka := ka.below (un bn); replace kb := kb.below (un bn); replace kc := kc.below (un bn); replace kr := kr.below (un bn); (try replace nx := nx.below (un bn)); (try replace ny := ny.below (un bn)); (try replace nv20 := nv20.below (un bn)); (try replace nv21 := nv21.below (un bn)); replace bb := Below.after bb (un bn)) | (go_at_call 72; go_fit (nsign_any _ _ (X1 * X9 + Y1 * Y9) (53 + 53 + 1) _ ?_); (first | exact nv8 | exact nv8.drew); rintro e wn ⟨rfl, bn⟩; replace ku := ku.below (un bn); replace kv := kv.below (un bn); replace ka := ka.below (un bn); replace kb := kb.below (un bn); replace kc := kc.below (un bn); replace kr := kr.below (un bn); (try replace nx := nx.below (un bn)); (try replace ny := ny.below (un bn)); (try replace nv20 := nv20.below (un bn)); (try replace nv21 := nv21.below (un bn)); (try replace nv8 := nv8.below (un bn)); replace bb := Below.after bb (un bn)))
 have hz : (0 : Int) ≤ X1 * X9 + Y1 * Y9 := Int.sign_nonneg_iff.1 (by rw [Gm.dot_sign hw1 hw9]; exact hb)
 obtain ⟨cb_0, cb_1, cb_2, cb_3, cb_4, cb_5⟩ := xk6 kb
 obtain ⟨cc_6, cc_7, cc_8, cc_9, cc_10, cc_11⟩ := xk6 kc
 go_wp2_with fail
 clear cb_0 cb_1 cb_2 cb_3 cb_4 cb_5 cc_6 cc_7 cc_8 cc_9 cc_10 cc_11
 go_fit (HF.out _ bb)
 rintro e wz ⟨rfl, b1⟩
 replace kr := kr.below b1
 replace bb := Below.after bb b1
 clear b1
 have e0 := cel3_0 kr
 have f0 := Cel.frozen kr 0
 have e1 := cel3_1 kr
 have f1 := Cel.frozen kr 1
 have e2 := cel3_2 kr
 have f2 := Cel.frozen kr 2
 go_wp2
 exact post_q1 (p := 6) (u := 7) (v := .int .i64 0) (by kernel_rfl) rfl rfl rfl (((kr.set 0 _).set 1 _).set 2 _) ⟨rfl, bset (bset (bset bb (by omega) 0 _) (by omega) 1 _) (by omega) 2 _⟩
theorem rshort_walk (n0 n1 n2 n3 n4 n5 : Bool) (s0 d0 s1 d1 s2 d2 s3 d3 s4 d4 s5 d5 : ByteArray) (xN : Bool) (xS xD : ByteArray) (yN : Bool) (yS yD : ByteArray) (zN : Bool) (zS zD : ByteArray) (eN : Bool) (eS eD : ByteArray) (rN : Bool) (rS rD : ByteArray) (w : World)
  (F1 : Hid (∀ w1, Below w.heap.size w w1 → Calls Tryz.prog 25 #[.agg #[.bool n0, .string s0, .string d0, .bool n1, .string s1, .string d1], .agg #[.bool n2, .string s2, .string d2, .bool n3, .string s3, .string d3]] w1 (Re w1 (.agg #[.bool xN, .string xS, .string xD]))))
  (F2 : Hid (∀ w1, Below w.heap.size w w1 → Calls Tryz.prog 25 #[.agg #[.bool n2, .string s2, .string d2, .bool n3, .string s3, .string d3], .agg #[.bool n4, .string s4, .string d4, .bool n5, .string s5, .string d5]] w1 (Re w1 (.agg #[.bool yN, .string yS, .string yD]))))
  (F3 : Hid (∀ w1, Below w.heap.size w w1 → Calls Tryz.prog 25 #[.agg #[.bool n4, .string s4, .string d4, .bool n5, .string s5, .string d5], .agg #[.bool n0, .string s0, .string d0, .bool n1, .string s1, .string d1]] w1 (Re w1 (.agg #[.bool zN, .string zS, .string zD]))))
  (L1 : Hid (∀ w1, Below w.heap.size w w1 → Calls Tryz.prog 117 #[.agg #[.bool yN, .string yS, .string yD], .agg #[.bool zN, .string zS, .string zD]] w1 (Re w1 (.agg #[.bool eN, .string eS, .string eD]))))
  (L2 : Hid (∀ w1, Below w.heap.size w w1 → Calls Tryz.prog 117 #[.agg #[.bool xN, .string xS, .string xD], .agg #[.bool eN, .string eS, .string eD]] w1 (Re w1 (.agg #[.bool rN, .string rS, .string rD])))) :
  Calls Tryz.prog 82 #[.agg #[.bool n0, .string s0, .string d0, .bool n1, .string s1, .string d1], .agg #[.bool n2, .string s2, .string d2, .bool n3, .string s3, .string d3], .agg #[.bool n4, .string s4, .string d4, .bool n5, .string s5, .string d5]] w (Re w (.agg #[.bool rN, .string rS, .string rD])) := by
 go_enter Tryz.func82, Tryz.ntmps82
 go_wp2_with fail
 obtain ⟨w1, hw, ka, kb, kc, kr, bb⟩ := mk4 w [.bool n0, .string s0, .string d0, .bool n1, .string s1, .string d1] [.bool n2, .string s2, .string d2, .bool n3, .string s3, .string d3] [.bool n4, .string s4, .string d4, .bool n5, .string s5, .string d5] [.bool false, .string { data := #[] }, .string { data := #[] }] 28 28 28 26
 rw [← hw]
 clear hw
 have tr := kr.lt
 have bd := bdrew w1
 replace ka := ka.below bd
 replace kb := kb.below bd
 replace kc := kc.below bd
 replace kr := kr.below bd
 replace bb := Below.after bb bd
 clear bd
 refine wp_region_held_drew (S := fun w' => xc6 w' w.heap.size (.bool n0) (.string s0) (.string d0) (.bool n1) (.string s1) (.string d1) ∧ xc6 w' (w.heap.size + 1) (.bool n2) (.string s2) (.string d2) (.bool n3) (.string s3) (.string d3) ∧ xc6 w' (w.heap.size + 1 + 1) (.bool n4) (.string s4) (.string d4) (.bool n5) (.string s5) (.string d5)) (by kernel_rfl) ⟨xk6 ka, xk6 kb, xk6 kc⟩ (fun hS => ?_)
 refine WA.start (n := 12) (by kernel_rfl) ?_
 refine WA.tp 0 rfl ?_
 refine WA.tp 1 rfl ?_
 refine WA.tp 3 rfl ?_
 refine WA.tp 4 rfl ?_
 refine WA.tp 6 rfl ?_
 refine WA.tp 7 rfl ?_
 refine WA.cal 2 rfl (fun K hK => ?_)
 simp only [List.getElem_toArray, List.getElem_cons_succ, List.getElem_cons_zero]
 go_simp
 go_fit (F1.out _ bb)
 rintro e wn ⟨rfl, bn⟩
 replace ka := ka.below bn
 replace kb := kb.below bn
 replace kc := kc.below bn
 replace kr := kr.below bn
 replace bb := Below.after bb bn
 try go_wp2_with fail
 clear hS
 refine hK.out _ _ ⟨xk6 ka, xk6 kb, xk6 kc⟩ (fun hS => ?_)
 clear hK K bn
 refine WA.cal 5 rfl (fun K hK => ?_)
 simp only [List.getElem_toArray, List.getElem_cons_succ, List.getElem_cons_zero]
 go_simp
 go_fit (F2.out _ bb)
 rintro e wn ⟨rfl, bn⟩
 replace ka := ka.below bn
 replace kb := kb.below bn
 replace kc := kc.below bn
 replace kr := kr.below bn
 replace bb := Below.after bb bn
 try go_wp2_with fail
 clear hS
 refine hK.out _ _ ⟨xk6 ka, xk6 kb, xk6 kc⟩ (fun hS => ?_)
 clear hK K bn
 refine WA.cal 8 rfl (fun K hK => ?_)
 simp only [List.getElem_toArray, List.getElem_cons_succ, List.getElem_cons_zero]
 go_simp
 go_fit (F3.out _ bb)
 rintro e wn ⟨rfl, bn⟩
 replace ka := ka.below bn
 replace kb := kb.below bn
 replace kc := kc.below bn
 replace kr := kr.below bn
 replace bb := Below.after bb bn
 try go_wp2_with fail
 clear hS
 refine hK.out _ _ ⟨xk6 ka, xk6 kb, xk6 kc⟩ (fun hS => ?_)
 clear hK K bn
 refine WA.cal 9 rfl (fun K hK => ?_)
 simp only [List.getElem_toArray, List.getElem_cons_succ, List.getElem_cons_zero]
 go_simp
 go_fit (L1.out _ bb)
 rintro e wn ⟨rfl, bn⟩
 replace ka := ka.below bn
 replace kb := kb.below bn
 replace kc := kc.below bn
 replace kr := kr.below bn
 replace bb := Below.after bb bn
 try go_wp2_with fail
 clear hS
 refine hK.out _ _ ⟨xk6 ka, xk6 kb, xk6 kc⟩ (fun hS => ?_)
 clear hK K bn
 refine WA.cal 10 rfl (fun K hK => ?_)
 simp only [List.getElem_toArray, List.getElem_cons_succ, List.getElem_cons_zero]
 go_simp
 go_fit (L2.out _ bb)
 rintro e wn ⟨rfl, bn⟩
 replace ka := ka.below bn
 replace kb := kb.below bn
 replace kc := kc.below bn
 replace kr := kr.below bn
 replace bb := Below.after bb bn
 try go_wp2_with fail
 clear hS
 refine hK.out _ _ ⟨xk6 ka, xk6 kb, xk6 kc⟩ (fun hS => ?_)
 clear hK K bn
 obtain ⟨e0, e1, e2⟩ := xk3 kr
 have f0 := Cel.frozen kr 0
 have f1 := Cel.frozen kr 1
 have f2 := Cel.frozen kr 2
 refine WA.cal 11 rfl (fun K hK => ?_)
 simp only [List.getElem_toArray, List.getElem_cons_succ, List.getElem_cons_zero]
 go_simp
 try go_wp2_with fail
 clear e0 f0 e1 f1 e2 f2
 clear hS
 refine hK.out _ _ ⟨xk6 (ka.oth3 (by omega) _ _ _), xk6 (kb.oth3 (by omega) _ _ _), xk6 (kc.oth3 (by omega) _ _ _)⟩ (fun hS => ?_)
 clear hK K
 refine WA.done (by kernel_rfl) ?_
 clear hS
 go_wp2_with fail
 exact post_q (p := 6) (by kernel_rfl) rfl rfl (((kr.set 0 _).set 1 _).set 2 _) ⟨rfl, bset (bset (bset bb (by omega) 0 _) (by omega) 1 _) (by omega) 2 _⟩
theorem rratio_walk (n0 n1 n2 n3 n4 n5 : Bool) (s0 d0 s1 d1 s2 d2 s3 d3 s4 d4 s5 d5 : ByteArray) (p0 p3 : Bool) (p1 p2 p4 p5 : ByteArray) (xN : Bool) (xS xD : ByteArray) (yN : Bool) (yS yD : ByteArray) (rN : Bool) (rS rD : ByteArray) (w : World)
  (CE : Hid (∀ w1, Below w.heap.size w w1 → Calls Tryz.prog 27 #[.agg #[.bool n0, .string s0, .string d0, .bool n1, .string s1, .string d1], .agg #[.bool n2, .string s2, .string d2, .bool n3, .string s3, .string d3], .agg #[.bool n4, .string s4, .string d4, .bool n5, .string s5, .string d5]] w1 (Re w1 (.agg #[.bool p0, .string p1, .string p2, .bool p3, .string p4, .string p5]))))
  (FR : Hid (∀ w1, Below w.heap.size w w1 → Calls Tryz.prog 25 #[.agg #[.bool p0, .string p1, .string p2, .bool p3, .string p4, .string p5], .agg #[.bool n0, .string s0, .string d0, .bool n1, .string s1, .string d1]] w1 (Re w1 (.agg #[.bool xN, .string xS, .string xD]))))
  (SH : Hid (∀ w1, Below w.heap.size w w1 → Calls Tryz.prog 82 #[.agg #[.bool n0, .string s0, .string d0, .bool n1, .string s1, .string d1], .agg #[.bool n2, .string s2, .string d2, .bool n3, .string s3, .string d3], .agg #[.bool n4, .string s4, .string d4, .bool n5, .string s5, .string d5]] w1 (Re w1 (.agg #[.bool yN, .string yS, .string yD]))))
  (OV : Hid (∀ w1, Below w.heap.size w w1 → Calls Tryz.prog 67 #[.agg #[.bool xN, .string xS, .string xD], .agg #[.bool yN, .string yS, .string yD]] w1 (Re w1 (.agg #[.bool rN, .string rS, .string rD])))) :
  Calls Tryz.prog 33 #[.agg #[.bool n0, .string s0, .string d0, .bool n1, .string s1, .string d1], .agg #[.bool n2, .string s2, .string d2, .bool n3, .string s3, .string d3], .agg #[.bool n4, .string s4, .string d4, .bool n5, .string s5, .string d5]] w (Re w (.agg #[.bool rN, .string rS, .string rD])) := by
 go_enter Tryz.func33, Tryz.ntmps33
 go_wp2_with fail
 obtain ⟨w1, hw, ka, kb, kc, kr, bb⟩ := mk4 w [.bool n0, .string s0, .string d0, .bool n1, .string s1, .string d1] [.bool n2, .string s2, .string d2, .bool n3, .string s3, .string d3] [.bool n4, .string s4, .string d4, .bool n5, .string s5, .string d5] [.bool false, .string { data := #[] }, .string { data := #[] }] 28 28 28 26
 rw [← hw]
 clear hw
 have tr := kr.lt
 have bd := bdrew w1
 replace ka := ka.below bd
 replace kb := kb.below bd
 replace kc := kc.below bd
 replace kr := kr.below bd
 replace bb := Below.after bb bd
 clear bd
 refine wp_region_held_drew (S := fun w' => xc6 w' w.heap.size (.bool n0) (.string s0) (.string d0) (.bool n1) (.string s1) (.string d1) ∧ xc6 w' (w.heap.size + 1) (.bool n2) (.string s2) (.string d2) (.bool n3) (.string s3) (.string d3) ∧ xc6 w' (w.heap.size + 1 + 1) (.bool n4) (.string s4) (.string d4) (.bool n5) (.string s5) (.string d5)) (by kernel_rfl) ⟨xk6 ka, xk6 kb, xk6 kc⟩ (fun hS => ?_)
 refine WA.start (n := 12) (by kernel_rfl) ?_
 refine WA.tp 0 rfl ?_
 refine WA.tp 1 rfl ?_
 refine WA.tp 2 rfl ?_
 refine WA.tp 4 rfl ?_
 refine WA.tp 6 rfl ?_
 refine WA.tp 7 rfl ?_
 refine WA.tp 8 rfl ?_
 refine WA.cal 3 rfl (fun K hK => ?_)
 simp only [List.getElem_toArray, List.getElem_cons_succ, List.getElem_cons_zero]
 go_simp
 go_fit (CE.out _ bb)
 rintro e wn ⟨rfl, bn⟩
 replace ka := ka.below bn
 replace kb := kb.below bn
 replace kc := kc.below bn
 replace kr := kr.below bn
 replace bb := Below.after bb bn
 try go_wp2_with fail
 clear hS
 refine hK.out _ _ ⟨xk6 ka, xk6 kb, xk6 kc⟩ (fun hS => ?_)
 clear hK K bn
 refine WA.cal 5 rfl (fun K hK => ?_)
 simp only [List.getElem_toArray, List.getElem_cons_succ, List.getElem_cons_zero]
 go_simp
 go_fit (FR.out _ bb)
 rintro e wn ⟨rfl, bn⟩
 replace ka := ka.below bn
 replace kb := kb.below bn
 replace kc := kc.below bn
 replace kr := kr.below bn
 replace bb := Below.after bb bn
 try go_wp2_with fail
 clear hS
 refine hK.out _ _ ⟨xk6 ka, xk6 kb, xk6 kc⟩ (fun hS => ?_)
 clear hK K bn
 refine WA.cal 9 rfl (fun K hK => ?_)
 simp only [List.getElem_toArray, List.getElem_cons_succ, List.getElem_cons_zero]
 go_simp
 go_fit (SH.out _ bb)
 rintro e wn ⟨rfl, bn⟩
 replace ka := ka.below bn
 replace kb := kb.below bn
 replace kc := kc.below bn
 replace kr := kr.below bn
 replace bb := Below.after bb bn
 try go_wp2_with fail
 clear hS
 refine hK.out _ _ ⟨xk6 ka, xk6 kb, xk6 kc⟩ (fun hS => ?_)
 clear hK K bn
 refine WA.cal 10 rfl (fun K hK => ?_)
 simp only [List.getElem_toArray, List.getElem_cons_succ, List.getElem_cons_zero]
 go_simp
 go_fit (OV.out _ bb)
 rintro e wn ⟨rfl, bn⟩
 replace ka := ka.below bn
 replace kb := kb.below bn
 replace kc := kc.below bn
 replace kr := kr.below bn
 replace bb := Below.after bb bn
 try go_wp2_with fail
 clear hS
 refine hK.out _ _ ⟨xk6 ka, xk6 kb, xk6 kc⟩ (fun hS => ?_)
 clear hK K bn
 obtain ⟨e0, e1, e2⟩ := xk3 kr
 have f0 := Cel.frozen kr 0
 have f1 := Cel.frozen kr 1
 have f2 := Cel.frozen kr 2
 refine WA.cal 11 rfl (fun K hK => ?_)
 simp only [List.getElem_toArray, List.getElem_cons_succ, List.getElem_cons_zero]
 go_simp
 try go_wp2_with fail
 clear e0 f0 e1 f1 e2 f2
 clear hS
 refine hK.out _ _ ⟨xk6 (ka.oth3 (by omega) _ _ _), xk6 (kb.oth3 (by omega) _ _ _), xk6 (kc.oth3 (by omega) _ _ _)⟩ (fun hS => ?_)
 clear hK K
 refine WA.done (by kernel_rfl) ?_
 clear hS
 go_wp2_with fail
 exact post_q (p := 6) (by kernel_rfl) rfl rfl (((kr.set 0 _).set 1 _).set 2 _) ⟨rfl, bset (bset (bset bb (by omega) 0 _) (by omega) 1 _) (by omega) 2 _⟩
theorem rarea_walk (n0 n1 n2 n3 n4 n5 : Bool) (s0 d0 s1 d1 s2 d2 s3 d3 s4 d4 s5 d5 : ByteArray) (u0 u3 : Bool) (u1 u2 u4 u5 : ByteArray) (v0 v3 : Bool) (v1 v2 v4 v5 : ByteArray) (rN : Bool) (rS rD : ByteArray) (w : World)
  (M1 : Hid (∀ w1, Below w.heap.size w w1 → Calls Tryz.prog 37 #[.agg #[.bool n2, .string s2, .string d2, .bool n3, .string s3, .string d3], .agg #[.bool n0, .string s0, .string d0, .bool n1, .string s1, .string d1]] w1 (Re w1 (.agg #[.bool u0, .string u1, .string u2, .bool u3, .string u4, .string u5]))))
  (M2 : Hid (∀ w1, Below w.heap.size w w1 → Calls Tryz.prog 37 #[.agg #[.bool n4, .string s4, .string d4, .bool n5, .string s5, .string d5], .agg #[.bool n0, .string s0, .string d0, .bool n1, .string s1, .string d1]] w1 (Re w1 (.agg #[.bool v0, .string v1, .string v2, .bool v3, .string v4, .string v5]))))
  (CR : Hid (∀ w1, Below w.heap.size w w1 → Calls Tryz.prog 65 #[.agg #[.bool u0, .string u1, .string u2, .bool u3, .string u4, .string u5], .agg #[.bool v0, .string v1, .string v2, .bool v3, .string v4, .string v5]] w1 (Re w1 (.agg #[.bool rN, .string rS, .string rD])))) :
  Calls Tryz.prog 31 #[.agg #[.bool n0, .string s0, .string d0, .bool n1, .string s1, .string d1], .agg #[.bool n2, .string s2, .string d2, .bool n3, .string s3, .string d3], .agg #[.bool n4, .string s4, .string d4, .bool n5, .string s5, .string d5]] w (Re w (.agg #[.bool rN, .string rS, .string rD])) := by
 go_enter Tryz.func31, Tryz.ntmps31
 go_wp2_with fail
 obtain ⟨w1, hw, ka, kb, kc, kr, bb⟩ := mk4 w [.bool n0, .string s0, .string d0, .bool n1, .string s1, .string d1] [.bool n2, .string s2, .string d2, .bool n3, .string s3, .string d3] [.bool n4, .string s4, .string d4, .bool n5, .string s5, .string d5] [.bool false, .string { data := #[] }, .string { data := #[] }] 28 28 28 26
 rw [← hw]
 clear hw
 have tr := kr.lt
 have bd := bdrew w1
 replace ka := ka.below bd
 replace kb := kb.below bd
 replace kc := kc.below bd
 replace kr := kr.below bd
 replace bb := Below.after bb bd
 clear bd
 refine wp_region_held_drew (S := fun w' => xc6 w' w.heap.size (.bool n0) (.string s0) (.string d0) (.bool n1) (.string s1) (.string d1) ∧ xc6 w' (w.heap.size + 1) (.bool n2) (.string s2) (.string d2) (.bool n3) (.string s3) (.string d3) ∧ xc6 w' (w.heap.size + 1 + 1) (.bool n4) (.string s4) (.string d4) (.bool n5) (.string s5) (.string d5)) (by kernel_rfl) ⟨xk6 ka, xk6 kb, xk6 kc⟩ (fun hS => ?_)
 refine WA.start (n := 8) (by kernel_rfl) ?_
 refine WA.tp 0 rfl ?_
 refine WA.tp 1 rfl ?_
 refine WA.tp 3 rfl ?_
 refine WA.tp 4 rfl ?_
 refine WA.cal 2 rfl (fun K hK => ?_)
 simp only [List.getElem_toArray, List.getElem_cons_succ, List.getElem_cons_zero]
 go_simp
 go_fit (M1.out _ bb)
 rintro e wn ⟨rfl, bn⟩
 replace ka := ka.below bn
 replace kb := kb.below bn
 replace kc := kc.below bn
 replace kr := kr.below bn
 replace bb := Below.after bb bn
 try go_wp2_with fail
 clear hS
 refine hK.out _ _ ⟨xk6 ka, xk6 kb, xk6 kc⟩ (fun hS => ?_)
 clear hK K bn
 refine WA.cal 5 rfl (fun K hK => ?_)
 simp only [List.getElem_toArray, List.getElem_cons_succ, List.getElem_cons_zero]
 go_simp
 go_fit (M2.out _ bb)
 rintro e wn ⟨rfl, bn⟩
 replace ka := ka.below bn
 replace kb := kb.below bn
 replace kc := kc.below bn
 replace kr := kr.below bn
 replace bb := Below.after bb bn
 try go_wp2_with fail
 clear hS
 refine hK.out _ _ ⟨xk6 ka, xk6 kb, xk6 kc⟩ (fun hS => ?_)
 clear hK K bn
 refine WA.cal 6 rfl (fun K hK => ?_)
 simp only [List.getElem_toArray, List.getElem_cons_succ, List.getElem_cons_zero]
 go_simp
 go_fit (CR.out _ bb)
 rintro e wn ⟨rfl, bn⟩
 replace ka := ka.below bn
 replace kb := kb.below bn
 replace kc := kc.below bn
 replace kr := kr.below bn
 replace bb := Below.after bb bn
 try go_wp2_with fail
 clear hS
 refine hK.out _ _ ⟨xk6 ka, xk6 kb, xk6 kc⟩ (fun hS => ?_)
 clear hK K bn
 obtain ⟨e0, e1, e2⟩ := xk3 kr
 have f0 := Cel.frozen kr 0
 have f1 := Cel.frozen kr 1
 have f2 := Cel.frozen kr 2
 refine WA.cal 7 rfl (fun K hK => ?_)
 simp only [List.getElem_toArray, List.getElem_cons_succ, List.getElem_cons_zero]
 go_simp
 try go_wp2_with fail
 clear e0 f0 e1 f1 e2 f2
 clear hS
 refine hK.out _ _ ⟨xk6 (ka.oth3 (by omega) _ _ _), xk6 (kb.oth3 (by omega) _ _ _), xk6 (kc.oth3 (by omega) _ _ _)⟩ (fun hS => ?_)
 clear hK K
 refine WA.done (by kernel_rfl) ?_
 clear hS
 go_wp2_with fail
 exact post_q (p := 6) (by kernel_rfl) rfl rfl (((kr.set 0 _).set 1 _).set 2 _) ⟨rfl, bset (bset (bset bb (by omega) 0 _) (by omega) 1 _) (by omega) 2 _⟩
theorem shapes6_l (n0 n1 n2 n3 n4 n5 : Bool) (s0 d0 s1 d1 s2 d2 s3 d3 s4 d4 s5 d5 : ByteArray) (w : World)
  (HS : Hid (∀ w1, Calls Tryz.prog 18 #[.agg #[.bool n0, .string s0, .string d0, .bool n1, .string s1, .string d1, .bool n2, .string s2, .string d2, .bool n3, .string s3, .string d3, .bool n4, .string s4, .string d4, .bool n5, .string s5, .string d5]] w1 (Re w1 (.bool false))))
  (HL : Hid (∀ w1, Below w.heap.size w w1 → Calls Tryz.prog 19 #[] w1 (Re w1 (.bool true)))) :
  Calls Tryz.prog 5 #[.agg #[.bool n0, .string s0, .string d0, .bool n1, .string s1, .string d1, .bool n2, .string s2, .string d2, .bool n3, .string s3, .string d3, .bool n4, .string s4, .string d4, .bool n5, .string s5, .string d5]] w (Re w (.bool true)) := by
 go_enter Tryz.func5, Tryz.ntmps5
 go_wp2_with (first | (refine wpList_load_row rfl 45 _ rfl w.heap.size rfl 45 _ (0, 0) _ (Cel.new w [.bool n0, .string s0, .string d0, .bool n1, .string s1, .string d1, .bool n2, .string s2, .string d2, .bool n3, .string s3, .string d3, .bool n4, .string s4, .string d4, .bool n5, .string s5, .string d5] 45) Tryz.underlying45 rfl (by kernel_rfl) ?_) | fail)
 go_wp2_with fail
 go_fit (HS.out _)
 rintro e w1 ⟨rfl, b1⟩
 obtain ⟨kt, bb⟩ := al1 b1
 clear b1
 go_wp2_with fail
 go_fit (HL.out _ bb)
 rintro e w2 ⟨rfl, b1⟩
 replace kt := kt.below b1
 replace bb := Below.after bb b1
 clear b1
 go_wp2
 go_ret
 exact ⟨rfl, bb⟩
theorem shapes6_a (n0 n1 n2 n3 n4 n5 : Bool) (s0 d0 s1 d1 s2 d2 s3 d3 s4 d4 s5 d5 : ByteArray) (E : Int) (w : World) (hE : ¬ E = 0)
  (HS : Hid (∀ w1, Calls Tryz.prog 18 #[.agg #[.bool n0, .string s0, .string d0, .bool n1, .string s1, .string d1, .bool n2, .string s2, .string d2, .bool n3, .string s3, .string d3, .bool n4, .string s4, .string d4, .bool n5, .string s5, .string d5]] w1 (Re w1 (.bool true))))
  (SH : Hid (∀ w1, Below w.heap.size w w1 → Calls Tryz.prog 28 #[.agg #[.bool n0, .string s0, .string d0, .bool n1, .string s1, .string d1], .agg #[.bool n2, .string s2, .string d2, .bool n3, .string s3, .string d3], .agg #[.bool n4, .string s4, .string d4, .bool n5, .string s5, .string d5]] w1 (Re w1 (.tuple #[.bool false, .int .i64 (E)]))))
  (AR : Hid (∀ w1, Below w.heap.size w w1 → Calls Tryz.prog 29 #[.agg #[.bool n0, .string s0, .string d0, .bool n1, .string s1, .string d1], .agg #[.bool n2, .string s2, .string d2, .bool n3, .string s3, .string d3], .agg #[.bool n4, .string s4, .string d4, .bool n5, .string s5, .string d5]] w1 (Re w1 (.tuple #[.agg #[.bool false, .string { data := #[] }, .string { data := #[] }], .int .i64 (E)]))))
  (RT : Hid (∀ w1, Below w.heap.size w w1 → Calls Tryz.prog 30 #[.agg #[.bool n0, .string s0, .string d0, .bool n1, .string s1, .string d1], .agg #[.bool n2, .string s2, .string d2, .bool n3, .string s3, .string d3], .agg #[.bool n4, .string s4, .string d4, .bool n5, .string s5, .string d5]] w1 (Re w1 (.tuple #[.agg #[.bool false, .string { data := #[] }, .string { data := #[] }], .int .i64 (E)]))))
  (HA : Hid (∀ w1, Below w.heap.size w w1 → Calls Tryz.prog 23 #[.agg #[.bool n0, .string s0, .string d0, .bool n1, .string s1, .string d1], .agg #[.bool n2, .string s2, .string d2, .bool n3, .string s3, .string d3], .agg #[.bool n4, .string s4, .string d4, .bool n5, .string s5, .string d5]] w1 (Re w1 (.int .i64 (E)))))
  (HL : Hid (∀ w1, Below w.heap.size w w1 → Calls Tryz.prog 19 #[] w1 (Re w1 (.bool true)))) :
  Calls Tryz.prog 5 #[.agg #[.bool n0, .string s0, .string d0, .bool n1, .string s1, .string d1, .bool n2, .string s2, .string d2, .bool n3, .string s3, .string d3, .bool n4, .string s4, .string d4, .bool n5, .string s5, .string d5]] w (Re w (.bool true)) := by
 go_enter Tryz.func5, Tryz.ntmps5
 go_wp2_with (first | (refine wpList_load_row rfl 45 _ rfl w.heap.size rfl 45 _ (0, 0) _ (Cel.new w [.bool n0, .string s0, .string d0, .bool n1, .string s1, .string d1, .bool n2, .string s2, .string d2, .bool n3, .string s3, .string d3, .bool n4, .string s4, .string d4, .bool n5, .string s5, .string d5] 45) Tryz.underlying45 rfl (by kernel_rfl) ?_) | fail)
 go_wp2_with fail
 go_fit (HS.out _)
 rintro e w1 ⟨rfl, b1⟩
 obtain ⟨kt, bb⟩ := al1 b1
 clear b1
 obtain ⟨c0, c1, c2, c3, c4, c5, c6, c7, c8, c9, c10, c11, c12, c13, c14, c15, c16, c17⟩ := c18 kt
 go_wp2_with fail
 go_fit (SH.out _ bb)
 rintro e w2 ⟨rfl, b1⟩
 replace kt := kt.below b1
 replace bb := Below.after bb b1
 clear b1
 clear c0 c1 c2 c3 c4 c5 c6 c7 c8 c9 c10 c11 c12 c13 c14 c15 c16 c17
 obtain ⟨c0, c1, c2, c3, c4, c5, c6, c7, c8, c9, c10, c11, c12, c13, c14, c15, c16, c17⟩ := c18 kt
 go_wp2_with fail
 go_fit (AR.out _ bb)
 rintro e w3 ⟨rfl, b1⟩
 replace kt := kt.below b1
 replace bb := Below.after bb b1
 clear b1
 clear c0 c1 c2 c3 c4 c5 c6 c7 c8 c9 c10 c11 c12 c13 c14 c15 c16 c17
 obtain ⟨c0, c1, c2, c3, c4, c5, c6, c7, c8, c9, c10, c11, c12, c13, c14, c15, c16, c17⟩ := c18 (kt.alloc (.cells #[.bool false, .string { data := #[] }, .string { data := #[] }] 26))
 go_wp2_with fail
 obtain ⟨x3, hw, ka, b1⟩ := mk1 w3 [.bool false, .string { data := #[] }, .string { data := #[] }] 26
 rw [← hw]
 clear hw c0 c1 c2 c3 c4 c5 c6 c7 c8 c9 c10 c11 c12 c13 c14 c15 c16 c17
 replace kt := kt.below b1
 replace bb := Below.after bb b1
 clear b1
 go_fit (RT.out _ bb)
 rintro e w4 ⟨rfl, b1⟩
 replace kt := kt.below b1
 replace ka := ka.below b1
 replace bb := Below.after bb b1
 clear b1
 obtain ⟨c0, c1, c2, c3, c4, c5, c6, c7, c8, c9, c10, c11, c12, c13, c14, c15, c16, c17⟩ := c18 (kt.alloc (.cells #[.bool false, .string { data := #[] }, .string { data := #[] }] 26))
 go_wp2_with fail
 obtain ⟨x4, hw, kr, b1⟩ := mk1 w4 [.bool false, .string { data := #[] }, .string { data := #[] }] 26
 rw [← hw]
 clear hw c0 c1 c2 c3 c4 c5 c6 c7 c8 c9 c10 c11 c12 c13 c14 c15 c16 c17
 replace kt := kt.below b1
 replace ka := ka.below b1
 replace bb := Below.after bb b1
 clear b1
 go_fit (HA.out _ bb)
 rintro e w5 ⟨rfl, b1⟩
 replace kt := kt.below b1
 replace ka := ka.below b1
 replace kr := kr.below b1
 replace bb := Below.after bb b1
 clear b1
 clear HS SH AR RT HA
 obtain ⟨a0, a1, a2⟩ := xk3 ka
 obtain ⟨r0, r1, r2⟩ := xk3 kr
 go_wp2_with fail
 go_fit (HL.out _ bb)
 rintro e wz ⟨rfl, b1⟩
 replace bb := Below.after bb b1
 go_wp2
 go_ret
 exact ⟨rfl, bb⟩
theorem shapes6_ok (n0 n1 n2 n3 n4 n5 : Bool) (s0 d0 s1 d1 s2 d2 s3 d3 s4 d4 s5 d5 : ByteArray) (aN : Bool) (aS aD : ByteArray) (s : Bool) (rN : Bool) (rS rD : ByteArray) (G : Int) (w : World) (hG : (G == 0) = false)
  (HS : Hid (∀ w1, Calls Tryz.prog 18 #[.agg #[.bool n0, .string s0, .string d0, .bool n1, .string s1, .string d1, .bool n2, .string s2, .string d2, .bool n3, .string s3, .string d3, .bool n4, .string s4, .string d4, .bool n5, .string s5, .string d5]] w1 (Re w1 (.bool true))))
  (SH : Hid (∀ w1, Below w.heap.size w w1 → Calls Tryz.prog 28 #[.agg #[.bool n0, .string s0, .string d0, .bool n1, .string s1, .string d1], .agg #[.bool n2, .string s2, .string d2, .bool n3, .string s3, .string d3], .agg #[.bool n4, .string s4, .string d4, .bool n5, .string s5, .string d5]] w1 (Re w1 (.tuple #[.bool s, .int .i64 (0)]))))
  (AR : Hid (∀ w1, Below w.heap.size w w1 → Calls Tryz.prog 29 #[.agg #[.bool n0, .string s0, .string d0, .bool n1, .string s1, .string d1], .agg #[.bool n2, .string s2, .string d2, .bool n3, .string s3, .string d3], .agg #[.bool n4, .string s4, .string d4, .bool n5, .string s5, .string d5]] w1 (Re w1 (.tuple #[.agg #[.bool aN, .string aS, .string aD], .int .i64 (0)]))))
  (RT : Hid (∀ w1, Below w.heap.size w w1 → Calls Tryz.prog 30 #[.agg #[.bool n0, .string s0, .string d0, .bool n1, .string s1, .string d1], .agg #[.bool n2, .string s2, .string d2, .bool n3, .string s3, .string d3], .agg #[.bool n4, .string s4, .string d4, .bool n5, .string s5, .string d5]] w1 (Re w1 (.tuple #[.agg #[.bool rN, .string rS, .string rD], .int .i64 (0)]))))
  (HA : Hid (∀ w1, Below w.heap.size w w1 → Calls Tryz.prog 23 #[.agg #[.bool n0, .string s0, .string d0, .bool n1, .string s1, .string d1], .agg #[.bool n2, .string s2, .string d2, .bool n3, .string s3, .string d3], .agg #[.bool n4, .string s4, .string d4, .bool n5, .string s5, .string d5]] w1 (Re w1 (.int .i64 (0)))))
  (RA : Hid (∀ w1, Below w.heap.size w w1 → Calls Tryz.prog 31 #[.agg #[.bool n0, .string s0, .string d0, .bool n1, .string s1, .string d1], .agg #[.bool n2, .string s2, .string d2, .bool n3, .string s3, .string d3], .agg #[.bool n4, .string s4, .string d4, .bool n5, .string s5, .string d5]] w1 (Re w1 (.agg #[.bool aN, .string aS, .string aD]))))
  (q1 : ∀ w1, (binOp .eql 28 (.agg #[.bool n0, .string s0, .string d0, .bool n1, .string s1, .string d1]) (.agg #[.bool n2, .string s2, .string d2, .bool n3, .string s3, .string d3])).run Tryz.prog w1 = .ok (.bool false) w1)
  (q2 : ∀ w1, (binOp .eql 28 (.agg #[.bool n2, .string s2, .string d2, .bool n3, .string s3, .string d3]) (.agg #[.bool n4, .string s4, .string d4, .bool n5, .string s5, .string d5])).run Tryz.prog w1 = .ok (.bool false) w1)
  (RS : Hid (∀ w1, Below w.heap.size w w1 → Calls Tryz.prog 32 #[.agg #[.bool n0, .string s0, .string d0, .bool n1, .string s1, .string d1], .agg #[.bool n2, .string s2, .string d2, .bool n3, .string s3, .string d3], .agg #[.bool n4, .string s4, .string d4, .bool n5, .string s5, .string d5]] w1 (Re w1 (.bool s))))
  (HO : Hid (∀ w1, Below w.heap.size w w1 → Calls Tryz.prog 26 #[.agg #[.bool n0, .string s0, .string d0, .bool n1, .string s1, .string d1], .agg #[.bool n2, .string s2, .string d2, .bool n3, .string s3, .string d3], .agg #[.bool n4, .string s4, .string d4, .bool n5, .string s5, .string d5]] w1 (Re w1 (.int .i64 (G)))))
  (RR : Hid (∀ w1, Below w.heap.size w w1 → Calls Tryz.prog 33 #[.agg #[.bool n0, .string s0, .string d0, .bool n1, .string s1, .string d1], .agg #[.bool n2, .string s2, .string d2, .bool n3, .string s3, .string d3], .agg #[.bool n4, .string s4, .string d4, .bool n5, .string s5, .string d5]] w1 (Re w1 (.agg #[.bool rN, .string rS, .string rD]))))
  (HL : Hid (∀ w1, Below w.heap.size w w1 → Calls Tryz.prog 19 #[] w1 (Re w1 (.bool true)))) :
  Calls Tryz.prog 5 #[.agg #[.bool n0, .string s0, .string d0, .bool n1, .string s1, .string d1, .bool n2, .string s2, .string d2, .bool n3, .string s3, .string d3, .bool n4, .string s4, .string d4, .bool n5, .string s5, .string d5]] w (Re w (.bool true)) := by
 go_enter Tryz.func5, Tryz.ntmps5
 go_wp2_with (first | (refine wpList_load_row rfl 45 _ rfl w.heap.size rfl 45 _ (0, 0) _ (Cel.new w [.bool n0, .string s0, .string d0, .bool n1, .string s1, .string d1, .bool n2, .string s2, .string d2, .bool n3, .string s3, .string d3, .bool n4, .string s4, .string d4, .bool n5, .string s5, .string d5] 45) Tryz.underlying45 rfl (by kernel_rfl) ?_) | fail)
 go_wp2_with fail
 go_fit (HS.out _)
 rintro e w1 ⟨rfl, b1⟩
 obtain ⟨kt, bb⟩ := al1 b1
 clear b1
 obtain ⟨c0, c1, c2, c3, c4, c5, c6, c7, c8, c9, c10, c11, c12, c13, c14, c15, c16, c17⟩ := c18 kt
 go_wp2_with fail
 go_fit (SH.out _ bb)
 rintro e w2 ⟨rfl, b1⟩
 replace kt := kt.below b1
 replace bb := Below.after bb b1
 clear b1
 clear c0 c1 c2 c3 c4 c5 c6 c7 c8 c9 c10 c11 c12 c13 c14 c15 c16 c17
 obtain ⟨c0, c1, c2, c3, c4, c5, c6, c7, c8, c9, c10, c11, c12, c13, c14, c15, c16, c17⟩ := c18 kt
 go_wp2_with fail
 go_fit (AR.out _ bb)
 rintro e w3 ⟨rfl, b1⟩
 replace kt := kt.below b1
 replace bb := Below.after bb b1
 clear b1
 clear c0 c1 c2 c3 c4 c5 c6 c7 c8 c9 c10 c11 c12 c13 c14 c15 c16 c17
 obtain ⟨c0, c1, c2, c3, c4, c5, c6, c7, c8, c9, c10, c11, c12, c13, c14, c15, c16, c17⟩ := c18 (kt.alloc (.cells #[.bool aN, .string aS, .string aD] 26))
 go_wp2_with fail
 obtain ⟨x3, hw, ka, b1⟩ := mk1 w3 [.bool aN, .string aS, .string aD] 26
 rw [← hw]
 clear hw c0 c1 c2 c3 c4 c5 c6 c7 c8 c9 c10 c11 c12 c13 c14 c15 c16 c17
 replace kt := kt.below b1
 replace bb := Below.after bb b1
 clear b1
 go_fit (RT.out _ bb)
 rintro e w4 ⟨rfl, b1⟩
 replace kt := kt.below b1
 replace ka := ka.below b1
 replace bb := Below.after bb b1
 clear b1
 obtain ⟨c0, c1, c2, c3, c4, c5, c6, c7, c8, c9, c10, c11, c12, c13, c14, c15, c16, c17⟩ := c18 (kt.alloc (.cells #[.bool rN, .string rS, .string rD] 26))
 go_wp2_with fail
 obtain ⟨x4, hw, kr, b1⟩ := mk1 w4 [.bool rN, .string rS, .string rD] 26
 rw [← hw]
 clear hw c0 c1 c2 c3 c4 c5 c6 c7 c8 c9 c10 c11 c12 c13 c14 c15 c16 c17
 replace kt := kt.below b1
 replace ka := ka.below b1
 replace bb := Below.after bb b1
 clear b1
 go_fit (HA.out _ bb)
 rintro e w5 ⟨rfl, b1⟩
 replace kt := kt.below b1
 replace ka := ka.below b1
 replace kr := kr.below b1
 replace bb := Below.after bb b1
 clear b1
 clear HS SH AR RT HA
 go_wp2_with fail
 have bd := bdrew w5
 replace kt := kt.below bd
 replace ka := ka.below bd
 replace kr := kr.below bd
 replace bb := Below.after bb bd
 clear bd
 refine wp_region_held_drew (S := fun w' => xc18 w' w.heap.size (.bool n0) (.string s0) (.string d0) (.bool n1) (.string s1) (.string d1) (.bool n2) (.string s2) (.string d2) (.bool n3) (.string s3) (.string d3) (.bool n4) (.string s4) (.string d4) (.bool n5) (.string s5) (.string d5) ∧ xc3 w' w3.heap.size (.bool aN) (.string aS) (.string aD)) (by kernel_rfl) ⟨xk18 kt, xk3 ka⟩ (fun hS => ?_)
 refine WA.start (n := 13) (by kernel_rfl) ?_
 refine WA.tp 0 rfl ?_
 refine WA.tp 1 rfl ?_
 refine WA.tp 2 rfl ?_
 refine WA.tp 3 rfl ?_
 refine WA.tp 4 rfl ?_
 refine WA.tp 5 rfl ?_
 refine WA.tp 6 rfl ?_
 refine WA.tp 7 rfl ?_
 refine WA.tp 8 rfl ?_
 refine WA.tp 9 rfl ?_
 refine WA.cal 10 rfl (fun K hK => ?_)
 simp only [List.getElem_toArray, List.getElem_cons_succ, List.getElem_cons_zero]
 go_simp
 go_fit (RA.out _ bb)
 rintro e wn ⟨rfl, bn⟩
 replace kt := kt.below bn
 replace ka := ka.below bn
 replace kr := kr.below bn
 replace bb := Below.after bb bn
 try go_wp2_with fail
 clear hS
 refine hK.out _ _ ⟨xk18 kt, xk3 ka⟩ (fun hS => ?_)
 clear hK K bn
 refine WA.tp 11 rfl ?_
 refine WA.tp 12 rfl ?_
 refine WA.done (by kernel_rfl) ?_
 clear hS
 clear RA
 obtain ⟨c0, c1, c2, c3, c4, c5, c6, c7, c8, c9, c10, c11, c12, c13, c14, c15, c16, c17⟩ := c18 kt
 go_wp2_with fail
 clear c0 c1 c2 c3 c4 c5 c6 c7 c8 c9 c10 c11 c12 c13 c14 c15 c16 c17
 go_fit (RS.out _ bb)
 rintro e w6 ⟨rfl, b1⟩
 replace kt := kt.below b1
 replace ka := ka.below b1
 replace kr := kr.below b1
 replace bb := Below.after bb b1
 clear b1
 clear RS q1 q2
 obtain ⟨c0, c1, c2, c3, c4, c5, c6, c7, c8, c9, c10, c11, c12, c13, c14, c15, c16, c17⟩ := c18 kt
 go_wp2_with fail
 clear c0 c1 c2 c3 c4 c5 c6 c7 c8 c9 c10 c11 c12 c13 c14 c15 c16 c17
 go_fit (HO.out _ bb)
 rintro e w7 ⟨rfl, b1⟩
 replace kt := kt.below b1
 replace ka := ka.below b1
 replace kr := kr.below b1
 replace bb := Below.after bb b1
 clear b1
 clear HO
 go_wp2_with fail
 have bd := bdrew w7
 replace kt := kt.below bd
 replace ka := ka.below bd
 replace kr := kr.below bd
 replace bb := Below.after bb bd
 clear bd
 refine wp_region_held_drew (S := fun w' => xc18 w' w.heap.size (.bool n0) (.string s0) (.string d0) (.bool n1) (.string s1) (.string d1) (.bool n2) (.string s2) (.string d2) (.bool n3) (.string s3) (.string d3) (.bool n4) (.string s4) (.string d4) (.bool n5) (.string s5) (.string d5) ∧ xc3 w' w4.heap.size (.bool rN) (.string rS) (.string rD)) (by kernel_rfl) ⟨xk18 kt, xk3 kr⟩ (fun hS => ?_)
 refine WA.start (n := 17) (by kernel_rfl) ?_
 refine WA.tp 0 rfl ?_
 refine WA.tp 1 rfl ?_
 refine WA.tp 2 rfl ?_
 refine WA.tp 3 rfl ?_
 refine WA.tp 4 rfl ?_
 refine WA.tp 5 rfl ?_
 refine WA.tp 6 rfl ?_
 refine WA.tp 7 rfl ?_
 refine WA.tp 8 rfl ?_
 refine WA.tp 9 rfl ?_
 refine WA.cal 10 rfl (fun K hK => ?_)
 simp only [List.getElem_toArray, List.getElem_cons_succ, List.getElem_cons_zero]
 go_simp
 go_fit (RR.out _ bb)
 rintro e wn ⟨rfl, bn⟩
 replace kt := kt.below bn
 replace ka := ka.below bn
 replace kr := kr.below bn
 replace bb := Below.after bb bn
 try go_wp2_with fail
 clear hS
 refine hK.out _ _ ⟨xk18 kt, xk3 kr⟩ (fun hS => ?_)
 clear hK K bn
 refine WA.tp 11 rfl ?_
 refine WA.tp 12 rfl ?_
 refine WA.tp 13 rfl ?_
 refine WA.cal 14 rfl (fun K hK => ?_)
 simp only [List.getElem_toArray, List.getElem_cons_succ, List.getElem_cons_zero]
 go_simp
 go_fit (HL.out _ bb)
 rintro e wn ⟨rfl, bn⟩
 replace kt := kt.below bn
 replace ka := ka.below bn
 replace kr := kr.below bn
 replace bb := Below.after bb bn
 try go_wp2_with fail
 clear hS
 refine hK.out _ _ ⟨xk18 kt, xk3 kr⟩ (fun hS => ?_)
 clear hK K bn
 refine WA.tp 15 rfl ?_
 refine WA.tp 16 rfl ?_
 refine WA.done (by kernel_rfl) ?_
 clear hS
 go_wp2
 go_ret
 exact ⟨rfl, bb⟩
theorem shapes6_c (n0 n1 n2 n3 n4 n5 : Bool) (s0 d0 s1 d1 s2 d2 s3 d3 s4 d4 s5 d5 : ByteArray) (aN : Bool) (aS aD : ByteArray) (u v : Bool) (w : World) (hq : u = true ∨ (u = false ∧ v = true))
  (HS : Hid (∀ w1, Calls Tryz.prog 18 #[.agg #[.bool n0, .string s0, .string d0, .bool n1, .string s1, .string d1, .bool n2, .string s2, .string d2, .bool n3, .string s3, .string d3, .bool n4, .string s4, .string d4, .bool n5, .string s5, .string d5]] w1 (Re w1 (.bool true))))
  (SH : Hid (∀ w1, Below w.heap.size w w1 → Calls Tryz.prog 28 #[.agg #[.bool n0, .string s0, .string d0, .bool n1, .string s1, .string d1], .agg #[.bool n2, .string s2, .string d2, .bool n3, .string s3, .string d3], .agg #[.bool n4, .string s4, .string d4, .bool n5, .string s5, .string d5]] w1 (Re w1 (.tuple #[.bool false, .int .i64 (6)]))))
  (AR : Hid (∀ w1, Below w.heap.size w w1 → Calls Tryz.prog 29 #[.agg #[.bool n0, .string s0, .string d0, .bool n1, .string s1, .string d1], .agg #[.bool n2, .string s2, .string d2, .bool n3, .string s3, .string d3], .agg #[.bool n4, .string s4, .string d4, .bool n5, .string s5, .string d5]] w1 (Re w1 (.tuple #[.agg #[.bool aN, .string aS, .string aD], .int .i64 (0)]))))
  (RT : Hid (∀ w1, Below w.heap.size w w1 → Calls Tryz.prog 30 #[.agg #[.bool n0, .string s0, .string d0, .bool n1, .string s1, .string d1], .agg #[.bool n2, .string s2, .string d2, .bool n3, .string s3, .string d3], .agg #[.bool n4, .string s4, .string d4, .bool n5, .string s5, .string d5]] w1 (Re w1 (.tuple #[.agg #[.bool false, .string { data := #[] }, .string { data := #[] }], .int .i64 (6)]))))
  (HA : Hid (∀ w1, Below w.heap.size w w1 → Calls Tryz.prog 23 #[.agg #[.bool n0, .string s0, .string d0, .bool n1, .string s1, .string d1], .agg #[.bool n2, .string s2, .string d2, .bool n3, .string s3, .string d3], .agg #[.bool n4, .string s4, .string d4, .bool n5, .string s5, .string d5]] w1 (Re w1 (.int .i64 (0)))))
  (RA : Hid (∀ w1, Below w.heap.size w w1 → Calls Tryz.prog 31 #[.agg #[.bool n0, .string s0, .string d0, .bool n1, .string s1, .string d1], .agg #[.bool n2, .string s2, .string d2, .bool n3, .string s3, .string d3], .agg #[.bool n4, .string s4, .string d4, .bool n5, .string s5, .string d5]] w1 (Re w1 (.agg #[.bool aN, .string aS, .string aD]))))
  (q1 : ∀ w1, (binOp .eql 28 (.agg #[.bool n0, .string s0, .string d0, .bool n1, .string s1, .string d1]) (.agg #[.bool n2, .string s2, .string d2, .bool n3, .string s3, .string d3])).run Tryz.prog w1 = .ok (.bool u) w1)
  (q2 : ∀ w1, (binOp .eql 28 (.agg #[.bool n2, .string s2, .string d2, .bool n3, .string s3, .string d3]) (.agg #[.bool n4, .string s4, .string d4, .bool n5, .string s5, .string d5])).run Tryz.prog w1 = .ok (.bool v) w1)
  (HO : Hid (∀ w1, Below w.heap.size w w1 → Calls Tryz.prog 26 #[.agg #[.bool n0, .string s0, .string d0, .bool n1, .string s1, .string d1], .agg #[.bool n2, .string s2, .string d2, .bool n3, .string s3, .string d3], .agg #[.bool n4, .string s4, .string d4, .bool n5, .string s5, .string d5]] w1 (Re w1 (.int .i64 (0)))))
  (HL : Hid (∀ w1, Below w.heap.size w w1 → Calls Tryz.prog 19 #[] w1 (Re w1 (.bool true)))) :
  Calls Tryz.prog 5 #[.agg #[.bool n0, .string s0, .string d0, .bool n1, .string s1, .string d1, .bool n2, .string s2, .string d2, .bool n3, .string s3, .string d3, .bool n4, .string s4, .string d4, .bool n5, .string s5, .string d5]] w (Re w (.bool true)) := by
 go_enter Tryz.func5, Tryz.ntmps5
 go_wp2_with (first | (refine wpList_load_row rfl 45 _ rfl w.heap.size rfl 45 _ (0, 0) _ (Cel.new w [.bool n0, .string s0, .string d0, .bool n1, .string s1, .string d1, .bool n2, .string s2, .string d2, .bool n3, .string s3, .string d3, .bool n4, .string s4, .string d4, .bool n5, .string s5, .string d5] 45) Tryz.underlying45 rfl (by kernel_rfl) ?_) | fail)
 go_wp2_with fail
 go_fit (HS.out _)
 rintro e w1 ⟨rfl, b1⟩
 obtain ⟨kt, bb⟩ := al1 b1
 clear b1
 obtain ⟨c0, c1, c2, c3, c4, c5, c6, c7, c8, c9, c10, c11, c12, c13, c14, c15, c16, c17⟩ := c18 kt
 go_wp2_with fail
 go_fit (SH.out _ bb)
 rintro e w2 ⟨rfl, b1⟩
 replace kt := kt.below b1
 replace bb := Below.after bb b1
 clear b1
 clear c0 c1 c2 c3 c4 c5 c6 c7 c8 c9 c10 c11 c12 c13 c14 c15 c16 c17
 obtain ⟨c0, c1, c2, c3, c4, c5, c6, c7, c8, c9, c10, c11, c12, c13, c14, c15, c16, c17⟩ := c18 kt
 go_wp2_with fail
 go_fit (AR.out _ bb)
 rintro e w3 ⟨rfl, b1⟩
 replace kt := kt.below b1
 replace bb := Below.after bb b1
 clear b1
 clear c0 c1 c2 c3 c4 c5 c6 c7 c8 c9 c10 c11 c12 c13 c14 c15 c16 c17
 obtain ⟨c0, c1, c2, c3, c4, c5, c6, c7, c8, c9, c10, c11, c12, c13, c14, c15, c16, c17⟩ := c18 (kt.alloc (.cells #[.bool aN, .string aS, .string aD] 26))
 go_wp2_with fail
 obtain ⟨x3, hw, ka, b1⟩ := mk1 w3 [.bool aN, .string aS, .string aD] 26
 rw [← hw]
 clear hw c0 c1 c2 c3 c4 c5 c6 c7 c8 c9 c10 c11 c12 c13 c14 c15 c16 c17
 replace kt := kt.below b1
 replace bb := Below.after bb b1
 clear b1
 go_fit (RT.out _ bb)
 rintro e w4 ⟨rfl, b1⟩
 replace kt := kt.below b1
 replace ka := ka.below b1
 replace bb := Below.after bb b1
 clear b1
 obtain ⟨c0, c1, c2, c3, c4, c5, c6, c7, c8, c9, c10, c11, c12, c13, c14, c15, c16, c17⟩ := c18 (kt.alloc (.cells #[.bool false, .string { data := #[] }, .string { data := #[] }] 26))
 go_wp2_with fail
 obtain ⟨x4, hw, kr, b1⟩ := mk1 w4 [.bool false, .string { data := #[] }, .string { data := #[] }] 26
 rw [← hw]
 clear hw c0 c1 c2 c3 c4 c5 c6 c7 c8 c9 c10 c11 c12 c13 c14 c15 c16 c17
 replace kt := kt.below b1
 replace ka := ka.below b1
 replace bb := Below.after bb b1
 clear b1
 go_fit (HA.out _ bb)
 rintro e w5 ⟨rfl, b1⟩
 replace kt := kt.below b1
 replace ka := ka.below b1
 replace kr := kr.below b1
 replace bb := Below.after bb b1
 clear b1
 clear HS SH AR RT HA
 go_wp2_with fail
 have bd := bdrew w5
 replace kt := kt.below bd
 replace ka := ka.below bd
 replace kr := kr.below bd
 replace bb := Below.after bb bd
 clear bd
 refine wp_region_held_drew (S := fun w' => xc18 w' w.heap.size (.bool n0) (.string s0) (.string d0) (.bool n1) (.string s1) (.string d1) (.bool n2) (.string s2) (.string d2) (.bool n3) (.string s3) (.string d3) (.bool n4) (.string s4) (.string d4) (.bool n5) (.string s5) (.string d5) ∧ xc3 w' w3.heap.size (.bool aN) (.string aS) (.string aD)) (by kernel_rfl) ⟨xk18 kt, xk3 ka⟩ (fun hS => ?_)
 refine WA.start (n := 13) (by kernel_rfl) ?_
 refine WA.tp 0 rfl ?_
 refine WA.tp 1 rfl ?_
 refine WA.tp 2 rfl ?_
 refine WA.tp 3 rfl ?_
 refine WA.tp 4 rfl ?_
 refine WA.tp 5 rfl ?_
 refine WA.tp 6 rfl ?_
 refine WA.tp 7 rfl ?_
 refine WA.tp 8 rfl ?_
 refine WA.tp 9 rfl ?_
 refine WA.cal 10 rfl (fun K hK => ?_)
 simp only [List.getElem_toArray, List.getElem_cons_succ, List.getElem_cons_zero]
 go_simp
 go_fit (RA.out _ bb)
 rintro e wn ⟨rfl, bn⟩
 replace kt := kt.below bn
 replace ka := ka.below bn
 replace kr := kr.below bn
 replace bb := Below.after bb bn
 try go_wp2_with fail
 clear hS
 refine hK.out _ _ ⟨xk18 kt, xk3 ka⟩ (fun hS => ?_)
 clear hK K bn
 refine WA.tp 11 rfl ?_
 refine WA.tp 12 rfl ?_
 refine WA.done (by kernel_rfl) ?_
 clear hS
 clear RA
 rcases hq with rfl | ⟨rfl, rfl⟩
 all_goals
  obtain ⟨c0, c1, c2, c3, c4, c5, c6, c7, c8, c9, c10, c11, c12, c13, c14, c15, c16, c17⟩ := c18 kt
  go_wp2_with fail
  clear c0 c1 c2 c3 c4 c5 c6 c7 c8 c9 c10 c11 c12 c13 c14 c15 c16 c17
  go_fit (HO.out _ bb)
  rintro e w6 ⟨rfl, b1⟩
  replace kt := kt.below b1
  replace ka := ka.below b1
  replace kr := kr.below b1
  replace bb := Below.after bb b1
  clear b1
  clear HO
  obtain ⟨r0, r1, r2⟩ := xk3 kr
  go_wp2_with fail
  go_fit (HL.out _ bb)
  rintro e wz ⟨rfl, b1⟩
  replace bb := Below.after bb b1
  go_wp2
  go_ret
  exact ⟨rfl, bb⟩
theorem shapes6_f (n0 n1 n2 n3 n4 n5 : Bool) (s0 d0 s1 d1 s2 d2 s3 d3 s4 d4 s5 d5 : ByteArray) (aN : Bool) (aS aD : ByteArray) (s : Bool) (w : World)
  (HS : Hid (∀ w1, Calls Tryz.prog 18 #[.agg #[.bool n0, .string s0, .string d0, .bool n1, .string s1, .string d1, .bool n2, .string s2, .string d2, .bool n3, .string s3, .string d3, .bool n4, .string s4, .string d4, .bool n5, .string s5, .string d5]] w1 (Re w1 (.bool true))))
  (SH : Hid (∀ w1, Below w.heap.size w w1 → Calls Tryz.prog 28 #[.agg #[.bool n0, .string s0, .string d0, .bool n1, .string s1, .string d1], .agg #[.bool n2, .string s2, .string d2, .bool n3, .string s3, .string d3], .agg #[.bool n4, .string s4, .string d4, .bool n5, .string s5, .string d5]] w1 (Re w1 (.tuple #[.bool s, .int .i64 (0)]))))
  (AR : Hid (∀ w1, Below w.heap.size w w1 → Calls Tryz.prog 29 #[.agg #[.bool n0, .string s0, .string d0, .bool n1, .string s1, .string d1], .agg #[.bool n2, .string s2, .string d2, .bool n3, .string s3, .string d3], .agg #[.bool n4, .string s4, .string d4, .bool n5, .string s5, .string d5]] w1 (Re w1 (.tuple #[.agg #[.bool aN, .string aS, .string aD], .int .i64 (0)]))))
  (RT : Hid (∀ w1, Below w.heap.size w w1 → Calls Tryz.prog 30 #[.agg #[.bool n0, .string s0, .string d0, .bool n1, .string s1, .string d1], .agg #[.bool n2, .string s2, .string d2, .bool n3, .string s3, .string d3], .agg #[.bool n4, .string s4, .string d4, .bool n5, .string s5, .string d5]] w1 (Re w1 (.tuple #[.agg #[.bool false, .string { data := #[] }, .string { data := #[] }], .int .i64 (6)]))))
  (HA : Hid (∀ w1, Below w.heap.size w w1 → Calls Tryz.prog 23 #[.agg #[.bool n0, .string s0, .string d0, .bool n1, .string s1, .string d1], .agg #[.bool n2, .string s2, .string d2, .bool n3, .string s3, .string d3], .agg #[.bool n4, .string s4, .string d4, .bool n5, .string s5, .string d5]] w1 (Re w1 (.int .i64 (0)))))
  (RA : Hid (∀ w1, Below w.heap.size w w1 → Calls Tryz.prog 31 #[.agg #[.bool n0, .string s0, .string d0, .bool n1, .string s1, .string d1], .agg #[.bool n2, .string s2, .string d2, .bool n3, .string s3, .string d3], .agg #[.bool n4, .string s4, .string d4, .bool n5, .string s5, .string d5]] w1 (Re w1 (.agg #[.bool aN, .string aS, .string aD]))))
  (q1 : ∀ w1, (binOp .eql 28 (.agg #[.bool n0, .string s0, .string d0, .bool n1, .string s1, .string d1]) (.agg #[.bool n2, .string s2, .string d2, .bool n3, .string s3, .string d3])).run Tryz.prog w1 = .ok (.bool false) w1)
  (q2 : ∀ w1, (binOp .eql 28 (.agg #[.bool n2, .string s2, .string d2, .bool n3, .string s3, .string d3]) (.agg #[.bool n4, .string s4, .string d4, .bool n5, .string s5, .string d5])).run Tryz.prog w1 = .ok (.bool false) w1)
  (RS : Hid (∀ w1, Below w.heap.size w w1 → Calls Tryz.prog 32 #[.agg #[.bool n0, .string s0, .string d0, .bool n1, .string s1, .string d1], .agg #[.bool n2, .string s2, .string d2, .bool n3, .string s3, .string d3], .agg #[.bool n4, .string s4, .string d4, .bool n5, .string s5, .string d5]] w1 (Re w1 (.bool s))))
  (HO : Hid (∀ w1, Below w.heap.size w w1 → Calls Tryz.prog 26 #[.agg #[.bool n0, .string s0, .string d0, .bool n1, .string s1, .string d1], .agg #[.bool n2, .string s2, .string d2, .bool n3, .string s3, .string d3], .agg #[.bool n4, .string s4, .string d4, .bool n5, .string s5, .string d5]] w1 (Re w1 (.int .i64 (0)))))
  (HL : Hid (∀ w1, Below w.heap.size w w1 → Calls Tryz.prog 19 #[] w1 (Re w1 (.bool true)))) :
  Calls Tryz.prog 5 #[.agg #[.bool n0, .string s0, .string d0, .bool n1, .string s1, .string d1, .bool n2, .string s2, .string d2, .bool n3, .string s3, .string d3, .bool n4, .string s4, .string d4, .bool n5, .string s5, .string d5]] w (Re w (.bool true)) := by
 go_enter Tryz.func5, Tryz.ntmps5
 go_wp2_with (first | (refine wpList_load_row rfl 45 _ rfl w.heap.size rfl 45 _ (0, 0) _ (Cel.new w [.bool n0, .string s0, .string d0, .bool n1, .string s1, .string d1, .bool n2, .string s2, .string d2, .bool n3, .string s3, .string d3, .bool n4, .string s4, .string d4, .bool n5, .string s5, .string d5] 45) Tryz.underlying45 rfl (by kernel_rfl) ?_) | fail)
 go_wp2_with fail
 go_fit (HS.out _)
 rintro e w1 ⟨rfl, b1⟩
 obtain ⟨kt, bb⟩ := al1 b1
 clear b1
 obtain ⟨c0, c1, c2, c3, c4, c5, c6, c7, c8, c9, c10, c11, c12, c13, c14, c15, c16, c17⟩ := c18 kt
 go_wp2_with fail
 go_fit (SH.out _ bb)
 rintro e w2 ⟨rfl, b1⟩
 replace kt := kt.below b1
 replace bb := Below.after bb b1
 clear b1
 clear c0 c1 c2 c3 c4 c5 c6 c7 c8 c9 c10 c11 c12 c13 c14 c15 c16 c17
 obtain ⟨c0, c1, c2, c3, c4, c5, c6, c7, c8, c9, c10, c11, c12, c13, c14, c15, c16, c17⟩ := c18 kt
 go_wp2_with fail
 go_fit (AR.out _ bb)
 rintro e w3 ⟨rfl, b1⟩
 replace kt := kt.below b1
 replace bb := Below.after bb b1
 clear b1
 clear c0 c1 c2 c3 c4 c5 c6 c7 c8 c9 c10 c11 c12 c13 c14 c15 c16 c17
 obtain ⟨c0, c1, c2, c3, c4, c5, c6, c7, c8, c9, c10, c11, c12, c13, c14, c15, c16, c17⟩ := c18 (kt.alloc (.cells #[.bool aN, .string aS, .string aD] 26))
 go_wp2_with fail
 obtain ⟨x3, hw, ka, b1⟩ := mk1 w3 [.bool aN, .string aS, .string aD] 26
 rw [← hw]
 clear hw c0 c1 c2 c3 c4 c5 c6 c7 c8 c9 c10 c11 c12 c13 c14 c15 c16 c17
 replace kt := kt.below b1
 replace bb := Below.after bb b1
 clear b1
 go_fit (RT.out _ bb)
 rintro e w4 ⟨rfl, b1⟩
 replace kt := kt.below b1
 replace ka := ka.below b1
 replace bb := Below.after bb b1
 clear b1
 obtain ⟨c0, c1, c2, c3, c4, c5, c6, c7, c8, c9, c10, c11, c12, c13, c14, c15, c16, c17⟩ := c18 (kt.alloc (.cells #[.bool false, .string { data := #[] }, .string { data := #[] }] 26))
 go_wp2_with fail
 obtain ⟨x4, hw, kr, b1⟩ := mk1 w4 [.bool false, .string { data := #[] }, .string { data := #[] }] 26
 rw [← hw]
 clear hw c0 c1 c2 c3 c4 c5 c6 c7 c8 c9 c10 c11 c12 c13 c14 c15 c16 c17
 replace kt := kt.below b1
 replace ka := ka.below b1
 replace bb := Below.after bb b1
 clear b1
 go_fit (HA.out _ bb)
 rintro e w5 ⟨rfl, b1⟩
 replace kt := kt.below b1
 replace ka := ka.below b1
 replace kr := kr.below b1
 replace bb := Below.after bb b1
 clear b1
 clear HS SH AR RT HA
 go_wp2_with fail
 have bd := bdrew w5
 replace kt := kt.below bd
 replace ka := ka.below bd
 replace kr := kr.below bd
 replace bb := Below.after bb bd
 clear bd
 refine wp_region_held_drew (S := fun w' => xc18 w' w.heap.size (.bool n0) (.string s0) (.string d0) (.bool n1) (.string s1) (.string d1) (.bool n2) (.string s2) (.string d2) (.bool n3) (.string s3) (.string d3) (.bool n4) (.string s4) (.string d4) (.bool n5) (.string s5) (.string d5) ∧ xc3 w' w3.heap.size (.bool aN) (.string aS) (.string aD)) (by kernel_rfl) ⟨xk18 kt, xk3 ka⟩ (fun hS => ?_)
 refine WA.start (n := 13) (by kernel_rfl) ?_
 refine WA.tp 0 rfl ?_
 refine WA.tp 1 rfl ?_
 refine WA.tp 2 rfl ?_
 refine WA.tp 3 rfl ?_
 refine WA.tp 4 rfl ?_
 refine WA.tp 5 rfl ?_
 refine WA.tp 6 rfl ?_
 refine WA.tp 7 rfl ?_
 refine WA.tp 8 rfl ?_
 refine WA.tp 9 rfl ?_
 refine WA.cal 10 rfl (fun K hK => ?_)
 simp only [List.getElem_toArray, List.getElem_cons_succ, List.getElem_cons_zero]
 go_simp
 go_fit (RA.out _ bb)
 rintro e wn ⟨rfl, bn⟩
 replace kt := kt.below bn
 replace ka := ka.below bn
 replace kr := kr.below bn
 replace bb := Below.after bb bn
 try go_wp2_with fail
 clear hS
 refine hK.out _ _ ⟨xk18 kt, xk3 ka⟩ (fun hS => ?_)
 clear hK K bn
 refine WA.tp 11 rfl ?_
 refine WA.tp 12 rfl ?_
 refine WA.done (by kernel_rfl) ?_
 clear hS
 clear RA
 obtain ⟨c0, c1, c2, c3, c4, c5, c6, c7, c8, c9, c10, c11, c12, c13, c14, c15, c16, c17⟩ := c18 kt
 go_wp2_with fail
 clear c0 c1 c2 c3 c4 c5 c6 c7 c8 c9 c10 c11 c12 c13 c14 c15 c16 c17
 go_fit (RS.out _ bb)
 rintro e w6 ⟨rfl, b1⟩
 replace kt := kt.below b1
 replace ka := ka.below b1
 replace kr := kr.below b1
 replace bb := Below.after bb b1
 clear b1
 clear RS q1 q2
 obtain ⟨c0, c1, c2, c3, c4, c5, c6, c7, c8, c9, c10, c11, c12, c13, c14, c15, c16, c17⟩ := c18 kt
 go_wp2_with fail
 clear c0 c1 c2 c3 c4 c5 c6 c7 c8 c9 c10 c11 c12 c13 c14 c15 c16 c17
 go_fit (HO.out _ bb)
 rintro e w7 ⟨rfl, b1⟩
 replace kt := kt.below b1
 replace ka := ka.below b1
 replace kr := kr.below b1
 replace bb := Below.after bb b1
 clear b1
 clear HO
 obtain ⟨r0, r1, r2⟩ := xk3 kr
 go_wp2_with fail
 go_fit (HL.out _ bb)
 rintro e wz ⟨rfl, b1⟩
 replace bb := Below.after bb b1
 go_wp2
 go_ret
 exact ⟨rfl, bb⟩
end Go.Proofs.YtiiigiggcbbgjaaGreatDoor
