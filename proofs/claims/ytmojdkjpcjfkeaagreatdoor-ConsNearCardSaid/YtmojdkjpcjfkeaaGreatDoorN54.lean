/-
  Package cons: Near2, walked, between the ends.
-/
import Derived.Test.YtmojdkjpcjfkeaaGreatDoorN46
namespace Go.Proofs.YtmojdkjpcjfkeaaGreatDoor
open Go.RowKit
set_option maxRecDepth 100000 in
set_option maxHeartbeats 16000000 in
theorem cNear_mid (n0 n1 n2 n3 n4 n5 : Bool) (s0 d0 s1 d1 s2 d2 s3 d3 s4 d4 s5 d5 : ByteArray) (ux uy vx vy tx ty : Rat) (w : World) (hT : Tab w)
  (HC : Hid (∀ (w1 : World) (B : Nat), Below w.heap.size w w1 → Cel w1 B [.bool n0, .string s0, .string d0, .bool n1, .string s1, .string d1, .bool n2, .string s2, .string d2, .bool n3, .string s3, .string d3, .bool n4, .string s4, .string d4, .bool n5, .string s5, .string d5] 28 → Calls Tryz.prog 40 #[.slice (some ⟨B, 0, none⟩) 3 3] w1 (Re w1 (.int .i64 0))))
  (q1 : ∀ w1, (binOp .eql 28 (.agg #[.bool n0, .string s0, .string d0, .bool n1, .string s1, .string d1]) (.agg #[.bool n2, .string s2, .string d2, .bool n3, .string s3, .string d3])).run Tryz.prog w1 = .ok (.bool false) w1)
  (H1 : Hid (∀ w1, Calls Tryz.prog 57 #[.agg #[.bool n0, .string s0, .string d0, .bool n1, .string s1, .string d1], .agg #[.bool n2, .string s2, .string d2, .bool n3, .string s3, .string d3]] w1 fun e w' => ∃ m0 a0 l0 c0 m1 a1 l1 c1 a2 l2 c2 X Y U, e = .returned (.agg #[.bool m0, .slice a0 l0 c0, .bool m1, .slice a1 l1 c1, .bool false, .slice a2 l2 c2]) ∧ SpV w' m0 a0 l0 c0 m1 a1 l1 c1 a2 l2 c2 X Y U ux uy ∧ Below w1.heap.size w1 w'))
  (H2 : Hid (∀ w1, Calls Tryz.prog 57 #[.agg #[.bool n0, .string s0, .string d0, .bool n1, .string s1, .string d1], .agg #[.bool n4, .string s4, .string d4, .bool n5, .string s5, .string d5]] w1 fun e w' => ∃ m0 a0 l0 c0 m1 a1 l1 c1 a2 l2 c2 X Y U, e = .returned (.agg #[.bool m0, .slice a0 l0 c0, .bool m1, .slice a1 l1 c1, .bool false, .slice a2 l2 c2]) ∧ SpV w' m0 a0 l0 c0 m1 a1 l1 c1 a2 l2 c2 X Y U vx vy ∧ Below w1.heap.size w1 w')) (hd : ¬ Gm.sg (ux * vx + uy * vy) ≤ 0) (hb : ¬ 0 ≤ Gm.sg (ux * tx + uy * ty)) (hn : ux * ux + uy * uy ≠ 0)
  (H3 : Hid (∀ w1, Calls Tryz.prog 57 #[.agg #[.bool n2, .string s2, .string d2, .bool n3, .string s3, .string d3], .agg #[.bool n4, .string s4, .string d4, .bool n5, .string s5, .string d5]] w1 fun e w' => ∃ m0 a0 l0 c0 m1 a1 l1 c1 a2 l2 c2 X Y U, e = .returned (.agg #[.bool m0, .slice a0 l0 c0, .bool m1, .slice a1 l1 c1, .bool false, .slice a2 l2 c2]) ∧ NV w' m0 (.slice a0 l0 c0) X 53 ∧ NV w' m1 (.slice a1 l1 c1) Y 53 ∧ NV w' false (.slice a2 l2 c2) U 52 ∧ Gm.Way X Y U tx ty ∧ Below w1.heap.size w1 w')) :
  Calls Tryz.prog 18 #[.agg #[.bool n0, .string s0, .string d0, .bool n1, .string s1, .string d1], .agg #[.bool n2, .string s2, .string d2, .bool n3, .string s3, .string d3], .agg #[.bool n4, .string s4, .string d4, .bool n5, .string s5, .string d5]] w (Re w (.tuple #[.agg #[.bool (nfZ ((ux * vy - uy * vx) * (ux * vy - uy * vx) / (ux * ux + uy * uy)).num), .string (sfZ ((ux * vy - uy * vx) * (ux * vy - uy * vx) / (ux * ux + uy * uy)).num), .string (strOf ((ux * vy - uy * vx) * (ux * vy - uy * vx) / (ux * ux + uy * uy)).den)], .int .i64 0])) := by
 go_enter Tryz.func18, Tryz.ntmps18
 go_wp2_with fail
 obtain ⟨w0, hw, ka, kb, kc, kr, kl, bb⟩ := mk5 w [.bool n0, .string s0, .string d0, .bool n1, .string s1, .string d1] [.bool n2, .string s2, .string d2, .bool n3, .string s3, .string d3] [.bool n4, .string s4, .string d4, .bool n5, .string s5, .string d5] [.bool false, .string { data := #[] }, .string { data := #[] }] [.bool n0, .string s0, .string d0, .bool n1, .string s1, .string d1, .bool n2, .string s2, .string d2, .bool n3, .string s3, .string d3, .bool n4, .string s4, .string d4, .bool n5, .string s5, .string d5] 28 28 28 26 28
 rw [← hw]
 clear hw
 go_fit (HC.out _ _ bb kl)
 rintro e w1 ⟨rfl, b1⟩
 replace ka := ka.below b1
 replace kb := kb.below b1
 replace kc := kc.below b1
 replace kr := kr.below b1
 replace bb := Below.after bb b1
 clear b1 kl
 have tr := kr.lt
 obtain ⟨ca_0, ca_1, ca_2, ca_3, ca_4, ca_5⟩ := xk6 ka
 obtain ⟨cb_6, cb_7, cb_8, cb_9, cb_10, cb_11⟩ := xk6 kb
 obtain ⟨cc_12, cc_13, cc_14, cc_15, cc_16, cc_17⟩ := xk6 kc
 go_wp2_with fail
 clear ca_0 ca_1 ca_2 ca_3 ca_4 ca_5 cb_6 cb_7 cb_8 cb_9 cb_10 cb_11 cc_12 cc_13 cc_14 cc_15 cc_16 cc_17
 have mk : Hid (∀ w', SB w1 w' → xc6 w' w.heap.size (.bool n0) (.string s0) (.string d0) (.bool n1) (.string s1) (.string d1) ∧ xc6 w' (w.heap.size + 1) (.bool n2) (.string s2) (.string d2) (.bool n3) (.string s3) (.string d3) ∧ xc6 w' (w.heap.size + 1 + 1) (.bool n4) (.string s4) (.string d4) (.bool n5) (.string s5) (.string d5)) := fun w' h => ⟨xk6 (ka.below h), xk6 (kb.below h), xk6 (kc.below h)⟩
 go_cut [9, 10] from 27 to 32 (fun v u wx => ∃ gc gd m1 a1 l1 c1 m2 a2 l2 c2 a3 l3 c3 X1 Y1 U1 m4 a4 l4 c4 m5 a5 l5 c5 a6 l6 c6 X4 Y4 U4, v = .pointer (some ⟨gc, 0, none⟩) ∧ u = .pointer (some ⟨gd, 0, none⟩) ∧ w1.heap.size ≤ gc ∧ w1.heap.size ≤ gd ∧ Cel wx gc [.bool m1, .slice a1 l1 c1, .bool m2, .slice a2 l2 c2, .bool false, .slice a3 l3 c3] 78 ∧ Cel wx gd [.bool m4, .slice a4 l4 c4, .bool m5, .slice a5 l5 c5, .bool false, .slice a6 l6 c6] 78 ∧ SpV wx m1 a1 l1 c1 m2 a2 l2 c2 a3 l3 c3 X1 Y1 U1 ux uy ∧ SpV wx m4 a4 l4 c4 m5 a5 l5 c5 a6 l6 c6 X4 Y4 U4 vx vy ∧ Below w1.heap.size w1 wx)
 case first =>
  clear HC q1 H3
  refine wp_region_held_drew (S := SB w1) (by kernel_rfl) (bdrew _) (fun bc => ?_)
  refine WA.start (n := 10) (by kernel_rfl) ?_
  refine WA.tl 0 rfl ?_
  refine WA.tl 1 rfl ?_
  refine WA.tl 3 rfl ?_
  refine WA.tl 4 rfl ?_
  refine WA.gen2 (i := 6) (s := 9) (i' := 7) (s' := 10) undef undef (Pt w1 [.bool false, .slice none 0 0, .bool false, .slice none 0 0, .bool false, .slice none 0 0] 78) (Pt w1 [.bool false, .slice none 0 0, .bool false, .slice none 0 0, .bool false, .slice none 0 0] 78) (fun b b' x x' hz hy hn => ?_)
  simp only [Act.put, List.setIfInBounds_toArray, List.set_cons_zero, List.set_cons_succ]
  replace hz := P2.mk hz hy hn
  clear hy hn
  revert b b' x x'
  refine WA.two 10 27 2 6 7 rfl rfl rfl bc ?_
  clear bc
  intro b b' x x' w' hz bx bc K hK
  clear bx
  simp only [List.getElem_toArray, List.getElem_cons_succ, List.getElem_cons_zero]
  go_simp
  go_fit (H1.out _)
  rintro e wn ⟨m1, a1, l1, c1, m2, a2, l2, c2, a3, l3, c3, X1, Y1, U1, rfl, sv1, bn⟩
  replace bc := Below.after bc bn
  try go_wp2_with fail
  refine hK.out _ _ bc (fun _ => ?_)
  replace hz := hz.below bn
  clear hK K bn
  revert b b' x x'
  refine WA.two 10 31 5 6 7 rfl rfl rfl bc ?_
  clear bc
  intro b b' x x' w' hz bx bc K hK
  replace sv1 := sv1.below bx
  clear bx
  simp only [List.getElem_toArray, List.getElem_cons_succ, List.getElem_cons_zero]
  go_simp
  go_fit (H2.out _)
  rintro e wn ⟨m4, a4, l4, c4, m5, a5, l5, c5, a6, l6, c6, X4, Y4, U4, rfl, sv4, bn⟩
  replace bc := Below.after bc bn
  try go_wp2_with fail
  refine hK.out _ _ bc (fun _ => ?_)
  replace hz := hz.below bn
  replace sv1 := sv1.below bn
  clear hK K bn
  revert b b' x x'
  refine WA.fin2 6 7 rfl rfl bc ?_
  clear bc
  intro x x' w' hz bx bc
  replace sv1 := sv1.below bx
  replace sv4 := sv4.below bx
  obtain ⟨g0, rfl, h0, k0⟩ := hz.p rfl
  obtain ⟨g1, rfl, h1, k1⟩ := hz.p' rfl
  have n01 : ¬ g0 = g1 := fun e => hz.ne rfl rfl (by rw [e])
  clear bx hz
  obtain ⟨e0, e1, e2, e3, e4, e5⟩ := xk6 k0
  have f0 := Cel.frozen k0 0
  have f1 := Cel.frozen k0 1
  have f2 := Cel.frozen k0 2
  have f3 := Cel.frozen k0 3
  have f4 := Cel.frozen k0 4
  have f5 := Cel.frozen k0 5
  refine WA.call 8 rfl (fun K hK => ?_)
  simp only [List.getElem_toArray, List.getElem_cons_succ, List.getElem_cons_zero]
  go_simp
  try go_wp2_with fail
  clear e0 f0 e1 f1 e2 f2 e3 f3 e4 f4 e5 f5
  replace bc := (bset (bset (bset (bset (bset (bset bc h0 0 (.bool m1)) h0 1 (.slice a1 l1 c1)) h0 2 (.bool m2)) h0 3 (.slice a2 l2 c2)) h0 4 (.bool false)) h0 5 (.slice a3 l3 c3))
  refine hK.out _ _ bc (fun _ => ?_)
  clear hK K
  replace sv1 := sv1.set6 k0 (.bool m1) (.slice a1 l1 c1) (.bool m2) (.slice a2 l2 c2) (.bool false) (.slice a3 l3 c3)
  replace sv4 := sv4.set6 k0 (.bool m1) (.slice a1 l1 c1) (.bool m2) (.slice a2 l2 c2) (.bool false) (.slice a3 l3 c3)
  replace k0 := (Cel.set (Cel.set (Cel.set (Cel.set (Cel.set (Cel.set k0 0 (.bool m1)) 1 (.slice a1 l1 c1)) 2 (.bool m2)) 3 (.slice a2 l2 c2)) 4 (.bool false)) 5 (.slice a3 l3 c3))
  replace k1 := (Cel.other (Cel.other (Cel.other (Cel.other (Cel.other (Cel.other k1 (fun e => n01 e.symm) 0 (.bool m1)) (fun e => n01 e.symm) 1 (.slice a1 l1 c1)) (fun e => n01 e.symm) 2 (.bool m2)) (fun e => n01 e.symm) 3 (.slice a2 l2 c2)) (fun e => n01 e.symm) 4 (.bool false)) (fun e => n01 e.symm) 5 (.slice a3 l3 c3))
  obtain ⟨e0, e1, e2, e3, e4, e5⟩ := xk6 k1
  have f0 := Cel.frozen k1 0
  have f1 := Cel.frozen k1 1
  have f2 := Cel.frozen k1 2
  have f3 := Cel.frozen k1 3
  have f4 := Cel.frozen k1 4
  have f5 := Cel.frozen k1 5
  refine WA.call 9 rfl (fun K hK => ?_)
  simp only [List.getElem_toArray, List.getElem_cons_succ, List.getElem_cons_zero]
  go_simp
  try go_wp2_with fail
  clear e0 f0 e1 f1 e2 f2 e3 f3 e4 f4 e5 f5
  replace bc := (bset (bset (bset (bset (bset (bset bc h1 0 (.bool m4)) h1 1 (.slice a4 l4 c4)) h1 2 (.bool m5)) h1 3 (.slice a5 l5 c5)) h1 4 (.bool false)) h1 5 (.slice a6 l6 c6))
  refine hK.out _ _ bc (fun _ => ?_)
  clear hK K
  replace sv1 := sv1.set6 k1 (.bool m4) (.slice a4 l4 c4) (.bool m5) (.slice a5 l5 c5) (.bool false) (.slice a6 l6 c6)
  replace sv4 := sv4.set6 k1 (.bool m4) (.slice a4 l4 c4) (.bool m5) (.slice a5 l5 c5) (.bool false) (.slice a6 l6 c6)
  replace k0 := (Cel.other (Cel.other (Cel.other (Cel.other (Cel.other (Cel.other k0 n01 0 (.bool m4)) n01 1 (.slice a4 l4 c4)) n01 2 (.bool m5)) n01 3 (.slice a5 l5 c5)) n01 4 (.bool false)) n01 5 (.slice a6 l6 c6))
  replace k1 := (Cel.set (Cel.set (Cel.set (Cel.set (Cel.set (Cel.set k1 0 (.bool m4)) 1 (.slice a4 l4 c4)) 2 (.bool m5)) 3 (.slice a5 l5 c5)) 4 (.bool false)) 5 (.slice a6 l6 c6))
  refine WA.done (by kernel_rfl) ?_
  go_wp2_with fail
  go_meet
  exact ⟨_, _, m1, a1, l1, c1, m2, a2, l2, c2, a3, l3, c3, X1, Y1, U1, m4, a4, l4, c4, m5, a5, l5, c5, a6, l6, c6, X4, Y4, U4, rfl, rfl, h0, h1, k0, k1, sv1, sv4, bc⟩
 case rest =>
 obtain ⟨gu, gv, m1, a1, l1, c1, m2, a2, l2, c2, a3, l3, c3, X1, Y1, U1, m4, a4, l4, c4, m5, a5, l5, c5, a6, l6, c6, X4, Y4, U4, rfl, rfl, lu, lv, ku, kv, sv1, sv4, b1⟩ := hcut
 clear mk; have sz := b1.size
 replace ka := ka.below b1
 replace kb := kb.below b1
 replace kc := kc.below b1
 replace kr := kr.below b1
 replace bb := Below.after bb b1
 clear b1
 have tu := ku.lt
 have tv := kv.lt
 obtain ⟨cu_0, cu_1, cu_2, cu_3, cu_4, cu_5⟩ := xk6 ku
 obtain ⟨cv_6, cv_7, cv_8, cv_9, cv_10, cv_11⟩ := xk6 kv
 go_wp2_with fail
 clear cu_0 cu_1 cu_2 cu_3 cu_4 cu_5 cv_6 cv_7 cv_8 cv_9 cv_10 cv_11
 go_fit (sdot_any _ _ _ _ _ _ _ _ _ _ _ _ _ _ _ _ _ _ _ _ _ _ _ _ X1 Y1 X4 Y4 53 _ (by omega) sv1.1 sv1.2.1 sv4.1 sv4.2.1)
 rintro e w2 ⟨m7, v7, rfl, nv7, b1⟩
 obtain ⟨a7, l7, c7, rfl⟩ := nv7.slice
 replace ka := ka.below b1
 replace kb := kb.below b1
 replace kc := kc.below b1
 replace kr := kr.below b1
 replace ku := ku.below b1
 replace kv := kv.below b1
 replace sv1 := sv1.below b1
 replace sv4 := sv4.below b1
 replace bb := Below.after bb b1
 clear b1
 go_wp2_with fail
 go_fit (nsign_any _ _ (X1 * X4 + Y1 * Y4) (53 + 53 + 1) _ nv7)
 rintro e w3 ⟨rfl, b1⟩
 clear nv7
 replace ka := ka.below b1
 replace kb := kb.below b1
 replace kc := kc.below b1
 replace kr := kr.below b1
 replace ku := ku.below b1
 replace kv := kv.below b1
 replace sv1 := sv1.below b1
 replace sv4 := sv4.below b1
 replace bb := Below.after bb b1
 clear b1
 rw [Gm.dot_sign sv1.2.2.2 sv4.2.2.2]
 obtain ⟨nx, ny, nu, hw1⟩ := sv1
 obtain ⟨nz, nw, nt, hw4⟩ := sv4
 go_wp2_with fail
 have bd := bdrew w3
 replace ka := ka.below bd
 replace kb := kb.below bd
 replace kc := kc.below bd
 replace kr := kr.below bd
 replace ku := ku.below bd
 replace kv := kv.below bd
 replace nx := nx.below bd
 replace ny := ny.below bd
 replace nu := nu.below bd
 replace nz := nz.below bd
 replace nw := nw.below bd
 replace nt := nt.below bd
 replace bb := Below.after bb bd
 clear bd
 refine wp_region_held_drew (S := fun w' => xc6 w' gu (.bool m1) (.slice a1 l1 c1) (.bool m2) (.slice a2 l2 c2) (.bool false) (.slice a3 l3 c3) ∧ xc6 w' (w.heap.size + 1) (.bool n2) (.string s2) (.string d2) (.bool n3) (.string s3) (.string d3) ∧ xc6 w' (w.heap.size + 1 + 1) (.bool n4) (.string s4) (.string d4) (.bool n5) (.string s5) (.string d5)) (by kernel_rfl) ⟨xk6 ku, xk6 kb, xk6 kc⟩ (fun hS => ?_)
 refine WA.start (n := 8) (by kernel_rfl) ?_
 refine WA.tp 0 rfl ?_
 refine WA.tp 1 rfl ?_
 refine WA.tp 2 rfl ?_
 refine WA.cal 3 rfl (fun K hK => ?_)
 simp only [List.getElem_toArray, List.getElem_cons_succ, List.getElem_cons_zero]
 go_simp
 go_fit (H3.out _)
 rintro e wn ⟨m20, a20, l20, c20, m21, a21, l21, c21, a22, l22, c22, X9, Y9, U9, rfl, nv20, nv21, nv22, hw9, bn⟩
 replace ka := ka.below bn
 replace kb := kb.below bn
 replace kc := kc.below bn
 replace kr := kr.below bn
 replace ku := ku.below bn
 replace kv := kv.below bn
 replace nx := nx.below bn
 replace ny := ny.below bn
 replace nu := nu.below bn
 replace nz := nz.below bn
 replace nw := nw.below bn
 replace nt := nt.below bn
 replace bb := Below.after bb bn
 try go_wp2_with fail
 clear hS
 refine hK.out _ _ ⟨xk6 ku, xk6 kb, xk6 kc⟩ (fun hS => ?_)
 clear hK K bn
 refine WA.cal 4 rfl (fun K hK => ?_)
 simp only [List.getElem_toArray, List.getElem_cons_succ, List.getElem_cons_zero]
 go_simp
 go_fit (sdot_any _ _ _ _ _ _ _ _ _ _ _ _ _ _ _ _ _ _ _ _ _ _ _ _ X1 Y1 X9 Y9 53 _ (by omega) nx ny nv20 nv21)
 rintro e wn ⟨m8, v8, rfl, nv8, bn⟩
 obtain ⟨a8, l8, c8, rfl⟩ := nv8.slice
 have hz : ¬ (0 : Int) ≤ X1 * X9 + Y1 * Y9 := fun k => by have k2 := Int.sign_nonneg_iff.2 k; rw [Gm.dot_sign hw1 hw9] at k2; omega
 replace ka := ka.below bn
 replace kb := kb.below bn
 replace kc := kc.below bn
 replace kr := kr.below bn
 replace ku := ku.below bn
 replace kv := kv.below bn
 replace nx := nx.below bn
 replace ny := ny.below bn
 replace nu := nu.below bn
 replace nz := nz.below bn
 replace nw := nw.below bn
 replace nt := nt.below bn
 replace nv20 := nv20.below bn
 replace nv21 := nv21.below bn
 replace bb := Below.after bb bn
 try go_wp2_with fail
 clear hS
 refine hK.out _ _ ⟨xk6 ku, xk6 kb, xk6 kc⟩ (fun hS => ?_)
 clear hK K bn
 refine WA.cal 5 rfl (fun K hK => ?_)
 simp only [List.getElem_toArray, List.getElem_cons_succ, List.getElem_cons_zero]
 go_simp
 go_fit (nsign_any _ _ (X1 * X9 + Y1 * Y9) (53 + 53 + 1) _ nv8)
 rintro e wn ⟨rfl, bn⟩
 replace ka := ka.below bn
 replace kb := kb.below bn
 replace kc := kc.below bn
 replace kr := kr.below bn
 replace ku := ku.below bn
 replace kv := kv.below bn
 replace nx := nx.below bn
 replace ny := ny.below bn
 replace nu := nu.below bn
 replace nz := nz.below bn
 replace nw := nw.below bn
 replace nt := nt.below bn
 replace nv20 := nv20.below bn
 replace nv21 := nv21.below bn
 replace nv8 := nv8.below bn
 replace bb := Below.after bb bn
 try go_wp2_with fail
 clear hS
 refine hK.out _ _ ⟨xk6 ku, xk6 kb, xk6 kc⟩ (fun hS => ?_)
 clear hK K bn
 refine WA.tp 6 rfl ?_
 refine WA.tp 7 rfl ?_
 refine WA.done (by kernel_rfl) ?_
 clear hS
 clear nv20 nv21 nv22 nv8 H3
 obtain ⟨cu_0, cu_1, cu_2, cu_3, cu_4, cu_5⟩ := xk6 ku
 obtain ⟨cv_6, cv_7, cv_8, cv_9, cv_10, cv_11⟩ := xk6 kv
 go_wp2_with fail
 clear cu_0 cu_1 cu_2 cu_3 cu_4 cu_5 cv_6 cv_7 cv_8 cv_9 cv_10 cv_11
 go_fit (scross_any _ _ _ _ _ _ _ _ _ _ _ _ _ _ _ _ _ _ _ _ _ _ _ _ X1 Y1 X4 Y4 53 _ (by omega) nx ny nz nw)
 rintro e w5 ⟨m10, v10, rfl, nv10, b1⟩
 obtain ⟨a10, l10, c10, rfl⟩ := nv10.slice
 replace ka := ka.below b1
 replace kb := kb.below b1
 replace kc := kc.below b1
 replace kr := kr.below b1
 replace ku := ku.below b1
 replace kv := kv.below b1
 replace nx := nx.below b1
 replace ny := ny.below b1
 replace nu := nu.below b1
 replace nz := nz.below b1
 replace nw := nw.below b1
 replace nt := nt.below b1
 replace bb := Below.after bb b1
 clear b1
 have t5 := kr.lt
 go_wp2_with fail
 obtain ⟨w6, hw, ks, b1⟩ := mk1 w5 [.bool m10, .slice a10 l10 c10] 76
 rw [← hw]
 clear hw
 have sz := b1.size
 replace ka := ka.below b1
 replace kb := kb.below b1
 replace kc := kc.below b1
 replace kr := kr.below b1
 replace ku := ku.below b1
 replace kv := kv.below b1
 replace nx := nx.below b1
 replace ny := ny.below b1
 replace nu := nu.below b1
 replace nz := nz.below b1
 replace nw := nw.below b1
 replace nt := nt.below b1
 replace nv10 := nv10.below b1
 replace bb := Below.after bb b1
 clear b1
 clear ka kb kc
 have ts := ks.lt
 have qu : gu ≠ w.heap.size + 1 + 1 + 1 := by omega
 have qv : gv ≠ w.heap.size + 1 + 1 + 1 := by omega
 have qs : w5.heap.size ≠ w.heap.size + 1 + 1 + 1 := by omega
 have bd := bdrew w6
 replace kr := kr.below bd
 replace ku := ku.below bd
 replace kv := kv.below bd
 replace ks := ks.below bd
 replace nx := nx.below bd
 replace ny := ny.below bd
 replace nu := nu.below bd
 replace nz := nz.below bd
 replace nw := nw.below bd
 replace nt := nt.below bd
 replace nv10 := nv10.below bd
 replace bb := Below.after bb bd
 clear bd
 have sp := Gm.near_pos hw1 hn
 refine wp_region_held_drew (S := fun w' => xc2 w' w5.heap.size (.bool m10) (.slice a10 l10 c10) ∧ xc6 w' gu (.bool m1) (.slice a1 l1 c1) (.bool m2) (.slice a2 l2 c2) (.bool false) (.slice a3 l3 c3) ∧ xc6 w' gv (.bool m4) (.slice a4 l4 c4) (.bool m5) (.slice a5 l5 c5) (.bool false) (.slice a6 l6 c6)) (by kernel_rfl) ⟨xk2 ks, xk6 ku, xk6 kv⟩ (fun hS => ?_)
 refine WA.start (n := 13) (by kernel_rfl) ?_
 refine WA.tp 0 rfl ?_
 refine WA.tp 1 rfl ?_
 refine WA.tp 3 rfl ?_
 refine WA.tp 5 rfl ?_
 refine WA.tp 6 rfl ?_
 refine WA.tp 7 rfl ?_
 refine WA.tp 8 rfl ?_
 refine WA.cal 2 rfl (fun K hK => ?_)
 simp only [List.getElem_toArray, List.getElem_cons_succ, List.getElem_cons_zero]
 go_simp
 go_fit (ntimes_any _ _ _ _ (X1 * Y4 - Y1 * X4) (X1 * Y4 - Y1 * X4) (53 + 53 + 1) (53 + 53 + 1) _ (by omega) (by omega) nv10 nv10)
 rintro e wn ⟨m11, v11, rfl, nv11, -, bn⟩
 obtain ⟨a11, l11, c11, rfl⟩ := nv11.slice
 replace kr := kr.below bn
 replace ku := ku.below bn
 replace kv := kv.below bn
 replace ks := ks.below bn
 replace nx := nx.below bn
 replace ny := ny.below bn
 replace nu := nu.below bn
 replace nz := nz.below bn
 replace nw := nw.below bn
 replace nt := nt.below bn
 replace nv10 := nv10.below bn
 replace bb := Below.after bb bn
 try go_wp2_with fail
 clear hS
 refine hK.out _ _ ⟨xk2 ks, xk6 ku, xk6 kv⟩ (fun hS => ?_)
 clear hK K bn
 refine WA.cal 4 rfl (fun K hK => ?_)
 simp only [List.getElem_toArray, List.getElem_cons_succ, List.getElem_cons_zero]
 go_simp
 go_fit (ssquare_any _ _ _ _ _ _ _ _ _ _ _ _ X1 Y1 53 _ (by omega) nx ny)
 rintro e wn ⟨m12, v12, rfl, nv12, bn⟩
 obtain ⟨a12, l12, c12, rfl⟩ := nv12.slice
 replace kr := kr.below bn
 replace ku := ku.below bn
 replace kv := kv.below bn
 replace ks := ks.below bn
 replace nx := nx.below bn
 replace ny := ny.below bn
 replace nu := nu.below bn
 replace nz := nz.below bn
 replace nw := nw.below bn
 replace nt := nt.below bn
 replace nv10 := nv10.below bn
 replace nv11 := nv11.below bn
 replace bb := Below.after bb bn
 try go_wp2_with fail
 clear hS
 refine hK.out _ _ ⟨xk2 ks, xk6 ku, xk6 kv⟩ (fun hS => ?_)
 clear hK K bn
 refine WA.cal 9 rfl (fun K hK => ?_)
 simp only [List.getElem_toArray, List.getElem_cons_succ, List.getElem_cons_zero]
 go_simp
 try go_wp2_with fail
 obtain ⟨wm, hw, kB, bn⟩ := mk1 _ [.bool m12, .slice a12 l12 c12, .bool false, .slice a6 l6 c6, .bool false, .slice a6 l6 c6] 76
 rw [← hw]
 clear hw
 replace kr := kr.below bn
 replace ku := ku.below bn
 replace kv := kv.below bn
 replace ks := ks.below bn
 replace nx := nx.below bn
 replace ny := ny.below bn
 replace nu := nu.below bn
 replace nz := nz.below bn
 replace nw := nw.below bn
 replace nt := nt.below bn
 replace nv10 := nv10.below bn
 replace nv11 := nv11.below bn
 replace nv12 := nv12.below bn
 replace bb := Below.after bb bn
 clear hS
 refine hK.out _ _ ⟨xk2 ks, xk6 ku, xk6 kv⟩ (fun hS => ?_)
 clear hK K bn
 refine WA.cal 10 rfl (fun K hK => ?_)
 simp only [List.getElem_toArray, List.getElem_cons_succ, List.getElem_cons_zero]
 go_simp
 go_fit (nover3 _ _ _ _ _ _ _ _ _ _ _ _ _ _ ((X1 * Y4 - Y1 * X4) * (X1 * Y4 - Y1 * X4)) (X1 * X1 + Y1 * Y1) U4 U4 (53 + 53 + 1 + (53 + 53 + 1)) _ _ (hT.below bb) (by omega) sp hw4.1 hw4.1 nv11 (nv12.mono (by omega)) (nt.mono (by omega)) (nt.mono (by omega)) kB (Gm.near_eq hw1 hw4 hn))
 rintro e wn ⟨rfl, bn⟩
 replace kr := kr.below bn
 replace ku := ku.below bn
 replace kv := kv.below bn
 replace ks := ks.below bn
 replace kB := kB.below bn
 replace nx := nx.below bn
 replace ny := ny.below bn
 replace nu := nu.below bn
 replace nz := nz.below bn
 replace nw := nw.below bn
 replace nt := nt.below bn
 replace nv10 := nv10.below bn
 replace nv11 := nv11.below bn
 replace nv12 := nv12.below bn
 replace bb := Below.after bb bn
 try go_wp2_with fail
 clear hS
 refine hK.out _ _ ⟨xk2 ks, xk6 ku, xk6 kv⟩ (fun hS => ?_)
 clear hK K bn
 obtain ⟨e0, e1, e2⟩ := xk3 kr
 have f0 := Cel.frozen kr 0
 have f1 := Cel.frozen kr 1
 have f2 := Cel.frozen kr 2
 refine WA.cal 11 rfl (fun K hK => ?_)
 simp only [List.getElem_toArray, List.getElem_cons_succ, List.getElem_cons_zero]
 go_simp
 try go_wp2_with fail
 clear e0 f0 e1 f1 e2 f2
 clear hS
 refine hK.out _ _ ⟨xk2 (ks.oth3 qs _ _ _), xk6 (ku.oth3 qu _ _ _), xk6 (kv.oth3 qv _ _ _)⟩ (fun hS => ?_)
 clear hK K
 refine WA.tp 12 rfl ?_
 refine WA.done (by kernel_rfl) ?_
 clear hS
 go_wp2_with fail
 exact post_q1 (p := 6) (u := 7) (v := .int .i64 0) (by kernel_rfl) rfl rfl rfl (((kr.set 0 _).set 1 _).set 2 _) ⟨rfl, bset (bset (bset bb (by omega) 0 _) (by omega) 1 _) (by omega) 2 _⟩
end Go.Proofs.YtmojdkjpcjfkeaaGreatDoor
