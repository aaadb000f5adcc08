/-
  Package cons: Area2, walked.
  Package cons: Centre, walked.
  Package cons: Sharp, walked, where both ways are.
  Package cons: Sharp, walked, where both ways are.
  Package span: no way to a centre.
-/
import Derived.Test.YtiiigiggcbbgjaaGreatDoorK43
set_option maxRecDepth 100000
set_option maxHeartbeats 16000000
namespace Go.Proofs.YtiiigiggcbbgjaaGreatDoor
open Go.RowKit
theorem cArea_ok (n0 n1 n2 n3 n4 n5 : Bool) (s0 d0 s1 d1 s2 d2 s3 d3 s4 d4 s5 d5 : ByteArray) (ux uy vx vy : Rat) (w : World) (hT : Tab w)
  (HC : Hid (∀ (w1 : World) (B : Nat), Below w.heap.size w w1 → Cel w1 B [.bool n0, .string s0, .string d0, .bool n1, .string s1, .string d1, .bool n2, .string s2, .string d2, .bool n3, .string s3, .string d3, .bool n4, .string s4, .string d4, .bool n5, .string s5, .string d5] 28 → Calls Tryz.prog 45 #[.slice (some ⟨B, 0, none⟩) 3 3] w1 (Re w1 (.int .i64 0))))
  (H1 : Hid (∀ w1, Calls Tryz.prog 70 #[.agg #[.bool n0, .string s0, .string d0, .bool n1, .string s1, .string d1], .agg #[.bool n2, .string s2, .string d2, .bool n3, .string s3, .string d3]] w1 fun e w' => ∃ m0 a0 l0 c0 m1 a1 l1 c1 a2 l2 c2 X Y U, e = .returned (.agg #[.bool m0, .slice a0 l0 c0, .bool m1, .slice a1 l1 c1, .bool false, .slice a2 l2 c2]) ∧ SpV w' m0 a0 l0 c0 m1 a1 l1 c1 a2 l2 c2 X Y U ux uy ∧ Below w1.heap.size w1 w'))
  (H2 : Hid (∀ w1, Calls Tryz.prog 70 #[.agg #[.bool n0, .string s0, .string d0, .bool n1, .string s1, .string d1], .agg #[.bool n4, .string s4, .string d4, .bool n5, .string s5, .string d5]] w1 fun e w' => ∃ m0 a0 l0 c0 m1 a1 l1 c1 a2 l2 c2 X Y U, e = .returned (.agg #[.bool m0, .slice a0 l0 c0, .bool m1, .slice a1 l1 c1, .bool false, .slice a2 l2 c2]) ∧ SpV w' m0 a0 l0 c0 m1 a1 l1 c1 a2 l2 c2 X Y U vx vy ∧ Below w1.heap.size w1 w')) :
  Calls Tryz.prog 29 #[.agg #[.bool n0, .string s0, .string d0, .bool n1, .string s1, .string d1], .agg #[.bool n2, .string s2, .string d2, .bool n3, .string s3, .string d3], .agg #[.bool n4, .string s4, .string d4, .bool n5, .string s5, .string d5]] w (Re w (.tuple #[.agg #[.bool (nfZ (ux * vy - uy * vx).num), .string (sfZ (ux * vy - uy * vx).num), .string (strOf (ux * vy - uy * vx).den)], .int .i64 0])) := by
 go_enter Tryz.func29, Tryz.ntmps29
 go_wp2_with fail
 obtain ⟨w0, hw, ka, kb, kc, kr, kl, bb⟩ := mk5 w [.bool n0, .string s0, .string d0, .bool n1, .string s1, .string d1] [.bool n2, .string s2, .string d2, .bool n3, .string s3, .string d3] [.bool n4, .string s4, .string d4, .bool n5, .string s5, .string d5] [.bool false, .string { data := #[] }, .string { data := #[] }] [.bool n0, .string s0, .string d0, .bool n1, .string s1, .string d1, .bool n2, .string s2, .string d2, .bool n3, .string s3, .string d3, .bool n4, .string s4, .string d4, .bool n5, .string s5, .string d5] 28 28 28 26 28
 rw [← hw]
 clear hw
 go_fit (HC.out _ _ bb kl)
 rintro e w1 ⟨rfl, b1⟩
 replace ka := ka.below b1
 replace kb := kb.below b1
 replace kc := kc.below b1
 replace kr := kr.below b1
 replace bb := Below.after bb b1
 clear b1 kl
 have tr := kr.lt
 obtain ⟨ca_0, ca_1, ca_2, ca_3, ca_4, ca_5⟩ := xk6 ka
 obtain ⟨cb_6, cb_7, cb_8, cb_9, cb_10, cb_11⟩ := xk6 kb
 obtain ⟨cc_12, cc_13, cc_14, cc_15, cc_16, cc_17⟩ := xk6 kc
 go_wp2_with fail
 clear ca_0 ca_1 ca_2 ca_3 ca_4 ca_5 cb_6 cb_7 cb_8 cb_9 cb_10 cb_11 cc_12 cc_13 cc_14 cc_15 cc_16 cc_17
 have mk : Hid (∀ w', SB w1 w' → xc6 w' w.heap.size (.bool n0) (.string s0) (.string d0) (.bool n1) (.string s1) (.string d1) ∧ xc6 w' (w.heap.size + 1) (.bool n2) (.string s2) (.string d2) (.bool n3) (.string s3) (.string d3) ∧ xc6 w' (w.heap.size + 1 + 1) (.bool n4) (.string s4) (.string d4) (.bool n5) (.string s5) (.string d5)) := fun w' h => ⟨xk6 (ka.below h), xk6 (kb.below h), xk6 (kc.below h)⟩
 go_cut [9, 10] from 20 to 25 (fun v u wx => ∃ gc gd m1 a1 l1 c1 m2 a2 l2 c2 a3 l3 c3 X1 Y1 U1 m4 a4 l4 c4 m5 a5 l5 c5 a6 l6 c6 X4 Y4 U4, v = .pointer (some ⟨gc, 0, none⟩) ∧ u = .pointer (some ⟨gd, 0, none⟩) ∧ w1.heap.size ≤ gc ∧ w1.heap.size ≤ gd ∧ Cel wx gc [.bool m1, .slice a1 l1 c1, .bool m2, .slice a2 l2 c2, .bool false, .slice a3 l3 c3] 74 ∧ Cel wx gd [.bool m4, .slice a4 l4 c4, .bool m5, .slice a5 l5 c5, .bool false, .slice a6 l6 c6] 74 ∧ SpV wx m1 a1 l1 c1 m2 a2 l2 c2 a3 l3 c3 X1 Y1 U1 ux uy ∧ SpV wx m4 a4 l4 c4 m5 a5 l5 c5 a6 l6 c6 X4 Y4 U4 vx vy ∧ Below w1.heap.size w1 wx)
 case first =>
  clear HC
  refine wp_region_held_drew (S := SB w1) (by kernel_rfl) (bdrew _) (fun bc => ?_)
  refine WA.start (n := 10) (by kernel_rfl) ?_
  refine WA.tl 0 rfl ?_
  refine WA.tl 1 rfl ?_
  refine WA.tl 3 rfl ?_
  refine WA.tl 4 rfl ?_
  refine WA.gen2 (i := 6) (s := 9) (i' := 7) (s' := 10) undef undef (Pt w1 [.bool false, .slice none 0 0, .bool false, .slice none 0 0, .bool false, .slice none 0 0] 74) (Pt w1 [.bool false, .slice none 0 0, .bool false, .slice none 0 0, .bool false, .slice none 0 0] 74) (fun b b' x x' hz hy hn => ?_)
  simp only [Act.put, List.setIfInBounds_toArray, List.set_cons_zero, List.set_cons_succ]
  replace hz := P2.mk hz hy hn
  clear hy hn
  revert b b' x x'
  refine WA.two 10 27 2 6 7 rfl rfl rfl bc ?_
  clear bc
  intro b b' x x' w' hz bx bc K hK
  clear bx
  simp only [List.getElem_toArray, List.getElem_cons_succ, List.getElem_cons_zero]
  go_simp
  go_fit (H1.out _)
  rintro e wn ⟨m1, a1, l1, c1, m2, a2, l2, c2, a3, l3, c3, X1, Y1, U1, rfl, sv1, bn⟩
  replace bc := Below.after bc bn
  try go_wp2_with fail
  refine hK.out _ _ bc (fun _ => ?_)
  replace hz := hz.below bn
  clear hK K bn
  revert b b' x x'
  refine WA.two 10 31 5 6 7 rfl rfl rfl bc ?_
  clear bc
  intro b b' x x' w' hz bx bc K hK
  replace sv1 := sv1.below bx
  clear bx
  simp only [List.getElem_toArray, List.getElem_cons_succ, List.getElem_cons_zero]
  go_simp
  go_fit (H2.out _)
  rintro e wn ⟨m4, a4, l4, c4, m5, a5, l5, c5, a6, l6, c6, X4, Y4, U4, rfl, sv4, bn⟩
  replace bc := Below.after bc bn
  try go_wp2_with fail
  refine hK.out _ _ bc (fun _ => ?_)
  replace hz := hz.below bn
  replace sv1 := sv1.below bn
  clear hK K bn
  revert b b' x x'
  refine WA.fin2 6 7 rfl rfl bc ?_
  clear bc
  intro x x' w' hz bx bc
  replace sv1 := sv1.below bx
  replace sv4 := sv4.below bx
  obtain ⟨g0, rfl, h0, k0⟩ := hz.p rfl
  obtain ⟨g1, rfl, h1, k1⟩ := hz.p' rfl
  have n01 : ¬ g0 = g1 := fun e => hz.ne rfl rfl (by rw [e])
  clear bx hz
  have e0_0 := cel6_0 k0
  have f0_0 := Cel.frozen k0 0
  have e0_1 := cel6_1 k0
  have f0_1 := Cel.frozen k0 1
  have e0_2 := cel6_2 k0
  have f0_2 := Cel.frozen k0 2
  have e0_3 := cel6_3 k0
  have f0_3 := Cel.frozen k0 3
  have e0_4 := cel6_4 k0
  have f0_4 := Cel.frozen k0 4
  have e0_5 := cel6_5 k0
  have f0_5 := Cel.frozen k0 5
  refine WA.call 8 rfl (fun K hK => ?_)
  simp only [List.getElem_toArray, List.getElem_cons_succ, List.getElem_cons_zero]
  go_simp
  try go_wp2_with fail
  clear e0_0 f0_0 e0_1 f0_1 e0_2 f0_2 e0_3 f0_3 e0_4 f0_4 e0_5 f0_5
  refine hK.out _ _ (bset (bset (bset (bset (bset (bset bc h0 0 (.bool m1)) h0 1 (.slice a1 l1 c1)) h0 2 (.bool m2)) h0 3 (.slice a2 l2 c2)) h0 4 (.bool false)) h0 5 (.slice a3 l3 c3)) (fun hS => ?_)
  clear hK K
  replace sv1 := sv1.set6 k0 (.bool m1) (.slice a1 l1 c1) (.bool m2) (.slice a2 l2 c2) (.bool false) (.slice a3 l3 c3)
  replace sv4 := sv4.set6 k0 (.bool m1) (.slice a1 l1 c1) (.bool m2) (.slice a2 l2 c2) (.bool false) (.slice a3 l3 c3)
  replace k0 := (Cel.set (Cel.set (Cel.set (Cel.set (Cel.set (Cel.set k0 0 (.bool m1)) 1 (.slice a1 l1 c1)) 2 (.bool m2)) 3 (.slice a2 l2 c2)) 4 (.bool false)) 5 (.slice a3 l3 c3))
  replace k1 := (Cel.other (Cel.other (Cel.other (Cel.other (Cel.other (Cel.other k1 (fun e => n01 e.symm) 0 (.bool m1)) (fun e => n01 e.symm) 1 (.slice a1 l1 c1)) (fun e => n01 e.symm) 2 (.bool m2)) (fun e => n01 e.symm) 3 (.slice a2 l2 c2)) (fun e => n01 e.symm) 4 (.bool false)) (fun e => n01 e.symm) 5 (.slice a3 l3 c3))
  replace bc := (bset (bset (bset (bset (bset (bset bc h0 0 (.bool m1)) h0 1 (.slice a1 l1 c1)) h0 2 (.bool m2)) h0 3 (.slice a2 l2 c2)) h0 4 (.bool false)) h0 5 (.slice a3 l3 c3))
  have e1_0 := cel6_0 k1
  have f1_0 := Cel.frozen k1 0
  have e1_1 := cel6_1 k1
  have f1_1 := Cel.frozen k1 1
  have e1_2 := cel6_2 k1
  have f1_2 := Cel.frozen k1 2
  have e1_3 := cel6_3 k1
  have f1_3 := Cel.frozen k1 3
  have e1_4 := cel6_4 k1
  have f1_4 := Cel.frozen k1 4
  have e1_5 := cel6_5 k1
  have f1_5 := Cel.frozen k1 5
  refine WA.call 9 rfl (fun K hK => ?_)
  simp only [List.getElem_toArray, List.getElem_cons_succ, List.getElem_cons_zero]
  go_simp
  try go_wp2_with fail
  clear e1_0 f1_0 e1_1 f1_1 e1_2 f1_2 e1_3 f1_3 e1_4 f1_4 e1_5 f1_5
  refine hK.out _ _ (bset (bset (bset (bset (bset (bset bc h1 0 (.bool m4)) h1 1 (.slice a4 l4 c4)) h1 2 (.bool m5)) h1 3 (.slice a5 l5 c5)) h1 4 (.bool false)) h1 5 (.slice a6 l6 c6)) (fun hS => ?_)
  clear hK K
  replace sv1 := sv1.set6 k1 (.bool m4) (.slice a4 l4 c4) (.bool m5) (.slice a5 l5 c5) (.bool false) (.slice a6 l6 c6)
  replace sv4 := sv4.set6 k1 (.bool m4) (.slice a4 l4 c4) (.bool m5) (.slice a5 l5 c5) (.bool false) (.slice a6 l6 c6)
  replace k0 := (Cel.other (Cel.other (Cel.other (Cel.other (Cel.other (Cel.other k0 n01 0 (.bool m4)) n01 1 (.slice a4 l4 c4)) n01 2 (.bool m5)) n01 3 (.slice a5 l5 c5)) n01 4 (.bool false)) n01 5 (.slice a6 l6 c6))
  replace k1 := (Cel.set (Cel.set (Cel.set (Cel.set (Cel.set (Cel.set k1 0 (.bool m4)) 1 (.slice a4 l4 c4)) 2 (.bool m5)) 3 (.slice a5 l5 c5)) 4 (.bool false)) 5 (.slice a6 l6 c6))
  replace bc := (bset (bset (bset (bset (bset (bset bc h1 0 (.bool m4)) h1 1 (.slice a4 l4 c4)) h1 2 (.bool m5)) h1 3 (.slice a5 l5 c5)) h1 4 (.bool false)) h1 5 (.slice a6 l6 c6))
  refine WA.done (by kernel_rfl) ?_
  go_wp2_with fail
  go_meet
  exact ⟨_, _, m1, a1, l1, c1, m2, a2, l2, c2, a3, l3, c3, X1, Y1, U1, m4, a4, l4, c4, m5, a5, l5, c5, a6, l6, c6, X4, Y4, U4, rfl, rfl, h0, h1, k0, k1, sv1, sv4, bc⟩
 case rest =>
 obtain ⟨gu, gv, m1, a1, l1, c1, m2, a2, l2, c2, a3, l3, c3, X1, Y1, U1, m4, a4, l4, c4, m5, a5, l5, c5, a6, l6, c6, X4, Y4, U4, rfl, rfl, lu, lv, ku, kv, sv1, sv4, b1⟩ := hcut
 clear mk
 have sz := b1.size
 replace ka := ka.below b1
 replace kb := kb.below b1
 replace kc := kc.below b1
 replace kr := kr.below b1
 replace bb := Below.after bb b1
 clear b1
 have tu := ku.lt
 have tv := kv.lt
 go_wp2_with fail
 obtain ⟨nx, ny, nu, hw1⟩ := sv1
 obtain ⟨nz, nw, nt, hw4⟩ := sv4
 have HS : Hid (∀ w', Below wc.heap.size wc w' → Calls Tryz.prog 77 #[.agg #[.bool m1, .slice a1 l1 c1, .bool m2, .slice a2 l2 c2, .bool false, .slice a3 l3 c3], .agg #[.bool m4, .slice a4 l4 c4, .bool m5, .slice a5 l5 c5, .bool false, .slice a6 l6 c6]] w' fun e w'' => ∃ m a l c, e = .returned (.agg #[.bool m, .slice a l c]) ∧ NV w'' m (.slice a l c) (X1 * Y4 - Y1 * X4) 107 ∧ Below w'.heap.size w' w'') := fun w' b => (scross_any _ _ _ _ _ _ _ _ _ _ _ _ _ _ _ _ _ _ _ _ _ _ _ _ X1 Y1 X4 Y4 53 w' (by omega) (nx.below b) (ny.below b) (nz.below b) (nw.below b)).mono fun e w'' ⟨m, u, h1, h2, h3⟩ => by
  obtain ⟨a, l, c, rfl⟩ := h2.slice
  exact ⟨m, a, l, c, h1, h2, h3⟩
 have HO : Hid (∀ (B : Nat) (m : Bool) (v : Value) (w' : World), Below wc.heap.size wc w' → NV w' m v (X1 * Y4 - Y1 * X4) 107 → Cel w' B [.bool false, .slice a3 l3 c3, .bool false, .slice a6 l6 c6] 72 → Calls Tryz.prog 78 #[.agg #[.bool m, v], .slice (some ⟨B, 0, none⟩) 2 2] w' fun e w'' => e = .returned (.agg #[.bool (nfZ (ux * vy - uy * vx).num), .string (sfZ (ux * vy - uy * vx).num), .string (strOf (ux * vy - uy * vx).den)]) ∧ Below w'.heap.size w' w'') := fun B m v w' b nz hB => by
  have := nover2 m false false v a3 a6 l3 c3 l6 c6 (X1 * Y4 - Y1 * X4) U1 U4 107 B w' (hT.below (Below.after bb b)) (by omega) hw1.1 hw4.1 nz ((nu.below b).mono (by omega)) ((nt.below b).mono (by omega)) hB
  rwa [Gm.area_eq hw1 hw4] at this
 clear nx ny nu hw1 nz nw nt hw4
 have mkS : Hid (∀ w', Cel w' gu [.bool m1, .slice a1 l1 c1, .bool m2, .slice a2 l2 c2, .bool false, .slice a3 l3 c3] 74 → Cel w' gv [.bool m4, .slice a4 l4 c4, .bool m5, .slice a5 l5 c5, .bool false, .slice a6 l6 c6] 74 → (xc6 w' gu (.bool m1) (.slice a1 l1 c1) (.bool m2) (.slice a2 l2 c2) (.bool false) (.slice a3 l3 c3) ∧ xc6 w' gv (.bool m4) (.slice a4 l4 c4) (.bool m5) (.slice a5 l5 c5) (.bool false) (.slice a6 l6 c6))) := fun w' hu hv => ⟨xk6 hu, xk6 hv⟩
 have qu : gu ≠ w.heap.size + 1 + 1 + 1 := by omega
 have qv : gv ≠ w.heap.size + 1 + 1 + 1 := by omega
 have b9 := Below.refl wc.heap.size wc
 go_region_held3 (fun w' => xc6 w' gu (.bool m1) (.slice a1 l1 c1) (.bool m2) (.slice a2 l2 c2) (.bool false) (.slice a3 l3 c3) ∧ xc6 w' gv (.bool m4) (.slice a4 l4 c4) (.bool m5) (.slice a5 l5 c5) (.bool false) (.slice a6 l6 c6)) (first | with_reducible exact mkS.out _ ku kv | with_reducible exact mkS.out _ ku.drew kv.drew | with_reducible exact mkS.out _ (ku.alloc _) (kv.alloc _) | with_reducible exact mkS.out _ (ku.alloc _).drew (kv.alloc _).drew | with_reducible exact mkS.out _ (Cel.other (Cel.other (Cel.other ku qu 0 _) qu 1 _) qu 2 _) (Cel.other (Cel.other (Cel.other kv qv 0 _) qv 1 _) qv 2 _) | exact mkS.out _ ku kv) (first | (go_at_call 77; go_fit (HS.out _ ?_); (first | exact b9 | exact b9.drew | exact ba b9.drew _ | exact (ba b9 _).drew); rintro e wn ⟨m7, a7, l7, c7, rfl, nv7, bn⟩; (first | (have bq : Below wc.heap.size wc wn := (un bn)) | (obtain ⟨kB, bq⟩ := al1e bn)); replace b9 := bq; replace ku := ku.below bq; replace kv := kv.below bq; replace kr := kr.below bq; replace bb := Below.after bb bq) | (go_at_call 78; go_fit (HO.out _ _ _ _ ?_ ?_ ?_); (first | exact b9 | exact ba b9 _); (first | exact nv7 | exact nv7.below (bel_al _ _)); (first | exact kB | exact Cel.new _ _ _); rintro e wm ⟨rfl, bn⟩; (first | (have bq : Below wn.heap.size wn wm := bn; replace ku := ku.below bq; replace kv := kv.below bq; replace kr := kr.below bq; replace bb := Below.after bb bq) | (obtain ⟨-, bq⟩ := al1 bn; replace ku := ku.below bq; replace kv := kv.below bq; replace kr := kr.below bq; replace bb := Below.after bb bq)); have e0 := cel3_0 kr; have f0 := Cel.frozen kr 0; have e1 := cel3_1 kr; have f1 := Cel.frozen kr 1; have e2 := cel3_2 kr; have f2 := Cel.frozen kr 2))
 all_goals go_wp2
 all_goals exact post_q1 (p := 6) (u := 7) (v := .int .i64 0) (by kernel_rfl) rfl rfl rfl (((kr.set 0 _).set 1 _).set 2 _) ⟨rfl, bset (bset (bset bb (by omega) 0 _) (by omega) 1 _) (by omega) 2 _⟩
theorem cCen_ok (n0 n1 n2 n3 n4 n5 : Bool) (s0 d0 s1 d1 s2 d2 s3 d3 s4 d4 s5 d5 : ByteArray) (cx cy : Rat) (rN tN : Bool) (rS rD tS tD : ByteArray) (w : World) (hT : Tab w)
  (HC : Hid (∀ (w1 : World) (B : Nat), Below w.heap.size w w1 → Cel w1 B [.bool n0, .string s0, .string d0, .bool n1, .string s1, .string d1, .bool n2, .string s2, .string d2, .bool n3, .string s3, .string d3, .bool n4, .string s4, .string d4, .bool n5, .string s5, .string d5] 28 → Calls Tryz.prog 45 #[.slice (some ⟨B, 0, none⟩) 3 3] w1 (Re w1 (.int .i64 0))))
  (HT : Hid (∀ w1, Calls Tryz.prog 60 #[.agg #[.bool n0, .string s0, .string d0, .bool n1, .string s1, .string d1], .agg #[.bool n2, .string s2, .string d2, .bool n3, .string s3, .string d3], .agg #[.bool n4, .string s4, .string d4, .bool n5, .string s5, .string d5]] w1 fun e w' => ∃ m0 a0 l0 c0 m1 a1 l1 c1 m2 a2 l2 c2 X Y U, e = .returned (.tuple #[.agg #[.bool m0, .slice a0 l0 c0, .bool m1, .slice a1 l1 c1, .bool m2, .slice a2 l2 c2], .bool true]) ∧ NV w' m0 (.slice a0 l0 c0) X 319 ∧ NV w' m1 (.slice a1 l1 c1) Y 319 ∧ NV w' m2 (.slice a2 l2 c2) U 212 ∧ Gm.Way X Y U cx cy ∧ Below w1.heap.size w1 w'))
  (HP : Hid (∀ w1, Below w.heap.size w w1 → Calls Tryz.prog 53 #[.agg #[.bool n0, .string s0, .string d0, .bool n1, .string s1, .string d1], .agg #[.bool (nfZ cx.num), .string (sfZ cx.num), .string (strOf cx.den), .bool (nfZ cy.num), .string (sfZ cy.num), .string (strOf cy.den)]] w1 (Re w1 (.tuple #[.agg #[.bool rN, .string rS, .string rD, .bool tN, .string tS, .string tD], .int .i64 0])))) :
  Calls Tryz.prog 22 #[.agg #[.bool n0, .string s0, .string d0, .bool n1, .string s1, .string d1], .agg #[.bool n2, .string s2, .string d2, .bool n3, .string s3, .string d3], .agg #[.bool n4, .string s4, .string d4, .bool n5, .string s5, .string d5]] w (Re w (.tuple #[.agg #[.bool rN, .string rS, .string rD, .bool tN, .string tS, .string tD], .int .i64 0])) := by
 go_enter Tryz.func22, Tryz.ntmps22
 go_wp2_with fail
 obtain ⟨w0, hw, ka, kb, kc, kr, kl, bb⟩ := mk5 w [.bool n0, .string s0, .string d0, .bool n1, .string s1, .string d1] [.bool n2, .string s2, .string d2, .bool n3, .string s3, .string d3] [.bool n4, .string s4, .string d4, .bool n5, .string s5, .string d5] [.bool false, .string { data := #[] }, .string { data := #[] }, .bool false, .string { data := #[] }, .string { data := #[] }] [.bool n0, .string s0, .string d0, .bool n1, .string s1, .string d1, .bool n2, .string s2, .string d2, .bool n3, .string s3, .string d3, .bool n4, .string s4, .string d4, .bool n5, .string s5, .string d5] 28 28 28 28 28
 rw [← hw]
 clear hw
 go_fit (HC.out _ _ bb kl)
 rintro e w1 ⟨rfl, b1⟩
 replace ka := ka.below b1
 replace kb := kb.below b1
 replace kc := kc.below b1
 replace kr := kr.below b1
 replace bb := Below.after bb b1
 clear b1 kl
 have tr := kr.lt
 obtain ⟨za0, za1, za2, za3, za4, za5⟩ := xk6 ka
 obtain ⟨zb0, zb1, zb2, zb3, zb4, zb5⟩ := xk6 kb
 obtain ⟨zc0, zc1, zc2, zc3, zc4, zc5⟩ := xk6 kc
 go_wp2_with fail
 clear za0 za1 za2 za3 za4 za5 zb0 zb1 zb2 zb3 zb4 zb5 zc0 zc1 zc2 zc3 zc4 zc5
 go_fit (HT.out _)
 rintro e w2 ⟨m0, a0, l0, c0, m1, a1, l1, c1, m2, a2, l2, c2, X, Y, U, rfl, nx, ny, nu, wy, b1⟩
 have sz := b1.size
 replace ka := ka.below b1
 replace kb := kb.below b1
 replace kc := kc.below b1
 replace kr := kr.below b1
 replace bb := Below.after bb b1
 clear b1
 go_wp2_with fail
 obtain ⟨w3, hw, ky, b1⟩ := mk1 w2 [.bool m0, .slice a0 l0 c0, .bool m1, .slice a1 l1 c1, .bool m2, .slice a2 l2 c2] 74
 rw [← hw]
 clear hw
 have sz := b1.size
 replace ka := ka.below b1
 replace kb := kb.below b1
 replace kc := kc.below b1
 replace kr := kr.below b1
 replace nx := nx.below b1
 replace ny := ny.below b1
 replace nu := nu.below b1
 replace bb := Below.after bb b1
 clear b1
 have ty := ky.lt
 have HM1 : Hid (∀ w1, Below w.heap.size w w1 → Calls Tryz.prog 61 #[.agg #[.bool (nfZ X), .string (sfZ X)], .agg #[.bool (nfZ U), .string (sfZ U)]] w1 (Re w1 (.tuple #[.agg #[.bool (nfZ cx.num), .string (sfZ cx.num), .string (strOf cx.den)], .int .i64 0]))) := fun w1 b => make_way w1 (hT.below b) (nx.bd (by omega)) (nu.bd (by omega)) wy.1 wy.2.1
 have HM2 : Hid (∀ w1, Below w.heap.size w w1 → Calls Tryz.prog 61 #[.agg #[.bool (nfZ Y), .string (sfZ Y)], .agg #[.bool (nfZ U), .string (sfZ U)]] w1 (Re w1 (.tuple #[.agg #[.bool (nfZ cy.num), .string (sfZ cy.num), .string (strOf cy.den)], .int .i64 0]))) := fun w1 b => make_way w1 (hT.below b) (ny.bd (by omega)) (nu.bd (by omega)) wy.1 wy.2.2
 clear wy hT HC HT
 have mk : Hid (∀ w', SB w3 w' → xc6 w' w2.heap.size (.bool m0) (.slice a0 l0 c0) (.bool m1) (.slice a1 l1 c1) (.bool m2) (.slice a2 l2 c2)) := fun w' h => xk6 (ky.below h)
 go_cut [11, 12] from 34 to 43 (fun v y12 wx => ∃ gc, v = .pointer (some ⟨gc, 0, none⟩) ∧ y12 = .int .i64 0 ∧ w3.heap.size ≤ gc ∧ Cel wx gc [.bool (nfZ cx.num), .string (sfZ cx.num), .string (strOf cx.den)] 26 ∧ Below w3.heap.size w3 wx)
 case first =>
  clear HP HM2
  refine wp_region_held_drew (S := SB w3) (by kernel_rfl) (bdrew _) (fun bc => ?_)
  refine WA.start (n := 13) (by kernel_rfl) ?_
  refine WA.tk 0 rfl ?_
  refine WA.tl 1 rfl ?_
  refine WA.tk 3 rfl ?_
  refine WA.tl 4 rfl ?_
  refine WA.gen (i := 10) (s := 11) undef (Pt w3 [.bool false, .string { data := #[] }, .string { data := #[] }] 26) (fun b x hz => ?_)
  simp only [Act.put, List.setIfInBounds_toArray, List.set_cons_zero, List.set_cons_succ]
  revert b x
  refine WA.one 13 27 2 10 rfl rfl bc ?_
  clear bc
  intro b x w' hz bx bc K hK
  clear bx
  simp only [List.getElem_toArray, List.getElem_cons_succ, List.getElem_cons_zero]
  go_simp
  go_fit (nint_any _ _ X 319 _ (by omega) (nx.below bc))
  rintro e wn ⟨rfl, bn⟩
  replace bc := Below.after bc bn
  try go_wp2_with fail
  refine hK.out _ _ bc (fun _ => ?_)
  replace hz := fun h => (hz h).below bn
  clear hK K bn
  revert b x
  refine WA.one 13 31 5 10 rfl rfl bc ?_
  clear bc
  intro b x w' hz bx bc K hK
  clear bx
  simp only [List.getElem_toArray, List.getElem_cons_succ, List.getElem_cons_zero]
  go_simp
  go_fit (nint_any _ _ U 212 _ (by omega) (nu.below bc))
  rintro e wn ⟨rfl, bn⟩
  replace bc := Below.after bc bn
  try go_wp2_with fail
  refine hK.out _ _ bc (fun _ => ?_)
  replace hz := fun h => (hz h).below bn
  clear hK K bn
  revert b x
  refine WA.one 13 63 6 10 rfl rfl bc ?_
  clear bc
  intro b x w' hz bx bc K hK
  clear bx
  simp only [List.getElem_toArray, List.getElem_cons_succ, List.getElem_cons_zero]
  go_simp
  go_fit (HM1.out _ ?_)
  ·exact Below.after bb bc
  rintro e wn ⟨rfl, bn⟩
  replace bc := Below.after bc bn
  try go_wp2_with fail
  refine hK.out _ _ bc (fun _ => ?_)
  replace hz := fun h => (hz h).below bn
  clear hK K bn
  refine WA.tk 7 rfl ?_
  refine WA.tk 8 rfl ?_
  refine WA.tk 9 rfl ?_
  revert b x
  refine WA.fin 10 rfl bc ?_
  clear bc
  intro x w' hz bx bc
  obtain ⟨g0, rfl, h0, k0⟩ := hz
  clear bx
  obtain ⟨e0, e1, e2⟩ := xk3 k0
  have f0 := Cel.frozen k0 0
  have f1 := Cel.frozen k0 1
  have f2 := Cel.frozen k0 2
  refine WA.call 11 rfl (fun K hK => ?_)
  simp only [List.getElem_toArray, List.getElem_cons_succ, List.getElem_cons_zero]
  go_simp
  try go_wp2_with fail
  clear e0 f0 e1 f1 e2 f2
  replace bc := (bset (bset (bset bc h0 0 (.bool (nfZ cx.num))) h0 1 (.string (sfZ cx.num))) h0 2 (.string (strOf cx.den)))
  refine hK.out _ _ bc (fun _ => ?_)
  clear hK K
  replace k0 := (Cel.set (Cel.set (Cel.set k0 0 (.bool (nfZ cx.num))) 1 (.string (sfZ cx.num))) 2 (.string (strOf cx.den)))
  refine WA.tk 12 rfl ?_
  refine WA.done (by kernel_rfl) ?_
  go_wp2_with fail
  go_meet
  exact ⟨_, rfl, rfl, h0, k0, bc⟩
 case rest =>
 obtain ⟨gp, rfl, rfl, lp, kp, b1⟩ := hcut
 clear mk; have sz := b1.size
 replace ka := ka.below b1
 replace kb := kb.below b1
 replace kc := kc.below b1
 replace kr := kr.below b1
 replace ky := ky.below b1
 replace bb := Below.after bb b1
 replace ny := ny.below b1
 replace nu := nu.below b1
 clear b1
 have tp := kp.lt
 clear HM1 nx
 go_wp2_with fail
 have mk : Hid (∀ w', SB wc w' → xc6 w' w2.heap.size (.bool m0) (.slice a0 l0 c0) (.bool m1) (.slice a1 l1 c1) (.bool m2) (.slice a2 l2 c2)) := fun w' h => xk6 (ky.below h)
 go_cut [13, 14] from 44 to 53 (fun v y14 wx => ∃ gc, v = .pointer (some ⟨gc, 0, none⟩) ∧ y14 = .int .i64 0 ∧ wc.heap.size ≤ gc ∧ Cel wx gc [.bool (nfZ cy.num), .string (sfZ cy.num), .string (strOf cy.den)] 26 ∧ Below wc.heap.size wc wx)
 case first =>
  clear HP
  refine wp_region_held_drew (S := SB wc) (by kernel_rfl) (bdrew _) (fun bc => ?_)
  refine WA.start (n := 13) (by kernel_rfl) ?_
  refine WA.tk 0 rfl ?_
  refine WA.tl 1 rfl ?_
  refine WA.tk 3 rfl ?_
  refine WA.tl 4 rfl ?_
  refine WA.gen (i := 10) (s := 13) undef (Pt wc [.bool false, .string { data := #[] }, .string { data := #[] }] 26) (fun b x hz => ?_)
  simp only [Act.put, List.setIfInBounds_toArray, List.set_cons_zero, List.set_cons_succ]
  revert b x
  refine WA.one 13 27 2 10 rfl rfl bc ?_
  clear bc
  intro b x w' hz bx bc K hK
  clear bx
  simp only [List.getElem_toArray, List.getElem_cons_succ, List.getElem_cons_zero]
  go_simp
  go_fit (nint_any _ _ Y 319 _ (by omega) (ny.below bc))
  rintro e wn ⟨rfl, bn⟩
  replace bc := Below.after bc bn
  try go_wp2_with fail
  refine hK.out _ _ bc (fun _ => ?_)
  replace hz := fun h => (hz h).below bn
  clear hK K bn
  revert b x
  refine WA.one 13 31 5 10 rfl rfl bc ?_
  clear bc
  intro b x w' hz bx bc K hK
  clear bx
  simp only [List.getElem_toArray, List.getElem_cons_succ, List.getElem_cons_zero]
  go_simp
  go_fit (nint_any _ _ U 212 _ (by omega) (nu.below bc))
  rintro e wn ⟨rfl, bn⟩
  replace bc := Below.after bc bn
  try go_wp2_with fail
  refine hK.out _ _ bc (fun _ => ?_)
  replace hz := fun h => (hz h).below bn
  clear hK K bn
  revert b x
  refine WA.one 13 63 6 10 rfl rfl bc ?_
  clear bc
  intro b x w' hz bx bc K hK
  clear bx
  simp only [List.getElem_toArray, List.getElem_cons_succ, List.getElem_cons_zero]
  go_simp
  go_fit (HM2.out _ ?_)
  ·exact Below.after bb bc
  rintro e wn ⟨rfl, bn⟩
  replace bc := Below.after bc bn
  try go_wp2_with fail
  refine hK.out _ _ bc (fun _ => ?_)
  replace hz := fun h => (hz h).below bn
  clear hK K bn
  refine WA.tk 7 rfl ?_
  refine WA.tk 8 rfl ?_
  refine WA.tk 9 rfl ?_
  revert b x
  refine WA.fin 10 rfl bc ?_
  clear bc
  intro x w' hz bx bc
  obtain ⟨g0, rfl, h0, k0⟩ := hz
  clear bx
  obtain ⟨e0, e1, e2⟩ := xk3 k0
  have f0 := Cel.frozen k0 0
  have f1 := Cel.frozen k0 1
  have f2 := Cel.frozen k0 2
  refine WA.call 11 rfl (fun K hK => ?_)
  simp only [List.getElem_toArray, List.getElem_cons_succ, List.getElem_cons_zero]
  go_simp
  try go_wp2_with fail
  clear e0 f0 e1 f1 e2 f2
  replace bc := (bset (bset (bset bc h0 0 (.bool (nfZ cy.num))) h0 1 (.string (sfZ cy.num))) h0 2 (.string (strOf cy.den)))
  refine hK.out _ _ bc (fun _ => ?_)
  clear hK K
  replace k0 := (Cel.set (Cel.set (Cel.set k0 0 (.bool (nfZ cy.num))) 1 (.string (sfZ cy.num))) 2 (.string (strOf cy.den)))
  refine WA.tk 12 rfl ?_
  refine WA.done (by kernel_rfl) ?_
  go_wp2_with fail
  go_meet
  exact ⟨_, rfl, rfl, h0, k0, bc⟩
 case rest =>
 obtain ⟨gq, rfl, rfl, lq, kq, b1⟩ := hcut
 clear mk; have sz := b1.size
 replace ka := ka.below b1
 replace kb := kb.below b1
 replace kc := kc.below b1
 replace kr := kr.below b1
 replace ky := ky.below b1
 replace kp := kp.below b1
 replace bb := Below.after bb b1
 clear b1
 have tq := kq.lt
 clear HM2 ny nu
 obtain ⟨ca_0, ca_1, ca_2, ca_3, ca_4, ca_5⟩ := xk6 ka
 obtain ⟨cp_6, cp_7, cp_8⟩ := xk3 kp
 obtain ⟨cq_9, cq_10, cq_11⟩ := xk3 kq
 go_wp2_with fail
 clear ca_0 ca_1 ca_2 ca_3 ca_4 ca_5 cp_6 cp_7 cp_8 cq_9 cq_10 cq_11
 go_fit (HP.out _ bb)
 rintro e w5 ⟨rfl, b1⟩
 replace kr := kr.below b1
 replace bb := Below.after bb b1
 clear b1
 obtain ⟨e0, e1, e2, e3, e4, e5⟩ := xk6 kr
 have f0 := Cel.frozen kr 0
 have f1 := Cel.frozen kr 1
 have f2 := Cel.frozen kr 2
 have f3 := Cel.frozen kr 3
 have f4 := Cel.frozen kr 4
 have f5 := Cel.frozen kr 5
 go_wp2
 exact post_p1 (p := 6) (u := 7) (v := .int .i64 0) (by kernel_rfl) rfl rfl rfl (kr.set6 _ _ _ _ _ _) ⟨rfl, bset6 bb (by omega) _ _ _ _ _ _⟩
theorem cSharp_ok (n0 n1 n2 n3 n4 n5 : Bool) (s0 d0 s1 d1 s2 d2 s3 d3 s4 d4 s5 d5 : ByteArray) (ux uy vx vy : Rat) (w : World)
  (HC : Hid (∀ (w1 : World) (B : Nat), Below w.heap.size w w1 → Cel w1 B [.bool n0, .string s0, .string d0, .bool n1, .string s1, .string d1, .bool n2, .string s2, .string d2, .bool n3, .string s3, .string d3, .bool n4, .string s4, .string d4, .bool n5, .string s5, .string d5] 28 → Calls Tryz.prog 45 #[.slice (some ⟨B, 0, none⟩) 3 3] w1 (Re w1 (.int .i64 0))))
  (q1 : ∀ w1, (binOp .eql 28 (.agg #[.bool n2, .string s2, .string d2, .bool n3, .string s3, .string d3]) (.agg #[.bool n0, .string s0, .string d0, .bool n1, .string s1, .string d1])).run Tryz.prog w1 = .ok (.bool false) w1)
  (q2 : ∀ w1, (binOp .eql 28 (.agg #[.bool n2, .string s2, .string d2, .bool n3, .string s3, .string d3]) (.agg #[.bool n4, .string s4, .string d4, .bool n5, .string s5, .string d5])).run Tryz.prog w1 = .ok (.bool false) w1)
  (H1 : Hid (∀ w1, Calls Tryz.prog 70 #[.agg #[.bool n2, .string s2, .string d2, .bool n3, .string s3, .string d3], .agg #[.bool n0, .string s0, .string d0, .bool n1, .string s1, .string d1]] w1 fun e w' => ∃ m0 a0 l0 c0 m1 a1 l1 c1 a2 l2 c2 X Y U, e = .returned (.agg #[.bool m0, .slice a0 l0 c0, .bool m1, .slice a1 l1 c1, .bool false, .slice a2 l2 c2]) ∧ SpV w' m0 a0 l0 c0 m1 a1 l1 c1 a2 l2 c2 X Y U ux uy ∧ Below w1.heap.size w1 w'))
  (H2 : Hid (∀ w1, Calls Tryz.prog 70 #[.agg #[.bool n2, .string s2, .string d2, .bool n3, .string s3, .string d3], .agg #[.bool n4, .string s4, .string d4, .bool n5, .string s5, .string d5]] w1 fun e w' => ∃ m0 a0 l0 c0 m1 a1 l1 c1 a2 l2 c2 X Y U, e = .returned (.agg #[.bool m0, .slice a0 l0 c0, .bool m1, .slice a1 l1 c1, .bool false, .slice a2 l2 c2]) ∧ SpV w' m0 a0 l0 c0 m1 a1 l1 c1 a2 l2 c2 X Y U vx vy ∧ Below w1.heap.size w1 w')) (hd : ¬ Gm.sg (ux * vx + uy * vy) ≤ 0) :
  Calls Tryz.prog 28 #[.agg #[.bool n0, .string s0, .string d0, .bool n1, .string s1, .string d1], .agg #[.bool n2, .string s2, .string d2, .bool n3, .string s3, .string d3], .agg #[.bool n4, .string s4, .string d4, .bool n5, .string s5, .string d5]] w (Re w (.tuple #[.bool (decide (0 < Gm.sg (4 * ((ux * vx + uy * vy) * (ux * vx + uy * vy)) - (ux * ux + uy * uy) * (vx * vx + vy * vy)))), .int .i64 0])) := by
 go_enter Tryz.func28, Tryz.ntmps28
 go_wp2_with fail
 obtain ⟨w0, hw, ka, kb, kc, kl, bb⟩ := mk4 w [.bool n0, .string s0, .string d0, .bool n1, .string s1, .string d1] [.bool n2, .string s2, .string d2, .bool n3, .string s3, .string d3] [.bool n4, .string s4, .string d4, .bool n5, .string s5, .string d5] [.bool n0, .string s0, .string d0, .bool n1, .string s1, .string d1, .bool n2, .string s2, .string d2, .bool n3, .string s3, .string d3, .bool n4, .string s4, .string d4, .bool n5, .string s5, .string d5] 28 28 28 28
 rw [← hw]
 clear hw
 go_fit (HC.out _ _ bb kl)
 rintro e w1 ⟨rfl, b1⟩
 replace ka := ka.below b1
 replace kb := kb.below b1
 replace kc := kc.below b1
 replace bb := Below.after bb b1
 clear b1 kl
 obtain ⟨ca_0, ca_1, ca_2, ca_3, ca_4, ca_5⟩ := xk6 ka
 obtain ⟨cb_6, cb_7, cb_8, cb_9, cb_10, cb_11⟩ := xk6 kb
 obtain ⟨cc_12, cc_13, cc_14, cc_15, cc_16, cc_17⟩ := xk6 kc
 go_wp2_with fail
 clear ca_0 ca_1 ca_2 ca_3 ca_4 ca_5 cb_6 cb_7 cb_8 cb_9 cb_10 cb_11 cc_12 cc_13 cc_14 cc_15 cc_16 cc_17
 have mk : Hid (∀ w', SB w1 w' → xc6 w' w.heap.size (.bool n0) (.string s0) (.string d0) (.bool n1) (.string s1) (.string d1) ∧ xc6 w' (w.heap.size + 1) (.bool n2) (.string s2) (.string d2) (.bool n3) (.string s3) (.string d3) ∧ xc6 w' (w.heap.size + 1 + 1) (.bool n4) (.string s4) (.string d4) (.bool n5) (.string s5) (.string d5)) := fun w' h => ⟨xk6 (ka.below h), xk6 (kb.below h), xk6 (kc.below h)⟩
 go_cut [9, 10] from 29 to 34 (fun v u wx => ∃ gc gd m1 a1 l1 c1 m2 a2 l2 c2 a3 l3 c3 X1 Y1 U1 m4 a4 l4 c4 m5 a5 l5 c5 a6 l6 c6 X4 Y4 U4, v = .pointer (some ⟨gc, 0, none⟩) ∧ u = .pointer (some ⟨gd, 0, none⟩) ∧ w1.heap.size ≤ gc ∧ w1.heap.size ≤ gd ∧ Cel wx gc [.bool m1, .slice a1 l1 c1, .bool m2, .slice a2 l2 c2, .bool false, .slice a3 l3 c3] 74 ∧ Cel wx gd [.bool m4, .slice a4 l4 c4, .bool m5, .slice a5 l5 c5, .bool false, .slice a6 l6 c6] 74 ∧ SpV wx m1 a1 l1 c1 m2 a2 l2 c2 a3 l3 c3 X1 Y1 U1 ux uy ∧ SpV wx m4 a4 l4 c4 m5 a5 l5 c5 a6 l6 c6 X4 Y4 U4 vx vy ∧ Below w1.heap.size w1 wx)
 case first =>
  clear HC q1 q2
  refine wp_region_held_drew (S := SB w1) (by kernel_rfl) (bdrew _) (fun bc => ?_)
  refine WA.start (n := 10) (by kernel_rfl) ?_
  refine WA.tl 0 rfl ?_
  refine WA.tl 1 rfl ?_
  refine WA.tl 3 rfl ?_
  refine WA.tl 4 rfl ?_
  refine WA.gen2 (i := 6) (s := 9) (i' := 7) (s' := 10) undef undef (Pt w1 [.bool false, .slice none 0 0, .bool false, .slice none 0 0, .bool false, .slice none 0 0] 74) (Pt w1 [.bool false, .slice none 0 0, .bool false, .slice none 0 0, .bool false, .slice none 0 0] 74) (fun b b' x x' hz hy hn => ?_)
  simp only [Act.put, List.setIfInBounds_toArray, List.set_cons_zero, List.set_cons_succ]
  replace hz := P2.mk hz hy hn
  clear hy hn
  revert b b' x x'
  refine WA.two 10 27 2 6 7 rfl rfl rfl bc ?_
  clear bc
  intro b b' x x' w' hz bx bc K hK
  clear bx
  simp only [List.getElem_toArray, List.getElem_cons_succ, List.getElem_cons_zero]
  go_simp
  go_fit (H1.out _)
  rintro e wn ⟨m1, a1, l1, c1, m2, a2, l2, c2, a3, l3, c3, X1, Y1, U1, rfl, sv1, bn⟩
  replace bc := Below.after bc bn
  try go_wp2_with fail
  refine hK.out _ _ bc (fun _ => ?_)
  replace hz := hz.below bn
  clear hK K bn
  revert b b' x x'
  refine WA.two 10 31 5 6 7 rfl rfl rfl bc ?_
  clear bc
  intro b b' x x' w' hz bx bc K hK
  replace sv1 := sv1.below bx
  clear bx
  simp only [List.getElem_toArray, List.getElem_cons_succ, List.getElem_cons_zero]
  go_simp
  go_fit (H2.out _)
  rintro e wn ⟨m4, a4, l4, c4, m5, a5, l5, c5, a6, l6, c6, X4, Y4, U4, rfl, sv4, bn⟩
  replace bc := Below.after bc bn
  try go_wp2_with fail
  refine hK.out _ _ bc (fun _ => ?_)
  replace hz := hz.below bn
  replace sv1 := sv1.below bn
  clear hK K bn
  revert b b' x x'
  refine WA.fin2 6 7 rfl rfl bc ?_
  clear bc
  intro x x' w' hz bx bc
  replace sv1 := sv1.below bx
  replace sv4 := sv4.below bx
  obtain ⟨g0, rfl, h0, k0⟩ := hz.p rfl
  obtain ⟨g1, rfl, h1, k1⟩ := hz.p' rfl
  have n01 : ¬ g0 = g1 := fun e => hz.ne rfl rfl (by rw [e])
  clear bx hz
  have e0_0 := cel6_0 k0
  have f0_0 := Cel.frozen k0 0
  have e0_1 := cel6_1 k0
  have f0_1 := Cel.frozen k0 1
  have e0_2 := cel6_2 k0
  have f0_2 := Cel.frozen k0 2
  have e0_3 := cel6_3 k0
  have f0_3 := Cel.frozen k0 3
  have e0_4 := cel6_4 k0
  have f0_4 := Cel.frozen k0 4
  have e0_5 := cel6_5 k0
  have f0_5 := Cel.frozen k0 5
  refine WA.call 8 rfl (fun K hK => ?_)
  simp only [List.getElem_toArray, List.getElem_cons_succ, List.getElem_cons_zero]
  go_simp
  try go_wp2_with fail
  clear e0_0 f0_0 e0_1 f0_1 e0_2 f0_2 e0_3 f0_3 e0_4 f0_4 e0_5 f0_5
  refine hK.out _ _ (bset (bset (bset (bset (bset (bset bc h0 0 (.bool m1)) h0 1 (.slice a1 l1 c1)) h0 2 (.bool m2)) h0 3 (.slice a2 l2 c2)) h0 4 (.bool false)) h0 5 (.slice a3 l3 c3)) (fun hS => ?_)
  clear hK K
  replace sv1 := sv1.set6 k0 (.bool m1) (.slice a1 l1 c1) (.bool m2) (.slice a2 l2 c2) (.bool false) (.slice a3 l3 c3)
  replace sv4 := sv4.set6 k0 (.bool m1) (.slice a1 l1 c1) (.bool m2) (.slice a2 l2 c2) (.bool false) (.slice a3 l3 c3)
  replace k0 := (Cel.set (Cel.set (Cel.set (Cel.set (Cel.set (Cel.set k0 0 (.bool m1)) 1 (.slice a1 l1 c1)) 2 (.bool m2)) 3 (.slice a2 l2 c2)) 4 (.bool false)) 5 (.slice a3 l3 c3))
  replace k1 := (Cel.other (Cel.other (Cel.other (Cel.other (Cel.other (Cel.other k1 (fun e => n01 e.symm) 0 (.bool m1)) (fun e => n01 e.symm) 1 (.slice a1 l1 c1)) (fun e => n01 e.symm) 2 (.bool m2)) (fun e => n01 e.symm) 3 (.slice a2 l2 c2)) (fun e => n01 e.symm) 4 (.bool false)) (fun e => n01 e.symm) 5 (.slice a3 l3 c3))
  replace bc := (bset (bset (bset (bset (bset (bset bc h0 0 (.bool m1)) h0 1 (.slice a1 l1 c1)) h0 2 (.bool m2)) h0 3 (.slice a2 l2 c2)) h0 4 (.bool false)) h0 5 (.slice a3 l3 c3))
  have e1_0 := cel6_0 k1
  have f1_0 := Cel.frozen k1 0
  have e1_1 := cel6_1 k1
  have f1_1 := Cel.frozen k1 1
  have e1_2 := cel6_2 k1
  have f1_2 := Cel.frozen k1 2
  have e1_3 := cel6_3 k1
  have f1_3 := Cel.frozen k1 3
  have e1_4 := cel6_4 k1
  have f1_4 := Cel.frozen k1 4
  have e1_5 := cel6_5 k1
  have f1_5 := Cel.frozen k1 5
  refine WA.call 9 rfl (fun K hK => ?_)
  simp only [List.getElem_toArray, List.getElem_cons_succ, List.getElem_cons_zero]
  go_simp
  try go_wp2_with fail
  clear e1_0 f1_0 e1_1 f1_1 e1_2 f1_2 e1_3 f1_3 e1_4 f1_4 e1_5 f1_5
  refine hK.out _ _ (bset (bset (bset (bset (bset (bset bc h1 0 (.bool m4)) h1 1 (.slice a4 l4 c4)) h1 2 (.bool m5)) h1 3 (.slice a5 l5 c5)) h1 4 (.bool false)) h1 5 (.slice a6 l6 c6)) (fun hS => ?_)
  clear hK K
  replace sv1 := sv1.set6 k1 (.bool m4) (.slice a4 l4 c4) (.bool m5) (.slice a5 l5 c5) (.bool false) (.slice a6 l6 c6)
  replace sv4 := sv4.set6 k1 (.bool m4) (.slice a4 l4 c4) (.bool m5) (.slice a5 l5 c5) (.bool false) (.slice a6 l6 c6)
  replace k0 := (Cel.other (Cel.other (Cel.other (Cel.other (Cel.other (Cel.other k0 n01 0 (.bool m4)) n01 1 (.slice a4 l4 c4)) n01 2 (.bool m5)) n01 3 (.slice a5 l5 c5)) n01 4 (.bool false)) n01 5 (.slice a6 l6 c6))
  replace k1 := (Cel.set (Cel.set (Cel.set (Cel.set (Cel.set (Cel.set k1 0 (.bool m4)) 1 (.slice a4 l4 c4)) 2 (.bool m5)) 3 (.slice a5 l5 c5)) 4 (.bool false)) 5 (.slice a6 l6 c6))
  replace bc := (bset (bset (bset (bset (bset (bset bc h1 0 (.bool m4)) h1 1 (.slice a4 l4 c4)) h1 2 (.bool m5)) h1 3 (.slice a5 l5 c5)) h1 4 (.bool false)) h1 5 (.slice a6 l6 c6))
  refine WA.done (by kernel_rfl) ?_
  go_wp2_with fail
  go_meet
  exact ⟨_, _, m1, a1, l1, c1, m2, a2, l2, c2, a3, l3, c3, X1, Y1, U1, m4, a4, l4, c4, m5, a5, l5, c5, a6, l6, c6, X4, Y4, U4, rfl, rfl, h0, h1, k0, k1, sv1, sv4, bc⟩
 case rest =>
 obtain ⟨gu, gv, m1, a1, l1, c1, m2, a2, l2, c2, a3, l3, c3, X1, Y1, U1, m4, a4, l4, c4, m5, a5, l5, c5, a6, l6, c6, X4, Y4, U4, rfl, rfl, lu, lv, ku, kv, sv1, sv4, b1⟩ := hcut
 clear mk
 have sz := b1.size
 replace ka := ka.below b1
 replace kb := kb.below b1
 replace kc := kc.below b1
 replace bb := Below.after bb b1
 clear b1
 have tu := ku.lt
 have tv := kv.lt
 obtain ⟨cu_0, cu_1, cu_2, cu_3, cu_4, cu_5⟩ := xk6 ku
 obtain ⟨cv_6, cv_7, cv_8, cv_9, cv_10, cv_11⟩ := xk6 kv
 go_wp2_with fail
 clear cu_0 cu_1 cu_2 cu_3 cu_4 cu_5 cv_6 cv_7 cv_8 cv_9 cv_10 cv_11
 go_fit (sdot_any _ _ _ _ _ _ _ _ _ _ _ _ _ _ _ _ _ _ _ _ _ _ _ _ X1 Y1 X4 Y4 53 _ (by omega) sv1.1 sv1.2.1 sv4.1 sv4.2.1)
 rintro e w2 ⟨m7, v7, rfl, nv7, b1⟩
 obtain ⟨a7, l7, c7, rfl⟩ := nv7.slice
 replace ka := ka.below b1
 replace kb := kb.below b1
 replace kc := kc.below b1
 replace ku := ku.below b1
 replace kv := kv.below b1
 replace sv1 := sv1.below b1
 replace sv4 := sv4.below b1
 replace bb := Below.after bb b1
 clear b1
 go_wp2_with fail
 go_fit (nsign_any _ _ (X1 * X4 + Y1 * Y4) (53 + 53 + 1) _ (nv7.below (bel_al _ _)))
 rintro e w3 ⟨rfl, b1⟩
 obtain ⟨kt, b1⟩ := al1 b1
 replace ka := ka.below b1
 replace kb := kb.below b1
 replace kc := kc.below b1
 replace ku := ku.below b1
 replace kv := kv.below b1
 replace sv1 := sv1.below b1
 replace sv4 := sv4.below b1
 replace nv7 := nv7.below b1
 replace bb := Below.after bb b1
 clear b1
 rw [Gm.dot_sign sv1.2.2.2 sv4.2.2.2]
 obtain ⟨ct_0, ct_1⟩ := xk2 kt
 go_wp2_with fail
 clear ct_0 ct_1
 go_fit (nplus_any _ _ _ _ (X1 * X4 + Y1 * Y4) (X1 * X4 + Y1 * Y4) (53 + 53 + 1) _ (by omega) nv7 nv7)
 rintro e w4 ⟨m8, v8, rfl, nv8, b1⟩
 obtain ⟨a8, l8, c8, rfl⟩ := nv8.slice
 replace ka := ka.below b1
 replace kb := kb.below b1
 replace kc := kc.below b1
 replace ku := ku.below b1
 replace kv := kv.below b1
 replace kt := kt.below b1
 replace sv1 := sv1.below b1
 replace sv4 := sv4.below b1
 replace bb := Below.after bb b1
 clear b1
 go_wp2_with fail
 obtain ⟨w5, hw, kd, b1⟩ := mk1 w4 [.bool m8, .slice a8 l8 c8] 72
 rw [← hw]
 clear hw
 replace ka := ka.below b1
 replace kb := kb.below b1
 replace kc := kc.below b1
 replace ku := ku.below b1
 replace kv := kv.below b1
 replace kt := kt.below b1
 replace sv1 := sv1.below b1
 replace sv4 := sv4.below b1
 replace nv8 := nv8.below b1
 replace bb := Below.after bb b1
 clear b1
 obtain ⟨nx, ny, -, hw1⟩ := sv1
 obtain ⟨nz, nw, -, hw4⟩ := sv4
 have mkS : Hid (∀ w', Cel w' (gu) [.bool m1, .slice a1 l1 c1, .bool m2, .slice a2 l2 c2, .bool false, .slice a3 l3 c3] 74 → Cel w' (gv) [.bool m4, .slice a4 l4 c4, .bool m5, .slice a5 l5 c5, .bool false, .slice a6 l6 c6] 74 → Cel w' (w4.heap.size) [.bool m8, .slice a8 l8 c8] 72 → (xc6 w' gu (.bool m1) (.slice a1 l1 c1) (.bool m2) (.slice a2 l2 c2) (.bool false) (.slice a3 l3 c3) ∧ xc6 w' gv (.bool m4) (.slice a4 l4 c4) (.bool m5) (.slice a5 l5 c5) (.bool false) (.slice a6 l6 c6) ∧ xc2 w' w4.heap.size (.bool m8) (.slice a8 l8 c8))) := fun w' hu hv hd => ⟨xk6 hu, xk6 hv, xk2 hd⟩
 go_region_held3 (fun w' => xc6 w' gu (.bool m1) (.slice a1 l1 c1) (.bool m2) (.slice a2 l2 c2) (.bool false) (.slice a3 l3 c3) ∧ xc6 w' gv (.bool m4) (.slice a4 l4 c4) (.bool m5) (.slice a5 l5 c5) (.bool false) (.slice a6 l6 c6) ∧ xc2 w' w4.heap.size (.bool m8) (.slice a8 l8 c8)) (first | with_reducible exact mkS.out _ ku kv kd | exact mkS.out _ ku kv kd) (first | (go_at_call 74; go_fit (ntimes_any _ _ _ _ (X1 * X4 + Y1 * Y4 + (X1 * X4 + Y1 * Y4)) (X1 * X4 + Y1 * Y4 + (X1 * X4 + Y1 * Y4)) (53 + 53 + 1 + 1) (53 + 53 + 1 + 1) _ (by omega) (by omega) ?_ ?_); (first | exact nv8 | exact nv8.drew); (first | exact nv8 | exact nv8.drew); rintro e wn ⟨m9, v9, rfl, nv9, -, bn⟩; obtain ⟨a9, l9, c9, rfl⟩ := nv9.slice; replace ku := ku.below (un bn); replace kv := kv.below (un bn); replace kd := kd.below (un bn); (try replace nx := nx.below (un bn)); (try replace ny := ny.below (un bn)); (try replace nz := nz.below (un bn)); (try replace nw := nw.below (un bn)); (try replace nv8 := nv8.below (un bn)); (try replace nv10 := nv10.below (un bn)); (try replace nv11 := nv11.below (un bn)); (try replace nv12 := nv12.below (un bn)); (try replace nv13 := nv13.below (un bn)); replace bb := Below.after bb (un bn)) | (go_at_call 76; go_fit (ssquare_any _ _ _ _ _ _ _ _ _ _ _ _ X1 Y1 53 _ (by omega) ?_ ?_); (first | exact nx | exact nx.drew); (first | exact ny | exact ny.drew); rintro e wn ⟨m10, v10, rfl, nv10, bn⟩; obtain ⟨a10, l10, c10, rfl⟩ := nv10.slice; replace ku := ku.below (un bn); replace kv := kv.below (un bn); replace kd := kd.below (un bn); (try replace nx := nx.below (un bn)); (try replace ny := ny.below (un bn)); (try replace nz := nz.below (un bn)); (try replace nw := nw.below (un bn)); (try replace nv8 := nv8.below (un bn)); (try replace nv9 := nv9.below (un bn)); (try replace nv11 := nv11.below (un bn)); (try replace nv12 := nv12.below (un bn)); (try replace nv13 := nv13.below (un bn)); replace bb := Below.after bb (un bn)) | (go_at_call 76; go_fit (ssquare_any _ _ _ _ _ _ _ _ _ _ _ _ X4 Y4 53 _ (by omega) ?_ ?_); (first | exact nz | exact nz.drew); (first | exact nw | exact nw.drew); rintro e wn ⟨m11, v11, rfl, nv11, bn⟩; obtain ⟨a11, l11, c11, rfl⟩ := nv11.slice; replace ku := ku.below (un bn); replace kv := kv.below (un bn); replace kd := kd.below (un bn); (try replace nx := nx.below (un bn)); (try replace ny := ny.below (un bn)); (try replace nz := nz.below (un bn)); (try replace nw := nw.below (un bn)); (try replace nv8 := nv8.below (un bn)); (try replace nv9 := nv9.below (un bn)); (try replace nv10 := nv10.below (un bn)); (try replace nv12 := nv12.below (un bn)); (try replace nv13 := nv13.below (un bn)); replace bb := Below.after bb (un bn)) | (go_at_call 74; go_fit (ntimes_any _ _ _ _ (X1 * X1 + Y1 * Y1) (X4 * X4 + Y4 * Y4) (53 + 53 + 1) (53 + 53 + 1) _ (by omega) (by omega) ?_ ?_); (first | exact nv10 | exact nv10.drew); (first | exact nv11 | exact nv11.drew); rintro e wn ⟨m12, v12, rfl, nv12, -, bn⟩; obtain ⟨a12, l12, c12, rfl⟩ := nv12.slice; replace ku := ku.below (un bn); replace kv := kv.below (un bn); replace kd := kd.below (un bn); (try replace nx := nx.below (un bn)); (try replace ny := ny.below (un bn)); (try replace nz := nz.below (un bn)); (try replace nw := nw.below (un bn)); (try replace nv8 := nv8.below (un bn)); (try replace nv9 := nv9.below (un bn)); (try replace nv10 := nv10.below (un bn)); (try replace nv11 := nv11.below (un bn)); (try replace nv13 := nv13.below (un bn)); replace bb := Below.after bb (un bn)) | (go_at_call 75; go_fit (nminus_any _ _ _ _ ((X1 * X4 + Y1 * Y4 + (X1 * X4 + Y1 * Y4)) * (X1 * X4 + Y1 * Y4 + (X1 * X4 + Y1 * Y4))) ((X1 * X1 + Y1 * Y1) * (X4 * X4 + Y4 * Y4)) 216 _ (by omega) ?_ ?_); exact nv9.mono (by omega); exact nv12.mono (by omega); rintro e wn ⟨m13, v13, rfl, nv13, bn⟩; obtain ⟨a13, l13, c13, rfl⟩ := nv13.slice; replace ku := ku.below (un bn); replace kv := kv.below (un bn); replace kd := kd.below (un bn); (try replace nx := nx.below (un bn)); (try replace ny := ny.below (un bn)); (try replace nz := nz.below (un bn)); (try replace nw := nw.below (un bn)); (try replace nv8 := nv8.below (un bn)); (try replace nv9 := nv9.below (un bn)); (try replace nv10 := nv10.below (un bn)); (try replace nv11 := nv11.below (un bn)); (try replace nv12 := nv12.below (un bn)); replace bb := Below.after bb (un bn)) | (go_at_call 72; go_fit (nsign_any _ _ ((X1 * X4 + Y1 * Y4 + (X1 * X4 + Y1 * Y4)) * (X1 * X4 + Y1 * Y4 + (X1 * X4 + Y1 * Y4)) - (X1 * X1 + Y1 * Y1) * (X4 * X4 + Y4 * Y4)) 217 _ ?_); exact nv13.mono (by omega); rintro e wn ⟨rfl, bn⟩; replace ku := ku.below (un bn); replace kv := kv.below (un bn); replace kd := kd.below (un bn); (try replace nx := nx.below (un bn)); (try replace ny := ny.below (un bn)); (try replace nz := nz.below (un bn)); (try replace nw := nw.below (un bn)); (try replace nv8 := nv8.below (un bn)); (try replace nv9 := nv9.below (un bn)); (try replace nv10 := nv10.below (un bn)); (try replace nv11 := nv11.below (un bn)); (try replace nv12 := nv12.below (un bn)); (try replace nv13 := nv13.below (un bn)); replace bb := Below.after bb (un bn)))
 go_wp2
 go_ret2
 refine ⟨?_, bb⟩
 rw [← decide_eq_decide.2 (sharp_less hw1 hw4)]
 rfl
theorem cSharp_no (n0 n1 n2 n3 n4 n5 : Bool) (s0 d0 s1 d1 s2 d2 s3 d3 s4 d4 s5 d5 : ByteArray) (ux uy vx vy : Rat) (w : World)
  (HC : Hid (∀ (w1 : World) (B : Nat), Below w.heap.size w w1 → Cel w1 B [.bool n0, .string s0, .string d0, .bool n1, .string s1, .string d1, .bool n2, .string s2, .string d2, .bool n3, .string s3, .string d3, .bool n4, .string s4, .string d4, .bool n5, .string s5, .string d5] 28 → Calls Tryz.prog 45 #[.slice (some ⟨B, 0, none⟩) 3 3] w1 (Re w1 (.int .i64 0))))
  (q1 : ∀ w1, (binOp .eql 28 (.agg #[.bool n2, .string s2, .string d2, .bool n3, .string s3, .string d3]) (.agg #[.bool n0, .string s0, .string d0, .bool n1, .string s1, .string d1])).run Tryz.prog w1 = .ok (.bool false) w1)
  (q2 : ∀ w1, (binOp .eql 28 (.agg #[.bool n2, .string s2, .string d2, .bool n3, .string s3, .string d3]) (.agg #[.bool n4, .string s4, .string d4, .bool n5, .string s5, .string d5])).run Tryz.prog w1 = .ok (.bool false) w1)
  (H1 : Hid (∀ w1, Calls Tryz.prog 70 #[.agg #[.bool n2, .string s2, .string d2, .bool n3, .string s3, .string d3], .agg #[.bool n0, .string s0, .string d0, .bool n1, .string s1, .string d1]] w1 fun e w' => ∃ m0 a0 l0 c0 m1 a1 l1 c1 a2 l2 c2 X Y U, e = .returned (.agg #[.bool m0, .slice a0 l0 c0, .bool m1, .slice a1 l1 c1, .bool false, .slice a2 l2 c2]) ∧ SpV w' m0 a0 l0 c0 m1 a1 l1 c1 a2 l2 c2 X Y U ux uy ∧ Below w1.heap.size w1 w'))
  (H2 : Hid (∀ w1, Calls Tryz.prog 70 #[.agg #[.bool n2, .string s2, .string d2, .bool n3, .string s3, .string d3], .agg #[.bool n4, .string s4, .string d4, .bool n5, .string s5, .string d5]] w1 fun e w' => ∃ m0 a0 l0 c0 m1 a1 l1 c1 a2 l2 c2 X Y U, e = .returned (.agg #[.bool m0, .slice a0 l0 c0, .bool m1, .slice a1 l1 c1, .bool false, .slice a2 l2 c2]) ∧ SpV w' m0 a0 l0 c0 m1 a1 l1 c1 a2 l2 c2 X Y U vx vy ∧ Below w1.heap.size w1 w')) (hd : Gm.sg (ux * vx + uy * vy) ≤ 0) :
  Calls Tryz.prog 28 #[.agg #[.bool n0, .string s0, .string d0, .bool n1, .string s1, .string d1], .agg #[.bool n2, .string s2, .string d2, .bool n3, .string s3, .string d3], .agg #[.bool n4, .string s4, .string d4, .bool n5, .string s5, .string d5]] w (Re w (.tuple #[.bool false, .int .i64 0])) := by
 go_enter Tryz.func28, Tryz.ntmps28
 go_wp2_with fail
 obtain ⟨w0, hw, ka, kb, kc, kl, bb⟩ := mk4 w [.bool n0, .string s0, .string d0, .bool n1, .string s1, .string d1] [.bool n2, .string s2, .string d2, .bool n3, .string s3, .string d3] [.bool n4, .string s4, .string d4, .bool n5, .string s5, .string d5] [.bool n0, .string s0, .string d0, .bool n1, .string s1, .string d1, .bool n2, .string s2, .string d2, .bool n3, .string s3, .string d3, .bool n4, .string s4, .string d4, .bool n5, .string s5, .string d5] 28 28 28 28
 rw [← hw]
 clear hw
 go_fit (HC.out _ _ bb kl)
 rintro e w1 ⟨rfl, b1⟩
 replace ka := ka.below b1
 replace kb := kb.below b1
 replace kc := kc.below b1
 replace bb := Below.after bb b1
 clear b1 kl
 obtain ⟨ca_0, ca_1, ca_2, ca_3, ca_4, ca_5⟩ := xk6 ka
 obtain ⟨cb_6, cb_7, cb_8, cb_9, cb_10, cb_11⟩ := xk6 kb
 obtain ⟨cc_12, cc_13, cc_14, cc_15, cc_16, cc_17⟩ := xk6 kc
 go_wp2_with fail
 clear ca_0 ca_1 ca_2 ca_3 ca_4 ca_5 cb_6 cb_7 cb_8 cb_9 cb_10 cb_11 cc_12 cc_13 cc_14 cc_15 cc_16 cc_17
 have mk : Hid (∀ w', SB w1 w' → xc6 w' w.heap.size (.bool n0) (.string s0) (.string d0) (.bool n1) (.string s1) (.string d1) ∧ xc6 w' (w.heap.size + 1) (.bool n2) (.string s2) (.string d2) (.bool n3) (.string s3) (.string d3) ∧ xc6 w' (w.heap.size + 1 + 1) (.bool n4) (.string s4) (.string d4) (.bool n5) (.string s5) (.string d5)) := fun w' h => ⟨xk6 (ka.below h), xk6 (kb.below h), xk6 (kc.below h)⟩
 go_cut [9, 10] from 29 to 34 (fun v u wx => ∃ gc gd m1 a1 l1 c1 m2 a2 l2 c2 a3 l3 c3 X1 Y1 U1 m4 a4 l4 c4 m5 a5 l5 c5 a6 l6 c6 X4 Y4 U4, v = .pointer (some ⟨gc, 0, none⟩) ∧ u = .pointer (some ⟨gd, 0, none⟩) ∧ w1.heap.size ≤ gc ∧ w1.heap.size ≤ gd ∧ Cel wx gc [.bool m1, .slice a1 l1 c1, .bool m2, .slice a2 l2 c2, .bool false, .slice a3 l3 c3] 74 ∧ Cel wx gd [.bool m4, .slice a4 l4 c4, .bool m5, .slice a5 l5 c5, .bool false, .slice a6 l6 c6] 74 ∧ SpV wx m1 a1 l1 c1 m2 a2 l2 c2 a3 l3 c3 X1 Y1 U1 ux uy ∧ SpV wx m4 a4 l4 c4 m5 a5 l5 c5 a6 l6 c6 X4 Y4 U4 vx vy ∧ Below w1.heap.size w1 wx)
 case first =>
  clear HC q1 q2
  refine wp_region_held_drew (S := SB w1) (by kernel_rfl) (bdrew _) (fun bc => ?_)
  refine WA.start (n := 10) (by kernel_rfl) ?_
  refine WA.tl 0 rfl ?_
  refine WA.tl 1 rfl ?_
  refine WA.tl 3 rfl ?_
  refine WA.tl 4 rfl ?_
  refine WA.gen2 (i := 6) (s := 9) (i' := 7) (s' := 10) undef undef (Pt w1 [.bool false, .slice none 0 0, .bool false, .slice none 0 0, .bool false, .slice none 0 0] 74) (Pt w1 [.bool false, .slice none 0 0, .bool false, .slice none 0 0, .bool false, .slice none 0 0] 74) (fun b b' x x' hz hy hn => ?_)
  simp only [Act.put, List.setIfInBounds_toArray, List.set_cons_zero, List.set_cons_succ]
  replace hz := P2.mk hz hy hn
  clear hy hn
  revert b b' x x'
  refine WA.two 10 27 2 6 7 rfl rfl rfl bc ?_
  clear bc
  intro b b' x x' w' hz bx bc K hK
  clear bx
  simp only [List.getElem_toArray, List.getElem_cons_succ, List.getElem_cons_zero]
  go_simp
  go_fit (H1.out _)
  rintro e wn ⟨m1, a1, l1, c1, m2, a2, l2, c2, a3, l3, c3, X1, Y1, U1, rfl, sv1, bn⟩
  replace bc := Below.after bc bn
  try go_wp2_with fail
  refine hK.out _ _ bc (fun _ => ?_)
  replace hz := hz.below bn
  clear hK K bn
  revert b b' x x'
  refine WA.two 10 31 5 6 7 rfl rfl rfl bc ?_
  clear bc
  intro b b' x x' w' hz bx bc K hK
  replace sv1 := sv1.below bx
  clear bx
  simp only [List.getElem_toArray, List.getElem_cons_succ, List.getElem_cons_zero]
  go_simp
  go_fit (H2.out _)
  rintro e wn ⟨m4, a4, l4, c4, m5, a5, l5, c5, a6, l6, c6, X4, Y4, U4, rfl, sv4, bn⟩
  replace bc := Below.after bc bn
  try go_wp2_with fail
  refine hK.out _ _ bc (fun _ => ?_)
  replace hz := hz.below bn
  replace sv1 := sv1.below bn
  clear hK K bn
  revert b b' x x'
  refine WA.fin2 6 7 rfl rfl bc ?_
  clear bc
  intro x x' w' hz bx bc
  replace sv1 := sv1.below bx
  replace sv4 := sv4.below bx
  obtain ⟨g0, rfl, h0, k0⟩ := hz.p rfl
  obtain ⟨g1, rfl, h1, k1⟩ := hz.p' rfl
  have n01 : ¬ g0 = g1 := fun e => hz.ne rfl rfl (by rw [e])
  clear bx hz
  have e0_0 := cel6_0 k0
  have f0_0 := Cel.frozen k0 0
  have e0_1 := cel6_1 k0
  have f0_1 := Cel.frozen k0 1
  have e0_2 := cel6_2 k0
  have f0_2 := Cel.frozen k0 2
  have e0_3 := cel6_3 k0
  have f0_3 := Cel.frozen k0 3
  have e0_4 := cel6_4 k0
  have f0_4 := Cel.frozen k0 4
  have e0_5 := cel6_5 k0
  have f0_5 := Cel.frozen k0 5
  refine WA.call 8 rfl (fun K hK => ?_)
  simp only [List.getElem_toArray, List.getElem_cons_succ, List.getElem_cons_zero]
  go_simp
  try go_wp2_with fail
  clear e0_0 f0_0 e0_1 f0_1 e0_2 f0_2 e0_3 f0_3 e0_4 f0_4 e0_5 f0_5
  refine hK.out _ _ (bset (bset (bset (bset (bset (bset bc h0 0 (.bool m1)) h0 1 (.slice a1 l1 c1)) h0 2 (.bool m2)) h0 3 (.slice a2 l2 c2)) h0 4 (.bool false)) h0 5 (.slice a3 l3 c3)) (fun hS => ?_)
  clear hK K
  replace sv1 := sv1.set6 k0 (.bool m1) (.slice a1 l1 c1) (.bool m2) (.slice a2 l2 c2) (.bool false) (.slice a3 l3 c3)
  replace sv4 := sv4.set6 k0 (.bool m1) (.slice a1 l1 c1) (.bool m2) (.slice a2 l2 c2) (.bool false) (.slice a3 l3 c3)
  replace k0 := (Cel.set (Cel.set (Cel.set (Cel.set (Cel.set (Cel.set k0 0 (.bool m1)) 1 (.slice a1 l1 c1)) 2 (.bool m2)) 3 (.slice a2 l2 c2)) 4 (.bool false)) 5 (.slice a3 l3 c3))
  replace k1 := (Cel.other (Cel.other (Cel.other (Cel.other (Cel.other (Cel.other k1 (fun e => n01 e.symm) 0 (.bool m1)) (fun e => n01 e.symm) 1 (.slice a1 l1 c1)) (fun e => n01 e.symm) 2 (.bool m2)) (fun e => n01 e.symm) 3 (.slice a2 l2 c2)) (fun e => n01 e.symm) 4 (.bool false)) (fun e => n01 e.symm) 5 (.slice a3 l3 c3))
  replace bc := (bset (bset (bset (bset (bset (bset bc h0 0 (.bool m1)) h0 1 (.slice a1 l1 c1)) h0 2 (.bool m2)) h0 3 (.slice a2 l2 c2)) h0 4 (.bool false)) h0 5 (.slice a3 l3 c3))
  have e1_0 := cel6_0 k1
  have f1_0 := Cel.frozen k1 0
  have e1_1 := cel6_1 k1
  have f1_1 := Cel.frozen k1 1
  have e1_2 := cel6_2 k1
  have f1_2 := Cel.frozen k1 2
  have e1_3 := cel6_3 k1
  have f1_3 := Cel.frozen k1 3
  have e1_4 := cel6_4 k1
  have f1_4 := Cel.frozen k1 4
  have e1_5 := cel6_5 k1
  have f1_5 := Cel.frozen k1 5
  refine WA.call 9 rfl (fun K hK => ?_)
  simp only [List.getElem_toArray, List.getElem_cons_succ, List.getElem_cons_zero]
  go_simp
  try go_wp2_with fail
  clear e1_0 f1_0 e1_1 f1_1 e1_2 f1_2 e1_3 f1_3 e1_4 f1_4 e1_5 f1_5
  refine hK.out _ _ (bset (bset (bset (bset (bset (bset bc h1 0 (.bool m4)) h1 1 (.slice a4 l4 c4)) h1 2 (.bool m5)) h1 3 (.slice a5 l5 c5)) h1 4 (.bool false)) h1 5 (.slice a6 l6 c6)) (fun hS => ?_)
  clear hK K
  replace sv1 := sv1.set6 k1 (.bool m4) (.slice a4 l4 c4) (.bool m5) (.slice a5 l5 c5) (.bool false) (.slice a6 l6 c6)
  replace sv4 := sv4.set6 k1 (.bool m4) (.slice a4 l4 c4) (.bool m5) (.slice a5 l5 c5) (.bool false) (.slice a6 l6 c6)
  replace k0 := (Cel.other (Cel.other (Cel.other (Cel.other (Cel.other (Cel.other k0 n01 0 (.bool m4)) n01 1 (.slice a4 l4 c4)) n01 2 (.bool m5)) n01 3 (.slice a5 l5 c5)) n01 4 (.bool false)) n01 5 (.slice a6 l6 c6))
  replace k1 := (Cel.set (Cel.set (Cel.set (Cel.set (Cel.set (Cel.set k1 0 (.bool m4)) 1 (.slice a4 l4 c4)) 2 (.bool m5)) 3 (.slice a5 l5 c5)) 4 (.bool false)) 5 (.slice a6 l6 c6))
  replace bc := (bset (bset (bset (bset (bset (bset bc h1 0 (.bool m4)) h1 1 (.slice a4 l4 c4)) h1 2 (.bool m5)) h1 3 (.slice a5 l5 c5)) h1 4 (.bool false)) h1 5 (.slice a6 l6 c6))
  refine WA.done (by kernel_rfl) ?_
  go_wp2_with fail
  go_meet
  exact ⟨_, _, m1, a1, l1, c1, m2, a2, l2, c2, a3, l3, c3, X1, Y1, U1, m4, a4, l4, c4, m5, a5, l5, c5, a6, l6, c6, X4, Y4, U4, rfl, rfl, h0, h1, k0, k1, sv1, sv4, bc⟩
 case rest =>
 obtain ⟨gu, gv, m1, a1, l1, c1, m2, a2, l2, c2, a3, l3, c3, X1, Y1, U1, m4, a4, l4, c4, m5, a5, l5, c5, a6, l6, c6, X4, Y4, U4, rfl, rfl, lu, lv, ku, kv, sv1, sv4, b1⟩ := hcut
 clear mk
 have sz := b1.size
 replace ka := ka.below b1
 replace kb := kb.below b1
 replace kc := kc.below b1
 replace bb := Below.after bb b1
 clear b1
 have tu := ku.lt
 have tv := kv.lt
 obtain ⟨cu_0, cu_1, cu_2, cu_3, cu_4, cu_5⟩ := xk6 ku
 obtain ⟨cv_6, cv_7, cv_8, cv_9, cv_10, cv_11⟩ := xk6 kv
 go_wp2_with fail
 clear cu_0 cu_1 cu_2 cu_3 cu_4 cu_5 cv_6 cv_7 cv_8 cv_9 cv_10 cv_11
 go_fit (sdot_any _ _ _ _ _ _ _ _ _ _ _ _ _ _ _ _ _ _ _ _ _ _ _ _ X1 Y1 X4 Y4 53 _ (by omega) sv1.1 sv1.2.1 sv4.1 sv4.2.1)
 rintro e w2 ⟨m7, v7, rfl, nv7, b1⟩
 obtain ⟨a7, l7, c7, rfl⟩ := nv7.slice
 replace ka := ka.below b1
 replace kb := kb.below b1
 replace kc := kc.below b1
 replace ku := ku.below b1
 replace kv := kv.below b1
 replace sv1 := sv1.below b1
 replace sv4 := sv4.below b1
 replace bb := Below.after bb b1
 clear b1
 go_wp2_with fail
 go_fit (nsign_any _ _ (X1 * X4 + Y1 * Y4) (53 + 53 + 1) _ (nv7.below (bel_al _ _)))
 rintro e w3 ⟨rfl, b1⟩
 obtain ⟨kt, b1⟩ := al1 b1
 replace ka := ka.below b1
 replace kb := kb.below b1
 replace kc := kc.below b1
 replace ku := ku.below b1
 replace kv := kv.below b1
 replace sv1 := sv1.below b1
 replace sv4 := sv4.below b1
 replace nv7 := nv7.below b1
 replace bb := Below.after bb b1
 clear b1
 rw [Gm.dot_sign sv1.2.2.2 sv4.2.2.2]
 go_wp2
 go_ret2
 exact ⟨rfl, bb⟩
theorem toC_flat (n0 n1 n2 n3 n4 n5 : Bool) (s0 d0 s1 d1 s2 d2 s3 d3 s4 d4 s5 d5 : ByteArray) (ux uy vx vy : Rat) (w : World) (h0 : Gm.sg (ux * vy - uy * vx) = 0)
  (H1 : Hid (∀ w1, Calls Tryz.prog 70 #[.agg #[.bool n0, .string s0, .string d0, .bool n1, .string s1, .string d1], .agg #[.bool n2, .string s2, .string d2, .bool n3, .string s3, .string d3]] w1 fun e w' => ∃ m0 a0 l0 c0 m1 a1 l1 c1 a2 l2 c2 X Y U, e = .returned (.agg #[.bool m0, .slice a0 l0 c0, .bool m1, .slice a1 l1 c1, .bool false, .slice a2 l2 c2]) ∧ SpV w' m0 a0 l0 c0 m1 a1 l1 c1 a2 l2 c2 X Y U ux uy ∧ Below w1.heap.size w1 w'))
  (H2 : Hid (∀ w1, Calls Tryz.prog 70 #[.agg #[.bool n0, .string s0, .string d0, .bool n1, .string s1, .string d1], .agg #[.bool n4, .string s4, .string d4, .bool n5, .string s5, .string d5]] w1 fun e w' => ∃ m0 a0 l0 c0 m1 a1 l1 c1 a2 l2 c2 X Y U, e = .returned (.agg #[.bool m0, .slice a0 l0 c0, .bool m1, .slice a1 l1 c1, .bool false, .slice a2 l2 c2]) ∧ SpV w' m0 a0 l0 c0 m1 a1 l1 c1 a2 l2 c2 X Y U vx vy ∧ Below w1.heap.size w1 w')) :
  Calls Tryz.prog 60 #[.agg #[.bool n0, .string s0, .string d0, .bool n1, .string s1, .string d1], .agg #[.bool n2, .string s2, .string d2, .bool n3, .string s3, .string d3], .agg #[.bool n4, .string s4, .string d4, .bool n5, .string s5, .string d5]] w (Re w (.tuple #[.agg #[.bool false, .slice none 0 0, .bool false, .slice none 0 0, .bool false, .slice none 0 0], .bool false])) := by
 go_enter Tryz.func60, Tryz.ntmps60
 go_wp2_with fail
 obtain ⟨w1, hw, ka, kb, kc, kr, bb⟩ := mk4 w [.bool n0, .string s0, .string d0, .bool n1, .string s1, .string d1] [.bool n2, .string s2, .string d2, .bool n3, .string s3, .string d3] [.bool n4, .string s4, .string d4, .bool n5, .string s5, .string d5] [.bool false, .slice none 0 0, .bool false, .slice none 0 0, .bool false, .slice none 0 0] 28 28 28 74
 rw [← hw]
 clear hw
 have tr := kr.lt
 have mk : Hid (∀ w', SB w1 w' → xc6 w' w.heap.size (.bool n0) (.string s0) (.string d0) (.bool n1) (.string s1) (.string d1) ∧ xc6 w' (w.heap.size + 1) (.bool n2) (.string s2) (.string d2) (.bool n3) (.string s3) (.string d3) ∧ xc6 w' (w.heap.size + 1 + 1) (.bool n4) (.string s4) (.string d4) (.bool n5) (.string s5) (.string d5)) := fun w' h => ⟨xk6 (ka.below h), xk6 (kb.below h), xk6 (kc.below h)⟩
 go_cut [8, 9] from 14 to 19 (fun v u wx => ∃ gc gd m1 a1 l1 c1 m2 a2 l2 c2 a3 l3 c3 X1 Y1 U1 m4 a4 l4 c4 m5 a5 l5 c5 a6 l6 c6 X4 Y4 U4, v = .pointer (some ⟨gc, 0, none⟩) ∧ u = .pointer (some ⟨gd, 0, none⟩) ∧ w1.heap.size ≤ gc ∧ w1.heap.size ≤ gd ∧ Cel wx gc [.bool m1, .slice a1 l1 c1, .bool m2, .slice a2 l2 c2, .bool false, .slice a3 l3 c3] 74 ∧ Cel wx gd [.bool m4, .slice a4 l4 c4, .bool m5, .slice a5 l5 c5, .bool false, .slice a6 l6 c6] 74 ∧ SpV wx m1 a1 l1 c1 m2 a2 l2 c2 a3 l3 c3 X1 Y1 U1 ux uy ∧ SpV wx m4 a4 l4 c4 m5 a5 l5 c5 a6 l6 c6 X4 Y4 U4 vx vy ∧ Below w1.heap.size w1 wx)
 case first =>
  clear h0
  refine wp_region_held_drew (S := SB w1) (by kernel_rfl) (bdrew _) (fun bc => ?_)
  refine WA.start (n := 10) (by kernel_rfl) ?_
  refine WA.tl 0 rfl ?_
  refine WA.tl 1 rfl ?_
  refine WA.tl 3 rfl ?_
  refine WA.tl 4 rfl ?_
  refine WA.gen2 (i := 6) (s := 8) (i' := 7) (s' := 9) undef undef (Pt w1 [.bool false, .slice none 0 0, .bool false, .slice none 0 0, .bool false, .slice none 0 0] 74) (Pt w1 [.bool false, .slice none 0 0, .bool false, .slice none 0 0, .bool false, .slice none 0 0] 74) (fun b b' x x' hz hy hn => ?_)
  simp only [Act.put, List.setIfInBounds_toArray, List.set_cons_zero, List.set_cons_succ]
  replace hz := P2.mk hz hy hn
  clear hy hn
  revert b b' x x'
  refine WA.two 10 27 2 6 7 rfl rfl rfl bc ?_
  clear bc
  intro b b' x x' w' hz bx bc K hK
  clear bx
  simp only [List.getElem_toArray, List.getElem_cons_succ, List.getElem_cons_zero]
  go_simp
  go_fit (H1.out _)
  rintro e wn ⟨m1, a1, l1, c1, m2, a2, l2, c2, a3, l3, c3, X1, Y1, U1, rfl, sv1, bn⟩
  replace bc := Below.after bc bn
  try go_wp2_with fail
  refine hK.out _ _ bc (fun _ => ?_)
  replace hz := hz.below bn
  clear hK K bn
  revert b b' x x'
  refine WA.two 10 31 5 6 7 rfl rfl rfl bc ?_
  clear bc
  intro b b' x x' w' hz bx bc K hK
  replace sv1 := sv1.below bx
  clear bx
  simp only [List.getElem_toArray, List.getElem_cons_succ, List.getElem_cons_zero]
  go_simp
  go_fit (H2.out _)
  rintro e wn ⟨m4, a4, l4, c4, m5, a5, l5, c5, a6, l6, c6, X4, Y4, U4, rfl, sv4, bn⟩
  replace bc := Below.after bc bn
  try go_wp2_with fail
  refine hK.out _ _ bc (fun _ => ?_)
  replace hz := hz.below bn
  replace sv1 := sv1.below bn
  clear hK K bn
  revert b b' x x'
  refine WA.fin2 6 7 rfl rfl bc ?_
  clear bc
  intro x x' w' hz bx bc
  replace sv1 := sv1.below bx
  replace sv4 := sv4.below bx
  obtain ⟨g0, rfl, h0, k0⟩ := hz.p rfl
  obtain ⟨g1, rfl, h1, k1⟩ := hz.p' rfl
  have n01 : ¬ g0 = g1 := fun e => hz.ne rfl rfl (by rw [e])
  clear bx hz
  have e0_0 := cel6_0 k0
  have f0_0 := Cel.frozen k0 0
  have e0_1 := cel6_1 k0
  have f0_1 := Cel.frozen k0 1
  have e0_2 := cel6_2 k0
  have f0_2 := Cel.frozen k0 2
  have e0_3 := cel6_3 k0
  have f0_3 := Cel.frozen k0 3
  have e0_4 := cel6_4 k0
  have f0_4 := Cel.frozen k0 4
  have e0_5 := cel6_5 k0
  have f0_5 := Cel.frozen k0 5
  refine WA.call 8 rfl (fun K hK => ?_)
  simp only [List.getElem_toArray, List.getElem_cons_succ, List.getElem_cons_zero]
  go_simp
  try go_wp2_with fail
  clear e0_0 f0_0 e0_1 f0_1 e0_2 f0_2 e0_3 f0_3 e0_4 f0_4 e0_5 f0_5
  refine hK.out _ _ (bset (bset (bset (bset (bset (bset bc h0 0 (.bool m1)) h0 1 (.slice a1 l1 c1)) h0 2 (.bool m2)) h0 3 (.slice a2 l2 c2)) h0 4 (.bool false)) h0 5 (.slice a3 l3 c3)) (fun hS => ?_)
  clear hK K
  replace sv1 := sv1.set6 k0 (.bool m1) (.slice a1 l1 c1) (.bool m2) (.slice a2 l2 c2) (.bool false) (.slice a3 l3 c3)
  replace sv4 := sv4.set6 k0 (.bool m1) (.slice a1 l1 c1) (.bool m2) (.slice a2 l2 c2) (.bool false) (.slice a3 l3 c3)
  replace k0 := (Cel.set (Cel.set (Cel.set (Cel.set (Cel.set (Cel.set k0 0 (.bool m1)) 1 (.slice a1 l1 c1)) 2 (.bool m2)) 3 (.slice a2 l2 c2)) 4 (.bool false)) 5 (.slice a3 l3 c3))
  replace k1 := (Cel.other (Cel.other (Cel.other (Cel.other (Cel.other (Cel.other k1 (fun e => n01 e.symm) 0 (.bool m1)) (fun e => n01 e.symm) 1 (.slice a1 l1 c1)) (fun e => n01 e.symm) 2 (.bool m2)) (fun e => n01 e.symm) 3 (.slice a2 l2 c2)) (fun e => n01 e.symm) 4 (.bool false)) (fun e => n01 e.symm) 5 (.slice a3 l3 c3))
  replace bc := (bset (bset (bset (bset (bset (bset bc h0 0 (.bool m1)) h0 1 (.slice a1 l1 c1)) h0 2 (.bool m2)) h0 3 (.slice a2 l2 c2)) h0 4 (.bool false)) h0 5 (.slice a3 l3 c3))
  have e1_0 := cel6_0 k1
  have f1_0 := Cel.frozen k1 0
  have e1_1 := cel6_1 k1
  have f1_1 := Cel.frozen k1 1
  have e1_2 := cel6_2 k1
  have f1_2 := Cel.frozen k1 2
  have e1_3 := cel6_3 k1
  have f1_3 := Cel.frozen k1 3
  have e1_4 := cel6_4 k1
  have f1_4 := Cel.frozen k1 4
  have e1_5 := cel6_5 k1
  have f1_5 := Cel.frozen k1 5
  refine WA.call 9 rfl (fun K hK => ?_)
  simp only [List.getElem_toArray, List.getElem_cons_succ, List.getElem_cons_zero]
  go_simp
  try go_wp2_with fail
  clear e1_0 f1_0 e1_1 f1_1 e1_2 f1_2 e1_3 f1_3 e1_4 f1_4 e1_5 f1_5
  refine hK.out _ _ (bset (bset (bset (bset (bset (bset bc h1 0 (.bool m4)) h1 1 (.slice a4 l4 c4)) h1 2 (.bool m5)) h1 3 (.slice a5 l5 c5)) h1 4 (.bool false)) h1 5 (.slice a6 l6 c6)) (fun hS => ?_)
  clear hK K
  replace sv1 := sv1.set6 k1 (.bool m4) (.slice a4 l4 c4) (.bool m5) (.slice a5 l5 c5) (.bool false) (.slice a6 l6 c6)
  replace sv4 := sv4.set6 k1 (.bool m4) (.slice a4 l4 c4) (.bool m5) (.slice a5 l5 c5) (.bool false) (.slice a6 l6 c6)
  replace k0 := (Cel.other (Cel.other (Cel.other (Cel.other (Cel.other (Cel.other k0 n01 0 (.bool m4)) n01 1 (.slice a4 l4 c4)) n01 2 (.bool m5)) n01 3 (.slice a5 l5 c5)) n01 4 (.bool false)) n01 5 (.slice a6 l6 c6))
  replace k1 := (Cel.set (Cel.set (Cel.set (Cel.set (Cel.set (Cel.set k1 0 (.bool m4)) 1 (.slice a4 l4 c4)) 2 (.bool m5)) 3 (.slice a5 l5 c5)) 4 (.bool false)) 5 (.slice a6 l6 c6))
  replace bc := (bset (bset (bset (bset (bset (bset bc h1 0 (.bool m4)) h1 1 (.slice a4 l4 c4)) h1 2 (.bool m5)) h1 3 (.slice a5 l5 c5)) h1 4 (.bool false)) h1 5 (.slice a6 l6 c6))
  refine WA.done (by kernel_rfl) ?_
  go_wp2_with fail
  go_meet
  exact ⟨_, _, m1, a1, l1, c1, m2, a2, l2, c2, a3, l3, c3, X1, Y1, U1, m4, a4, l4, c4, m5, a5, l5, c5, a6, l6, c6, X4, Y4, U4, rfl, rfl, h0, h1, k0, k1, sv1, sv4, bc⟩
 case rest =>
 obtain ⟨gu, gv, m1, a1, l1, c1, m2, a2, l2, c2, a3, l3, c3, X1, Y1, U1, m4, a4, l4, c4, m5, a5, l5, c5, a6, l6, c6, X4, Y4, U4, rfl, rfl, lu, lv, ku, kv, sv1, sv4, b1⟩ := hcut
 clear mk
 have sz := b1.size
 replace ka := ka.below b1
 replace kb := kb.below b1
 replace kc := kc.below b1
 replace kr := kr.below b1
 replace bb := Below.after bb b1
 clear b1
 have tu := ku.lt
 have tv := kv.lt
 obtain ⟨cu_0, cu_1, cu_2, cu_3, cu_4, cu_5⟩ := xk6 ku
 obtain ⟨cv_6, cv_7, cv_8, cv_9, cv_10, cv_11⟩ := xk6 kv
 go_wp2_with fail
 clear cu_0 cu_1 cu_2 cu_3 cu_4 cu_5 cv_6 cv_7 cv_8 cv_9 cv_10 cv_11
 go_fit (scross_any _ _ _ _ _ _ _ _ _ _ _ _ _ _ _ _ _ _ _ _ _ _ _ _ X1 Y1 X4 Y4 53 _ (by omega) sv1.1 sv1.2.1 sv4.1 sv4.2.1)
 rintro e w2 ⟨m7, v7, rfl, nv7, b1⟩
 obtain ⟨a7, l7, c7, rfl⟩ := nv7.slice
 replace ka := ka.below b1
 replace kb := kb.below b1
 replace kc := kc.below b1
 replace kr := kr.below b1
 replace ku := ku.below b1
 replace kv := kv.below b1
 replace sv1 := sv1.below b1
 replace sv4 := sv4.below b1
 replace bb := Below.after bb b1
 clear b1
 go_wp2_with fail
 go_fit (nsign_any _ _ (X1 * Y4 - Y1 * X4) (53 + 53 + 1) _ (nv7.below (bel_al _ _)))
 rintro e w3 ⟨rfl, b1⟩
 obtain ⟨kt, b1⟩ := al1 b1
 replace ka := ka.below b1
 replace kb := kb.below b1
 replace kc := kc.below b1
 replace kr := kr.below b1
 replace ku := ku.below b1
 replace kv := kv.below b1
 replace sv1 := sv1.below b1
 replace sv4 := sv4.below b1
 replace nv7 := nv7.below b1
 replace bb := Below.after bb b1
 clear b1
 rw [Gm.cross_sign sv1.2.2.2 sv4.2.2.2]
 rw [h0]
 have cr_0 := cel6_0 kr
 have fr_1 := Cel.frozen kr 0
 have cr_2 := cel6_1 kr
 have fr_3 := Cel.frozen kr 1
 have cr_4 := cel6_2 kr
 have fr_5 := Cel.frozen kr 2
 have cr_6 := cel6_3 kr
 have fr_7 := Cel.frozen kr 3
 have cr_8 := cel6_4 kr
 have fr_9 := Cel.frozen kr 4
 have cr_10 := cel6_5 kr
 have fr_11 := Cel.frozen kr 5
 go_wp2
 exact post_s1 (p := 6) (u := 7) (v := .bool false) (by kernel_rfl) rfl rfl rfl (kr.set6 _ _ _ _ _ _) ⟨rfl, bset6 bb (by omega) _ _ _ _ _ _⟩
end Go.Proofs.YtiiigiggcbbgjaaGreatDoor
