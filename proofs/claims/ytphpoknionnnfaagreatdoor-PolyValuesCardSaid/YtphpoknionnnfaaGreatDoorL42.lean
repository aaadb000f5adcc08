/-
  Package poly: Loads, where it refuses; Eval, walked.
  Package poly: (sample).part.
-/
import Derived.Test.YtphpoknionnnfaaGreatDoorL50
set_option maxRecDepth 100000
set_option maxHeartbeats 16000000
namespace Go.Proofs.YtphpoknionnnfaaGreatDoor
open Go.RowKit
theorem load_a9 {w : World} {g : Nat} {cs : List Value} (h : Cel w g cs 43) (hl : cs.length = 9) : (loadVar 43 ⟨g, 0, none⟩).run Tryz.prog w = .ok (.agg cs.toArray) w :=
 run_loadVar_row w g 43 43 cs.toArray (0, 0) _ h Tryz.underlying43 rfl (by rw [List.size_toArray, hl]; kernel_rfl)
theorem post_a9 {fn : Func} {p u : Tmp} {R : Ending → World → Prop} {a : Act} {w : World} {g : Nat} {cs : List Value} {v : Value} (h : fn.results = #[.cell p 43, .tmp u]) (hp : a.tmps.getD p undef = .pointer (some ⟨g, 0, none⟩)) (hu : a.tmps.getD u undef = v) (hd : a.defers = [])
  (hc : Cel w g cs 43) (hl : cs.length = 9) (hR : R (.returned (.tuple #[.agg cs.toArray, v])) w) : bodyPost Tryz.prog fn R .ret a w := by
 refine ⟨hd, .tuple #[.agg cs.toArray, v], ?_, hR⟩
 have hp' : a.tmps[p]?.getD undef = .pointer (some ⟨g, 0, none⟩) := by simpa using hp
 have hu' : a.tmps[u]?.getD undef = v := by simpa using hu
 simp only [results, h]
 simp [hp', hu', asAddr, load_a9 hc hl]
theorem plod_bad (n0 n1 n2 n3 n4 n5 p0 p1 p2 p3 p4 p5 : Bool) (s0 d0 s1 d1 s2 d2 s3 d3 s4 d4 s5 d5 q0 r0 q1 r1 q2 r2 q3 r3 q4 r4 q5 r5 : ByteArray) (E : Int) (w : World) (hE : ¬ E = 0)
  (HS : Hid (∀ w1, Below w.heap.size w w1 → Calls Tryz.prog 41 #[.agg #[.bool n0, .string s0, .string d0, .bool n1, .string s1, .string d1, .bool n2, .string s2, .string d2, .bool n3, .string s3, .string d3, .bool n4, .string s4, .string d4, .bool n5, .string s5, .string d5], .agg #[.bool p0, .string q0, .string r0, .bool p1, .string q1, .string r1], .agg #[.bool p2, .string q2, .string r2, .bool p3, .string q3, .string r3], .agg #[.bool p4, .string q4, .string r4, .bool p5, .string q5, .string r5]] w1 (Re w1 (.tuple #[.agg #[.slice none 0 0, .slice none 0 0, .bool false, .slice none 0 0, .bool false, .slice none 0 0], .int .i64 E])))) :
  Calls Tryz.prog 16 #[.agg #[.bool n0, .string s0, .string d0, .bool n1, .string s1, .string d1, .bool n2, .string s2, .string d2, .bool n3, .string s3, .string d3, .bool n4, .string s4, .string d4, .bool n5, .string s5, .string d5], .agg #[.bool p0, .string q0, .string r0, .bool p1, .string q1, .string r1], .agg #[.bool p2, .string q2, .string r2, .bool p3, .string q3, .string r3], .agg #[.bool p4, .string q4, .string r4, .bool p5, .string q5, .string r5]] w (Re w (.tuple #[.agg #[.bool false, .string { data := #[] }, .string { data := #[] }, .bool false, .string { data := #[] }, .string { data := #[] }, .bool false, .string { data := #[] }, .string { data := #[] }], .int .i64 E])) := by
 go_enter Tryz.func16, Tryz.ntmps16
 go_upto_region 1 with fail
 obtain ⟨w0, hq, kf, ka, kb, kc, kr, bb⟩ := mk5 w [.bool n0, .string s0, .string d0, .bool n1, .string s1, .string d1, .bool n2, .string s2, .string d2, .bool n3, .string s3, .string d3, .bool n4, .string s4, .string d4, .bool n5, .string s5, .string d5] [.bool p0, .string q0, .string r0, .bool p1, .string q1, .string r1] [.bool p2, .string q2, .string r2, .bool p3, .string q3, .string r3] [.bool p4, .string q4, .string r4, .bool p5, .string q5, .string r5] [.bool false, .string { data := #[] }, .string { data := #[] }, .bool false, .string { data := #[] }, .string { data := #[] }, .bool false, .string { data := #[] }, .string { data := #[] }] 28 30 30 30 43
 rw [← hq]
 clear hq
 obtain ⟨x0, x1, x2, x3, x4, x5⟩ := xk6 ka
 obtain ⟨y0, y1, y2, y3, y4, y5⟩ := xk6 kb
 obtain ⟨z0, z1, z2, z3, z4, z5⟩ := xk6 kc
 go_wp2_with (refine wpList_load_row rfl 28 _ rfl _ rfl 28 _ (0, 0) _ kf Tryz.underlying28 rfl (by kernel_rfl) ?_)
 clear x0 x1 x2 x3 x4 x5 y0 y1 y2 y3 y4 y5 z0 z1 z2 z3 z4 z5
 clear kf ka kb kc
 go_fit (HS.out _ bb)
 rintro e w1 ⟨rfl, b1⟩
 replace kr := kr.below b1
 replace bb := Below.after bb b1
 clear b1
 have b1 := bel_al w1 (.cells #[.slice none 0 0, .slice none 0 0, .bool false, .slice none 0 0, .bool false, .slice none 0 0] 81)
 replace kr := kr.below b1
 replace bb := Below.after bb b1
 clear b1
 have e0 := kr.cell 0
 have f0 := Cel.frozen kr 0
 have e1 := kr.cell 1
 have f1 := Cel.frozen kr 1
 have e2 := kr.cell 2
 have f2 := Cel.frozen kr 2
 have e3 := kr.cell 3
 have f3 := Cel.frozen kr 3
 have e4 := kr.cell 4
 have f4 := Cel.frozen kr 4
 have e5 := kr.cell 5
 have f5 := Cel.frozen kr 5
 have e6 := kr.cell 6
 have f6 := Cel.frozen kr 6
 have e7 := kr.cell 7
 have f7 := Cel.frozen kr 7
 have e8 := kr.cell 8
 have f8 := Cel.frozen kr 8
 go_wp2
 exact post_a9 (p := 8) (u := 9) (v := .int .i64 E) (by kernel_rfl) rfl rfl rfl ((((((((((kr.set 0 _).set 1 _).set 2 _).set 3 _).set 4 _).set 5 _).set 6 _).set 7 _).set 8 _)) rfl ⟨rfl, bset (bset (bset (bset (bset (bset (bset (bset (bset (bb) (by omega) 0 _) (by omega) 1 _) (by omega) 2 _) (by omega) 3 _) (by omega) 4 _) (by omega) 5 _) (by omega) 6 _) (by omega) 7 _) (by omega) 8 _⟩
theorem pevl_bad (n0 n1 n2 n3 n4 n5 p0 p1 : Bool) (s0 d0 s1 d1 s2 d2 s3 d3 s4 d4 s5 d5 q0 r0 q1 r1 : ByteArray) (E : Int) (w : World) (hE : ¬ E = 0)
  (HC : Hid (∀ w1 B, Below w.heap.size w w1 → Cel w1 B [.bool p0, .string q0, .string r0, .bool p1, .string q1, .string r1] 30 → Calls Tryz.prog 32 #[.agg #[.bool n0, .string s0, .string d0, .bool n1, .string s1, .string d1, .bool n2, .string s2, .string d2, .bool n3, .string s3, .string d3, .bool n4, .string s4, .string d4, .bool n5, .string s5, .string d5], .slice (some ⟨B, 0, none⟩) 1 1] w1 (Re w1 (.int .i64 E)))) :
  Calls Tryz.prog 10 #[.agg #[.bool n0, .string s0, .string d0, .bool n1, .string s1, .string d1, .bool n2, .string s2, .string d2, .bool n3, .string s3, .string d3, .bool n4, .string s4, .string d4, .bool n5, .string s5, .string d5], .agg #[.bool p0, .string q0, .string r0, .bool p1, .string q1, .string r1]] w (Re w (.tuple #[.agg #[.bool false, .string { data := #[] }, .string { data := #[] }], .int .i64 E])) := by
 go_enter Tryz.func10, Tryz.ntmps10
 go_upto_region 1 with fail
 obtain ⟨w0, hq, kf, ka, kr, bb⟩ := mk3 w [.bool n0, .string s0, .string d0, .bool n1, .string s1, .string d1, .bool n2, .string s2, .string d2, .bool n3, .string s3, .string d3, .bool n4, .string s4, .string d4, .bool n5, .string s5, .string d5] [.bool p0, .string q0, .string r0, .bool p1, .string q1, .string r1] [.bool false, .string { data := #[] }, .string { data := #[] }] 28 30 26
 rw [← hq]
 clear hq
 obtain ⟨x0, x1, x2, x3, x4, x5⟩ := xk6 ka
 go_wp2_with (refine wpList_load_row rfl 28 _ rfl _ rfl 28 _ (0, 0) _ kf Tryz.underlying28 rfl (by kernel_rfl) ?_)
 clear x0 x1 x2 x3 x4 x5
 obtain ⟨w1, hq, kl, b1⟩ := mk1 w0 [.bool p0, .string q0, .string r0, .bool p1, .string q1, .string r1] 30
 rw [← hq]
 clear hq
 replace kf := kf.below b1
 replace ka := ka.below b1
 replace kr := kr.below b1
 replace bb := Below.after bb b1
 clear b1
 go_fit (HC.out _ _ bb kl)
 rintro e w2 ⟨rfl, b1⟩
 clear kl
 replace kf := kf.below b1
 replace ka := ka.below b1
 replace kr := kr.below b1
 replace bb := Below.after bb b1
 clear b1
 clear kf ka
 obtain ⟨e0, e1, e2⟩ := xk3 kr
 have f0 := Cel.frozen kr 0
 have f1 := Cel.frozen kr 1
 have f2 := Cel.frozen kr 2
 go_wp2
 exact post_q1 (p := 4) (u := 5) (v := .int .i64 E) (by kernel_rfl) rfl rfl rfl (((kr.set 0 _).set 1 _).set 2 _) ⟨rfl, bset (bset (bset bb (by omega) 0 _) (by omega) 1 _) (by omega) 2 _⟩
theorem xc4_al {w : World} {g : Nat} {x y z u : Value} (h : xc4 w g x y z u) (o : Obj) : xc4 (w.alloc o) g x y z u := ⟨cell_below h.1 (bel_al _ _), cell_below h.2.1 (bel_al _ _), cell_below h.2.2.1 (bel_al _ _), cell_below h.2.2.2 (bel_al _ _)⟩
theorem Cells.row2 {w : World} {g : Nat} {t : TypeId} {m : Nat → Bool} {v : Nat → Value} (h : Cells w g t (2 * 2) (fnn m v 2)) : Cel w g [.bool (m 0), v 0, .bool (m 1), v 1] t := by
 obtain ⟨cs, h1, h2, h3⟩ := h
 unfold Cel
 rw [h1]
 congr 2
 refine Array.ext_getElem? fun i => ?_
 rcases Nat.lt_or_ge i 4 with hi | hi
 ·rw [h3 i hi]
  match i, hi with
  | 0, _ => rfl
  | 1, _ => rfl
  | 2, _ => rfl
  | 3, _ => rfl
 ·rw [Array.getElem?_eq_none (by omega), Array.getElem?_eq_none (by simpa using hi)]
theorem pevl_ok (n0 n1 n2 n3 n4 n5 p0 p1 : Bool) (s0 d0 s1 d1 s2 d2 s3 d3 s4 d4 s5 d5 q0 r0 q1 r1 : ByteArray) (Zc Zs : Nat → Int) (Qu U : Int) (L Lu : Nat) (rN : Bool) (rS rD : ByteArray) (w : World) (hL : L ≤ 200) (hLu : Lu ≤ 200)
  (HC : Hid (∀ w1 B, Below w.heap.size w w1 → Cel w1 B [.bool p0, .string q0, .string r0, .bool p1, .string q1, .string r1] 30 → Calls Tryz.prog 32 #[.agg #[.bool n0, .string s0, .string d0, .bool n1, .string s1, .string d1, .bool n2, .string s2, .string d2, .bool n3, .string s3, .string d3, .bool n4, .string s4, .string d4, .bool n5, .string s5, .string d5], .slice (some ⟨B, 0, none⟩) 1 1] w1 (Re w1 (.int .i64 0))))
  (HG : Hid (∀ w1, Below w.heap.size w w1 → Calls Tryz.prog 33 #[.agg #[.bool n0, .string s0, .string d0, .bool n1, .string s1, .string d1, .bool n2, .string s2, .string d2, .bool n3, .string s3, .string d3, .bool n4, .string s4, .string d4, .bool n5, .string s5, .string d5]] w1 fun e w' => ∃ g m v a l c, e = .returned (.agg #[.slice (some ⟨g, 0, none⟩) 6 6, .bool false, .slice a l c]) ∧ Cells w' g 68 (6 * 2) (fnn m v 6) ∧ NVs w' m v Zc L 6 ∧ NV w' false (.slice a l c) Qu Lu ∧ Below w1.heap.size w1 w'))
  (HH : Hid (∀ w1 B, Below w.heap.size w w1 → Cel w1 B [.bool p0, .string q0, .string r0, .bool p1, .string q1, .string r1] 26 → Calls Tryz.prog 34 #[.slice (some ⟨B, 0, none⟩) 2 2] w1 fun e w' => ∃ g m v a l c, w1.heap.size ≤ g ∧ e = .returned (.tuple #[.slice (some ⟨g, 0, none⟩) 2 2, .agg #[.bool false, .slice a l c]]) ∧ Cells w' g 68 (2 * 2) (fnn m v 2) ∧ NVs w' m v Zs L 2 ∧ NV w' false (.slice a l c) U Lu ∧ Below w1.heap.size w1 w'))
  (HO : Hid (∀ w1 f a l c B a1 l1 c1 a2 l2 c2, Below w.heap.size w w1 → NV w1 f (.slice a l c) ((Zc 0 * U + Zc 1 * Zs 0 + Zc 2 * Zs 1) * U + (Zc 3 * Zs 0 + Zc 4 * Zs 1) * Zs 0 + Zc 5 * Zs 1 * Zs 1) 700 → Cel w1 B [.bool false, .slice a1 l1 c1, .bool false, .slice a2 l2 c2, .bool false, .slice a2 l2 c2] 68 → NV w1 false (.slice a1 l1 c1) Qu Lu → NV w1 false (.slice a2 l2 c2) U Lu → Calls Tryz.prog 36 #[.agg #[.bool f, .slice a l c], .slice (some ⟨B, 0, none⟩) 3 3] w1 (Re w1 (.agg #[.bool rN, .string rS, .string rD])))) :
  Calls Tryz.prog 10 #[.agg #[.bool n0, .string s0, .string d0, .bool n1, .string s1, .string d1, .bool n2, .string s2, .string d2, .bool n3, .string s3, .string d3, .bool n4, .string s4, .string d4, .bool n5, .string s5, .string d5], .agg #[.bool p0, .string q0, .string r0, .bool p1, .string q1, .string r1]] w (Re w (.tuple #[.agg #[.bool rN, .string rS, .string rD], .int .i64 0])) := by
 go_enter Tryz.func10, Tryz.ntmps10
 go_upto_region 1 with fail
 obtain ⟨w0, hq, kf, ka, kr, bb⟩ := mk3 w [.bool n0, .string s0, .string d0, .bool n1, .string s1, .string d1, .bool n2, .string s2, .string d2, .bool n3, .string s3, .string d3, .bool n4, .string s4, .string d4, .bool n5, .string s5, .string d5] [.bool p0, .string q0, .string r0, .bool p1, .string q1, .string r1] [.bool false, .string { data := #[] }, .string { data := #[] }] 28 30 26
 rw [← hq]
 clear hq
 obtain ⟨x0, x1, x2, x3, x4, x5⟩ := xk6 ka
 go_wp2_with (refine wpList_load_row rfl 28 _ rfl _ rfl 28 _ (0, 0) _ kf Tryz.underlying28 rfl (by kernel_rfl) ?_)
 clear x0 x1 x2 x3 x4 x5
 obtain ⟨w1, hq, kl, b1⟩ := mk1 w0 [.bool p0, .string q0, .string r0, .bool p1, .string q1, .string r1] 30
 rw [← hq]
 clear hq
 replace kf := kf.below b1
 replace ka := ka.below b1
 replace kr := kr.below b1
 replace bb := Below.after bb b1
 clear b1
 go_fit (HC.out _ _ bb kl)
 rintro e w2 ⟨rfl, b1⟩
 clear kl
 replace kf := kf.below b1
 replace ka := ka.below b1
 replace kr := kr.below b1
 replace bb := Below.after bb b1
 clear b1
 go_wp2_with (refine wpList_load_row rfl 28 _ rfl _ rfl 28 _ (0, 0) _ kf Tryz.underlying28 rfl (by kernel_rfl) ?_)
 clear kf
 go_fit (HG.out _ bb)
 rintro e w3 ⟨gc, mc, vc, uca, ucl, ucc, rfl, kG, hvc, nQ, b1⟩
 replace kG := shut kG
 replace hvc := shut hvc
 replace ka := ka.below b1
 replace kr := kr.below b1
 replace bb := Below.after bb b1
 clear b1
 have t3 := shut kr.lt
 go_upto_region 5 with fail
 obtain ⟨w4, hq, kq, b1⟩ := mk1 w3 [.slice (some ⟨gc, 0, none⟩) 6 6, .bool false, .slice uca ucl ucc] 70
 rw [← hq]
 clear hq
 replace nQ := nQ.below b1
 replace kG := shut (kG.out.below b1)
 replace hvc := shut (hvc.out.below b1)
 replace ka := ka.below b1
 replace kr := kr.below b1
 replace bb := Below.after bb b1
 clear b1
 obtain ⟨x0, x1, x2, x3, x4, x5⟩ := xk6 ka
 go_wp2_with fail
 clear x0 x1 x2 x3 x4 x5
 obtain ⟨w5, hq, kl, b1⟩ := mk1 w4 [.bool p0, .string q0, .string r0, .bool p1, .string q1, .string r1] 26
 rw [← hq]
 clear hq ka
 replace nQ := nQ.below b1
 replace kq := kq.below b1
 replace kG := shut (kG.out.below b1)
 replace hvc := shut (hvc.out.below b1)
 replace kr := kr.below b1
 replace bb := Below.after bb b1
 clear b1
 have t5 := shut kr.lt
 go_fit (HH.out _ _ bb kl)
 rintro e w6 ⟨gs, ms, vs, uta, utl, utc, gsl, rfl, kS, hvs, nU, b1⟩
 clear kl
 replace kS := kS.row2
 obtain ⟨m0, x0, y0, z0, v0⟩ := hvs 0 (by omega)
 obtain ⟨m1, x1, y1, z1, v1⟩ := hvs 1 (by omega)
 rw [v0] at m0 kS
 rw [v1] at m1 kS
 clear v0 v1 hvs
 replace nQ := nQ.below b1
 replace kq := kq.below b1
 replace kG := shut (kG.out.below b1)
 replace hvc := shut (hvc.out.below b1)
 replace kr := kr.below b1
 replace bb := Below.after bb b1
 clear b1
 have t6 := shut kr.lt
 replace gsl := shut gsl
 go_upto_region 6 with fail
 obtain ⟨w7, hq, ku, b1⟩ := mk1 w6 [.bool false, .slice uta utl utc] 68
 rw [← hq]
 clear hq
 replace nQ := nQ.below b1
 replace kq := kq.below b1
 replace kS := kS.below b1
 replace m0 := m0.below b1
 replace m1 := m1.below b1
 replace nU := nU.below b1
 replace kG := shut (kG.out.below b1)
 replace hvc := shut (hvc.out.below b1)
 replace kr := kr.below b1
 replace bb := Below.after bb b1
 clear b1
 have bd := bdrew w7
 replace nQ := nQ.below bd
 replace kq := kq.below bd
 replace kS := kS.below bd
 replace m0 := m0.below bd
 replace m1 := m1.below bd
 replace nU := nU.below bd
 replace ku := ku.below bd
 replace kG := shut (kG.out.below bd)
 replace hvc := shut (hvc.out.below bd)
 replace kr := kr.below bd
 replace bb := Below.after bb bd
 clear bd
 refine wp_region_held_drew (S := fun w' => xc3 w' w3.heap.size (.slice (some ⟨gc, 0, none⟩) 6 6) (.bool false) (.slice uca ucl ucc) ∧ xc4 w' gs (.bool (ms 0)) (.slice x0 y0 z0) (.bool (ms 1)) (.slice x1 y1 z1) ∧ xc2 w' w6.heap.size (.bool false) (.slice uta utl utc)) (by kernel_rfl) ⟨xk3 kq, xk4 kS, xk2 ku⟩ (fun hS => ?_)
 generalize w7.drew = wd at *
 refine WA.start (n := 17) (by kernel_rfl) ?_
 refine WA.tp 0 rfl ?_
 refine WA.tp 1 rfl ?_
 refine WA.tp 2 rfl ?_
 refine WA.tp 3 rfl ?_
 refine WA.tp 4 rfl ?_
 refine WA.tp 5 rfl ?_
 refine WA.tp 6 rfl ?_
 refine WA.tp 7 rfl ?_
 refine WA.tp 9 rfl ?_
 refine WA.tp 10 rfl ?_
 refine WA.tp 11 rfl ?_
 refine WA.tp 12 rfl ?_
 refine WA.genZ (i := 13) (s := 42) (PtS [.bool false, .slice uca ucl ucc, .bool false, .slice uta utl utc, .bool false, .slice uta utl utc] 68 3) (fun b x hz => ?_)
 simp only [Act.put, List.setIfInBounds_toArray, List.set_cons_zero, List.set_cons_succ]
 revert b x
 refine WA.oneS 17 7935 8 13 rfl rfl (fun w' h => ⟨xc3_al h.1 _, xc4_al h.2.1 _, xc2_al h.2.2 _⟩) hS ?_
 clear hS
 intro b x w' hz bx hS K hK
 replace nQ := nQ.below bx
 replace kq := kq.below bx
 replace kS := kS.below bx
 replace m0 := m0.below bx
 replace m1 := m1.below bx
 replace nU := nU.below bx
 replace ku := ku.below bx
 replace kG := shut (kG.out.below bx)
 replace hvc := shut (hvc.out.below bx)
 replace kr := kr.below bx
 replace bb := Below.after bb bx
 clear bx
 clear hS
 simp only [List.getElem_toArray, List.getElem_cons_succ, List.getElem_cons_zero]
 go_simp
 go_fit (pat_any mc vc false (ms 0) (ms 1) false uca x0 x1 uta ucl ucc y0 z0 y1 z1 utl utc Zc (Zs 0) (Zs 1) U L 200 gc _ (by omega) kG.out hvc.out (m0.mono (by omega)) (m1.mono (by omega)) (nU.mono (by omega)))
 rintro e wn ⟨fy, ay, ly, cy, rfl, ny, bn⟩
 replace hz := fun h => (hz h).below bn
 replace nQ := nQ.below bn
 replace kq := kq.below bn
 replace kS := kS.below bn
 replace nU := nU.below bn
 replace ku := ku.below bn
 replace kG := shut (kG.out.below bn)
 replace hvc := shut (hvc.out.below bn)
 replace kr := kr.below bn
 replace bb := Below.after bb bn
 clear bn
 clear m0 m1
 try go_wp2_with fail
 refine hK.out _ _ ⟨xk3 kq, xk4 kS, xk2 ku⟩ (fun hS => ?_)
 clear hK K
 revert b x
 refine WA.finS 13 rfl (fun w' h => ⟨xc3_al h.1 _, xc4_al h.2.1 _, xc2_al h.2.2 _⟩) hS ?_
 clear hS
 intro x w' hz bx hS
 obtain ⟨gy, rfl, ky⟩ := hz
 replace nQ := nQ.below bx
 replace kq := kq.below bx
 replace kS := kS.below bx
 replace nU := nU.below bx
 replace ku := ku.below bx
 replace ny := ny.below bx
 replace kG := shut (kG.out.below bx)
 replace hvc := shut (hvc.out.below bx)
 replace kr := kr.below bx
 replace bb := Below.after bb bx
 clear bx
 clear hS
 refine WA.cal 14 rfl (fun K hK => ?_)
 simp only [List.getElem_toArray, List.getElem_cons_succ, List.getElem_cons_zero]
 go_simp
 go_fit (HO.out _ _ _ _ _ _ _ _ _ _ _ _ bb (ny.mono (by omega)) ky nQ nU)
 rintro e wn ⟨rfl, bn⟩
 clear ny ky nQ nU kG hvc
 replace kq := kq.below bn
 replace kS := kS.below bn
 replace ku := ku.below bn
 replace kr := kr.below bn
 replace bb := Below.after bb bn
 clear bn
 try go_wp2_with fail
 refine hK.out _ _ ⟨xk3 kq, xk4 kS, xk2 ku⟩ (fun hS => ?_)
 clear hK K hS
 obtain ⟨e0, e1, e2⟩ := xk3 kr
 have f0 := Cel.frozen kr 0
 have f1 := Cel.frozen kr 1
 have f2 := Cel.frozen kr 2
 refine WA.cal 15 rfl (fun K hK => ?_)
 simp only [List.getElem_toArray, List.getElem_cons_succ, List.getElem_cons_zero]
 go_simp
 try go_wp2_with fail
 clear e0 e1 e2 f0 f1 f2
 have h3 : w3.heap.size ≠ w.heap.size + 1 + 1 := by have := t3.out; omega
 have h6 : w6.heap.size ≠ w.heap.size + 1 + 1 := by have := t6.out; omega
 have hs : gs ≠ w.heap.size + 1 + 1 := by have := gsl.out; have := t5.out; omega
 refine hK.out _ _ ⟨xk3 (((kq.other h3 0 _).other h3 1 _).other h3 2 _), xk4 (((kS.other hs 0 _).other hs 1 _).other hs 2 _), xk2 (((ku.other h6 0 _).other h6 1 _).other h6 2 _)⟩ (fun hS => ?_)
 clear hK K
 refine WA.tp 16 rfl ?_
 refine WA.done (by kernel_rfl) ?_
 clear hS kq kS ku
 go_wp2
 exact post_q1 (p := 4) (u := 5) (v := .int .i64 0) (by kernel_rfl) rfl rfl rfl (((kr.set 0 _).set 1 _).set 2 _) ⟨rfl, bset (bset (bset bb (by omega) 0 _) (by omega) 1 _) (by omega) 2 _⟩
theorem part_walk (va ya a2 a3 an : Option Addr) (vl vc yl yc l2 c2 l3 c3 ln cn : Nat) (f2 f3 fn : Bool) (parts zn A2 AB : Int) (b off m c : Nat) (N : Nat → Bool) (v : Nat → Value) (Z : Nat → Int) (L Lr : Nat) (rN : Bool) (rS rD : ByteArray) (w : World) (hm : m ≤ 100) (hL : L ≤ 900) (hLr : L + L ≤ Lr)
  (nn : NV w fn (.slice an ln cn) zn L) (n2 : NV w f2 (.slice a2 l2 c2) A2 L) (n3 : NV w f3 (.slice a3 l3 c3) AB L) (hr : RdN w (some ⟨b, off, none⟩) m N v) (hv : NVs w N v Z L m)
  (HS : Hid (∀ w1, Calls Tryz.prog 109 #[.int .i64 parts] w1 fun e w' => ∃ f a l c, e = .returned (.agg #[.bool f, .slice a l c]) ∧ NV w' f (.slice a l c) parts 1 ∧ Below w1.heap.size w1 w'))
  (HO : Hid (∀ w1 m0 v0 a' cap N' v', Below w.heap.size w w1 → NV w1 m0 v0 (zn * A2) Lr → RdN w1 a' (2 + m) N' v' → NVs w1 N' v' (catn 2 (tw2 parts AB) Z) Lr (2 + m) → Calls Tryz.prog 36 #[.agg #[.bool m0, v0], .slice a' (2 + m) cap] w1 (Re w1 (.agg #[.bool rN, .string rS, .string rD])))) (hL1 : 1 ≤ L) :
  Calls Tryz.prog 68 #[.agg #[.slice va vl vc, .slice ya yl yc, .bool f2, .slice a2 l2 c2, .bool f3, .slice a3 l3 c3], .agg #[.bool fn, .slice an ln cn], .int .i64 parts, .slice (some ⟨b, off, none⟩) m c] w (Re w (.agg #[.bool rN, .string rS, .string rD])) := by
 replace hr := shut hr
 replace hv := shut hv
 go_enter Tryz.func68, Tryz.ntmps68
 go_wp2_with fail
 obtain ⟨w0, hq, ks, kn, kr, bb⟩ := mk3 w [.slice va vl vc, .slice ya yl yc, .bool f2, .slice a2 l2 c2, .bool f3, .slice a3 l3 c3] [.bool fn, .slice an ln cn] [.bool false, .string { data := #[] }, .string { data := #[] }] 81 68 26
 rw [← hq]
 clear hq
 have bd := bdrew w0
 have bb0 := Below.after bb bd
 replace ks := ks.below bd
 replace kn := kn.below bd
 replace kr := kr.below bd
 replace bb := Below.after bb bd
 clear bd
 replace nn := nn.below bb
 replace n2 := n2.below bb
 replace n3 := n3.below bb
 have hr1 := shut (hr.out.below bb)
 have hv1 := shut (hv.out.below bb)
 clear bb0
 refine wp_region_held_drew (S := fun w' => w'.cell? ⟨w.heap.size, 4, none⟩ = some (.bool f3) ∧ w'.cell? ⟨w.heap.size, 5, none⟩ = some (.slice a3 l3 c3)) (by kernel_rfl) ⟨ks.cell 4, ks.cell 5⟩ (fun hS => ?_)
 generalize w0.drew = wd at *
 refine WA.start (n := 8) (by kernel_rfl) ?_
 refine WA.tp 0 rfl ?_
 refine WA.tp 2 rfl ?_
 refine WA.tp 3 rfl ?_
 refine WA.tp 5 rfl ?_
 clear hS
 refine WA.cal 1 rfl (fun K hK => ?_)
 simp only [List.getElem_toArray, List.getElem_cons_succ, List.getElem_cons_zero]
 go_simp
 go_fit (HS.out _)
 rintro e w1 ⟨f1, a1, l1, c1, rfl, n1, b1⟩
 replace hr1 := shut (hr1.out.below b1)
 replace hv1 := shut (hv1.out.below b1)
 replace ks := ks.below b1
 replace kn := kn.below b1
 replace kr := kr.below b1
 replace nn := nn.below b1
 replace n2 := n2.below b1
 replace n3 := n3.below b1
 replace bb := Below.after bb b1
 clear b1
 try go_wp2_with fail
 refine hK.out _ _ ⟨ks.cell 4, ks.cell 5⟩ (fun hS => ?_)
 clear hK K hS
 refine WA.cal 4 rfl (fun K hK => ?_)
 simp only [List.getElem_toArray, List.getElem_cons_succ, List.getElem_cons_zero]
 go_simp
 try go_wp2_with fail
 obtain ⟨w2, hw, kp, b1⟩ := mk1 w1 [.bool f1, .slice a1 l1 c1, .bool f3, .slice a3 l3 c3] 68
 rw [← hw]
 clear hw
 have sz := bb.size
 have sz2 := b1.size
 have hs2 : w.heap.size ≤ w1.heap.size := by omega
 have t0 := ks.lt
 have t1 := kn.lt
 have t2 := kr.lt
 replace hr1 := shut (hr1.out.below b1)
 replace hv1 := shut (hv1.out.below b1)
 replace ks := ks.below b1
 replace kn := kn.below b1
 replace kr := kr.below b1
 replace nn := nn.below b1
 replace n2 := n2.below b1
 replace n3 := n3.below b1
 replace n1 := n1.below b1
 replace bb := Below.after bb b1
 clear b1
 refine hK.out _ _ ⟨ks.cell 4, ks.cell 5⟩ (fun hS => ?_)
 clear hK K hS
 refine WA.cal 6 rfl (fun K hK => ?_)
 simp only [List.getElem_toArray, List.getElem_cons_succ, List.getElem_cons_zero]
 rw [if_pos (by rfl)]
 have hni : NI w2 w1.heap.size := ni_cel kp (by simp [noI])
 refine wp_apNum _ _ rfl _ 2 _ rfl (w1.heap.size) (own_cel kp (Nat.le_refl _) (by rfl) (by omega)) (Nat.le_of_lt kp.lt) b off m c N v rfl hr1.out (fun q hq => (hv1.out q hq).2) (by omega) (fun g hg => by injection hg with hg; subst hg; exact hni) ?_
 intro u w3 how hgr hn3
 obtain ⟨g, cap, rfl, hg⟩ := own_slice how (by omega)
 have hrow : ∀ k, Value.ownBlock (.slice (some ⟨w1.heap.size, 0, none⟩) 2 2) = some k → w1.heap.size ≤ k := fun k e => by injection e with e; exact Nat.le_of_eq e
 have hnr : ∀ k, Value.ownBlock (.slice (some ⟨w1.heap.size, 0, none⟩) 2 2) = some k → NI w2 k := fun k e => by injection e with e; subst e; exact hni
 have b3 : Below w1.heap.size w2 w3 := Below.grown (Below.refl _ _) hgr (Nat.le_of_lt kp.lt) hrow
 have e4 : fln 2 (tw2 f1 f3) (tw2 (.slice a1 l1 c1) (.slice a3 l3 c3)) = [.bool f1, .slice a1 l1 c1, .bool f3, .slice a3 l3 c3] := by rfl
 rw [← e4, fln_cat] at how
 have hrd := rdn_own how
 have hvs : NVs w3 (catn 2 (tw2 f1 f3) N) (catn 2 (tw2 (.slice a1 l1 c1) (.slice a3 l3 c3)) v) (catn 2 (tw2 parts AB) Z) Lr (2 + m) := fun q hq => by
  unfold catn
  by_cases h2 : q < 2
  ·rw [if_pos h2, if_pos h2, if_pos h2]
   match q, h2 with
   | 0, _ => exact ⟨(n1.grown hgr hnr).mono (by omega), _, _, _, rfl⟩
   | 1, _ => exact ⟨(n3.grown hgr hnr).mono (by omega), _, _, _, rfl⟩
  ·rw [if_neg h2, if_neg h2, if_neg h2]
   exact ⟨((hv1.out (q - 2) (by omega)).1.grown hgr hnr).mono (by omega), (hv1.out (q - 2) (by omega)).2⟩
 replace nn := nn.grown hgr hnr
 replace n2 := n2.grown hgr hnr
 have ks3 : Cel w3 w.heap.size [.slice va vl vc, .slice ya yl yc, .bool f2, .slice a2 l2 c2, .bool f3, .slice a3 l3 c3] 81 := (b3.block _ (by omega)).trans ks
 have kn3 : Cel w3 (w.heap.size + 1) [.bool fn, .slice an ln cn] 68 := (b3.block _ (by omega)).trans kn
 have kr3 : Cel w3 (w.heap.size + 1 + 1) [.bool false, .string { data := #[] }, .string { data := #[] }] 26 := (b3.block _ (by omega)).trans kr
 have bb3 : Below w.heap.size w w3 := bb.trans (b3.mono (by omega))
 replace hrd := shut hrd
 replace hvs := shut hvs
 clear how hgr hnr hrow hni kp ks kn kr bb b3 n1 n3 hr1 hv1 hn3 e4
 refine hK.out _ _ ⟨ks3.cell 4, ks3.cell 5⟩ (fun hS => ?_)
 clear hK K
 refine WA.tp 7 rfl ?_
 refine WA.done (by kernel_rfl) ?_
 clear hS
 obtain ⟨c0, c1'⟩ := xk2 kn3
 have d2 := ks3.cell 2
 have d3 := ks3.cell 3
 go_wp2_with fail
 clear c0 c1' d2 d3
 go_fit (ntimes_any _ _ _ _ zn A2 L L _ (by omega) (by omega) nn n2)
 rintro e w4 ⟨f4, v4, rfl, n4, -, b1⟩
 obtain ⟨a4, l4, c4, rfl⟩ := n4.slice
 clear nn n2
 replace hrd := shut (hrd.out.below b1)
 replace hvs := shut (hvs.out.below b1)
 replace kr3 := kr3.below b1
 replace bb3 := Below.after bb3 b1
 clear b1 ks3 kn3
 go_wp2_with fail
 go_fit (HO.out _ _ _ _ cap _ _ bb3 (n4.mono (by omega)) hrd.out hvs.out)
 rintro e w5 ⟨rfl, b1⟩
 replace kr3 := kr3.below b1
 replace bb3 := Below.after bb3 b1
 clear b1 n4 hrd hvs
 obtain ⟨e0, e1, e2⟩ := xk3 kr3
 have q0 := Cel.frozen kr3 0
 have q1 := Cel.frozen kr3 1
 have q2 := Cel.frozen kr3 2
 go_wp2
 exact post_q (p := 8) (by kernel_rfl) rfl rfl (((kr3.set 0 _).set 1 _).set 2 _) ⟨rfl, bset (bset (bset bb3 (by omega) 0 _) (by omega) 1 _) (by omega) 2 _⟩
theorem zprod_cat (p A : Int) (Z : Nat → Int) (m : Nat) : zprod (catn 2 (tw2 p A) Z) (2 + m) = p.natAbs * (A.natAbs * zprod Z m) := by
 unfold zprod
 rw [List.range_add, List.map_append, List.map_map]
 have e : (List.range m).map ((fun k => (catn 2 (tw2 p A) Z k).natAbs) ∘ fun x => 2 + x) = (List.range m).map fun k => (Z k).natAbs := by
  refine List.map_congr_left fun k _ => ?_
  show (catn 2 (tw2 p A) Z (2 + k)).natAbs = _
  unfold catn
  rw [if_neg (by omega), Nat.add_sub_cancel_left]
 rw [e]
 rfl
theorem part_any (va ya a2 a3 an : Option Addr) (vl vc yl yc l2 c2 l3 c3 ln cn : Nat) (f2 f3 fn : Bool) (parts zn A2 AB : Int) (b off m c : Nat) (N : Nat → Bool) (v : Nat → Value) (Z : Nat → Int) (L K : Nat) (w : World) (hT : Tab w) (hm : m ≤ 100) (hL : L ≤ 900) (hK : K ≤ 8000) (hL1 : 1 ≤ L) (hp : 0 < parts) (hp2 : parts ≤ 1000000)
  (nn : NV w fn (.slice an ln cn) zn L) (n2 : NV w f2 (.slice a2 l2 c2) A2 L) (n3 : NV w f3 (.slice a3 l3 c3) AB L) (hr : RdN w (some ⟨b, off, none⟩) m N v) (hv : NVs w N v Z L m) (hA : 0 < AB) (hZ : ∀ k, k < m → 0 < Z k)
  (hz : Bd (zn * A2) K) (hB : Bd ((parts.natAbs * (AB.natAbs * zprod Z m) : Nat) : Int) K) {x : Rat} (hx : mkRat (zn * A2) (parts.natAbs * (AB.natAbs * zprod Z m)) = x) :
  Calls Tryz.prog 68 #[.agg #[.slice va vl vc, .slice ya yl yc, .bool f2, .slice a2 l2 c2, .bool f3, .slice a3 l3 c3], .agg #[.bool fn, .slice an ln cn], .int .i64 parts, .slice (some ⟨b, off, none⟩) m c] w (Re w (.agg #[.bool (nfZ x.num), .string (sfZ x.num), .string (strOf x.den)])) := by
 have pos : ∀ k, k < 2 + m → 0 < catn 2 (tw2 parts AB) Z k := fun k hk => by
  unfold catn
  by_cases h2 : k < 2
  ·rw [if_pos h2]
   match k, h2 with
   | 0, _ => exact hp
   | 1, _ => exact hA
  ·rw [if_neg h2]
   exact hZ _ (by omega)
 refine part_walk va ya a2 a3 an vl vc yl yc l2 c2 l3 c3 ln cn f2 f3 fn parts zn A2 AB b off m c N v Z L (L + L) _ _ _ w hm hL (Nat.le_refl _) nn n2 n3 hr hv (fun w1 => ?_) (fun w1 m0 v0 a' cap N' v' b1 h0 h1 h2 => ?_) hL1
 ·exact (psmall_any parts (by omega) hp2 w1).mono (fun e w' h => by obtain ⟨a, l, c, h⟩ := h; exact ⟨_, a, l, c, h⟩)
 ·rw [← zprod_cat] at hB hx
  exact nover_big m0 v0 a' (2 + m) cap N' v' (zn * A2) _ (L + L) K w1 (hT.below b1) (by omega) hK h0 h1 h2 pos hz hB hx
end Go.Proofs.YtphpoknionnnfaaGreatDoor
