import Derived.Test.YtnplifkgeeicjaaGreatDoorQ45
set_option maxRecDepth 100000
set_option maxHeartbeats 16000000
namespace Go.Proofs.YtnplifkgeeicjaaGreatDoor
open Go.RowKit
def Fh : Nat→Nat
 | 0=>1
 | n + 1=>(n + 1) * Fh n
theorem Bhv (w : World) : Calls Tryz.prog 136 #[.int .i64 0] w (Re w (.int .i64 1)):=by
 go_enter Tryz.func136,Tryz.ntmps136
 go_wp2_with fail
 refine wp_loop_rounds 7 ?_
 rw [rounds_succ]
 go_wp2_with fail
 go_ret
 exact ⟨rfl,Jg _ _⟩
theorem Bhu (w : World) : Calls Tryz.prog 136 #[.int .i64 1] w (Re w (.int .i64 1)):=by
 go_enter Tryz.func136,Tryz.ntmps136
 go_wp2_with fail
 refine wp_loop_rounds 7 ?_
 rw [rounds_succ]
 go_wp2_with fail
 go_ret
 exact ⟨rfl,Jg _ _⟩
theorem Bht (w : World) : Calls Tryz.prog 136 #[.int .i64 2] w (Re w (.int .i64 2)):=by
 go_enter Tryz.func136,Tryz.ntmps136
 go_wp2_with fail
 refine wp_loop_rounds 7 ?_
 rw [rounds_succ]
 go_wp2_with fail
 rw [rounds_succ]
 go_wp2_with fail
 go_ret
 exact ⟨rfl,Jg _ _⟩
theorem Bhs (w : World) : Calls Tryz.prog 136 #[.int .i64 3] w (Re w (.int .i64 6)):=by
 go_enter Tryz.func136,Tryz.ntmps136
 go_wp2_with fail
 refine wp_loop_rounds 7 ?_
 rw [rounds_succ]
 go_wp2_with fail
 rw [rounds_succ]
 go_wp2_with fail
 rw [rounds_succ]
 go_wp2_with fail
 go_ret
 exact ⟨rfl,Jg _ _⟩
theorem Bhr (w : World) : Calls Tryz.prog 136 #[.int .i64 4] w (Re w (.int .i64 24)):=by
 go_enter Tryz.func136,Tryz.ntmps136
 go_wp2_with fail
 refine wp_loop_rounds 7 ?_
 rw [rounds_succ]
 go_wp2_with fail
 rw [rounds_succ]
 go_wp2_with fail
 rw [rounds_succ]
 go_wp2_with fail
 rw [rounds_succ]
 go_wp2_with fail
 go_ret
 exact ⟨rfl,Jg _ _⟩
theorem Bhq (w : World) : Calls Tryz.prog 136 #[.int .i64 5] w (Re w (.int .i64 120)):=by
 go_enter Tryz.func136,Tryz.ntmps136
 go_wp2_with fail
 refine wp_loop_rounds 7 ?_
 rw [rounds_succ]
 go_wp2_with fail
 rw [rounds_succ]
 go_wp2_with fail
 rw [rounds_succ]
 go_wp2_with fail
 rw [rounds_succ]
 go_wp2_with fail
 rw [rounds_succ]
 go_wp2_with fail
 go_ret
 exact ⟨rfl,Jg _ _⟩
theorem Bhp (w : World) : Calls Tryz.prog 136 #[.int .i64 6] w (Re w (.int .i64 720)):=by
 go_enter Tryz.func136,Tryz.ntmps136
 go_wp2_with fail
 refine wp_loop_rounds 7 ?_
 rw [rounds_succ]
 go_wp2_with fail
 rw [rounds_succ]
 go_wp2_with fail
 rw [rounds_succ]
 go_wp2_with fail
 rw [rounds_succ]
 go_wp2_with fail
 rw [rounds_succ]
 go_wp2_with fail
 rw [rounds_succ]
 go_wp2_with fail
 go_ret
 exact ⟨rfl,Jg _ _⟩
theorem Nc (n : Nat) (h : n ≤ 6) (w : World) : Calls Tryz.prog 136 #[.int .i64 (n : Int)] w (Re w (.int .i64 (Fh n : Nat))):=by
 match n,h with
 | 0,_=>exact Bhv w
 | 1,_=>exact Bhu w
 | 2,_=>exact Bht w
 | 3,_=>exact Bhs w
 | 4,_=>exact Bhr w
 | 5,_=>exact Bhq w
 | 6,_=>exact Bhp w
theorem Sj (a b c A B C D P1 P2 S1 S2 S3 : Int) (qN : Bool) (qS qD : ByteArray) (e1 : IntKind.i64.wrap (A * B) = P1) (e2 : IntKind.i64.wrap (P1 * C) = P2) (e3 : IntKind.i64.wrap (a + b) = S1) (e4 : IntKind.i64.wrap (S1 + c) = S2) (e5 : IntKind.i64.wrap (S2 + 2) = S3) (w : World)
  (H1 : Hid (∀ w1,Calls Tryz.prog 136 #[.int .i64 a] w1 (Re w1 (.int .i64 A))))
  (H2 : Hid (∀ w1,Calls Tryz.prog 136 #[.int .i64 b] w1 (Re w1 (.int .i64 B))))
  (H3 : Hid (∀ w1,Calls Tryz.prog 136 #[.int .i64 c] w1 (Re w1 (.int .i64 C))))
  (H4 : Hid (∀ w1,Calls Tryz.prog 136 #[.int .i64 S3] w1 (Re w1 (.int .i64 D))))
  (H5 : Hid (∀ w1,Calls Tryz.prog 29 #[.int .i64 P2,.int .i64 D] w1 (Re w1 ((Bo qN qS qD))))) :
  Calls Tryz.prog 77 #[.agg #[.int .i64 a,.int .i64 b,.int .i64 c]] w (Re w ((Bo qN qS qD))):=by
 go_enter Tryz.func77,Tryz.ntmps77
 go_upto_region 1 with fail
 obtain ⟨w0,hq,kp,kr,bb⟩:=Gx w [.int .i64 a,.int .i64 b,.int .i64 c] (Bx false eB eB) 83 26
 rw [← hq]
 clear hq
 have bd:=Cd w0
 replace kp:=kp.b bd
 replace kr:=kr.b bd
 replace bb:=Ia bb bd
 clear bd
 refine Jc (S:=fun w'=>(Gy w' w.heap.size (.int .i64 a) (.int .i64 b) (.int .i64 c))) (by kernel_rfl) ⟨kp.cell 0,kp.cell 1,kp.cell 2⟩ (fun hS=>?_)
 generalize w0.drew = wd at *
 refine WA.start (n:=23) (by kernel_rfl) ?_
 refine WA.tp 0 rfl ?_
 refine WA.tp 1 rfl ?_
 refine WA.tp 3 rfl ?_
 refine WA.tp 4 rfl ?_
 refine WA.tp 7 rfl ?_
 refine WA.tp 8 rfl ?_
 refine WA.tp 11 rfl ?_
 refine WA.tp 12 rfl ?_
 refine WA.tp 13 rfl ?_
 refine WA.tp 14 rfl ?_
 refine WA.tp 15 rfl ?_
 refine WA.tp 16 rfl ?_
 refine WA.tp 17 rfl ?_
 refine WA.tp 18 rfl ?_
 refine WA.tp 19 rfl ?_
 clear hS
 refine WA.cal 2 rfl (fun K hK=>?_)
 simp only [Jq]
 go_simp
 go_fit (H1.out _)
 rintro e wm2 ⟨rfl,b1⟩
 replace kp:=kp.b b1
 replace kr:=kr.b b1
 replace bb:=Ia bb b1
 clear b1
 try go_wp2_with fail
 refine hK.out _ _ ⟨kp.cell 0,kp.cell 1,kp.cell 2⟩ (fun hS=>?_)
 clear hK K
 clear hS
 refine WA.cal 5 rfl (fun K hK=>?_)
 simp only [Jq]
 go_simp
 go_fit (H2.out _)
 rintro e wm5 ⟨rfl,b1⟩
 replace kp:=kp.b b1
 replace kr:=kr.b b1
 replace bb:=Ia bb b1
 clear b1
 try go_wp2_with fail
 refine hK.out _ _ ⟨kp.cell 0,kp.cell 1,kp.cell 2⟩ (fun hS=>?_)
 clear hK K
 refine WA.tp 6 rfl ?_
 clear hS
 refine WA.cal 9 rfl (fun K hK=>?_)
 simp only [Jq]
 go_simp
 go_fit (H3.out _)
 rintro e wm9 ⟨rfl,b1⟩
 replace kp:=kp.b b1
 replace kr:=kr.b b1
 replace bb:=Ia bb b1
 clear b1
 try go_wp2_with fail
 refine hK.out _ _ ⟨kp.cell 0,kp.cell 1,kp.cell 2⟩ (fun hS=>?_)
 clear hK K
 refine WA.tp 10 rfl ?_
 clear hS
 refine WA.cal 20 rfl (fun K hK=>?_)
 simp only [Jq]
 go_simp
 go_fit (H4.out _)
 rintro e wm20 ⟨rfl,b1⟩
 replace kp:=kp.b b1
 replace kr:=kr.b b1
 replace bb:=Ia bb b1
 clear b1
 try go_wp2_with fail
 refine hK.out _ _ ⟨kp.cell 0,kp.cell 1,kp.cell 2⟩ (fun hS=>?_)
 clear hK K
 clear hS
 refine WA.cal 21 rfl (fun K hK=>?_)
 simp only [Jq]
 go_simp
 go_fit (H5.out _)
 rintro e wm21 ⟨rfl,b1⟩
 replace kp:=kp.b b1
 replace kr:=kr.b b1
 replace bb:=Ia bb b1
 clear b1
 try go_wp2_with fail
 refine hK.out _ _ ⟨kp.cell 0,kp.cell 1,kp.cell 2⟩ (fun hS=>?_)
 clear hK K
 clear hS
 refine WA.cal 22 rfl (fun K hK=>?_)
 rw [if_pos (by rfl)]
 refine wp_store_row 26 _ _ rfl _ (Cr qN qS qD) rfl rfl 26 _ kr (by kernel_rfl) rfl (by kernel_rfl) ?_
 replace bb:=below_setRow (g:=w.heap.size + 1) bb (by omega) (Cr qN qS qD)
 replace kp:=Be.rowO (g':=w.heap.size + 1) kp (by omega) (Cr qN qS qD)
 replace kr : Be (World.setRow _ _ (Cr qN qS qD)) _ (Bx qN qS qD) 26:=setRow_heap _ _ _ _ _ _ kr
 refine hK.out _ _ ⟨kp.cell 0,kp.cell 1,kp.cell 2⟩ (fun hS=>?_)
 clear hK K
 refine WA.done (by kernel_rfl) ?_
 clear hS
 clear kp
 go_wp2
 exact Cu (p:=2) (by kernel_rfl) rfl rfl kr ⟨rfl,bb⟩
theorem To (p0 p1 p2 p3 p4 p5 : Bool) (q0 r0 q1 r1 q2 r2 q3 r3 q4 r4 q5 r5 : ByteArray) (aN : Bool) (aS aD : ByteArray) (w : World)
  (H1 : Hid (∀ w1,Calls Tryz.prog 76 #[(B4 p0 q0 r0 p1 q1 r1),(B4 p2 q2 r2 p3 q3 r3),(B4 p4 q4 r4 p5 q5 r5)] w1 (Re w1 ((Bo aN aS aD))))) :
  Calls Tryz.prog 37 #[(Cp p0 q0 r0 p1 q1 r1 p2 q2 r2 p3 q3 r3 p4 q4 r4 p5 q5 r5)] w (Re w ((Bo false aS aD))):=by
 go_enter Tryz.func37,Tryz.ntmps37
 go_upto_region 1 with fail
 obtain ⟨w0,hq,kt,kr,bb⟩:=Gx w (Di p0 q0 r0 p1 q1 r1 p2 q2 r2 p3 q3 r3 p4 q4 r4 p5 q5 r5) (Bx false eB eB) 31 26
 rw [← hq]
 clear hq
 go_wp2_with (first | (refine wpList_load_mid rfl 30 _ rfl (w.heap.size) 0 rfl (Cn p0 q0 r0 p1 q1 r1) _ (kt.rg 0 (Cn p0 q0 r0 p1 q1 r1) [Iz p2,I q2,I r2,Iz p3,I q3,I r3,Iz p4,I q4,I r4,Iz p5,I q5,I r5] rfl) Tryz.underlying30 rfl (by kernel_rfl) ?_) | (refine wpList_load_mid rfl 30 _ rfl (w.heap.size) 6 rfl (Cn p2 q2 r2 p3 q3 r3) _ (kt.rg 6 (Cn p2 q2 r2 p3 q3 r3) (Cn p4 q4 r4 p5 q5 r5) rfl) Tryz.underlying30 rfl (by kernel_rfl) ?_) | (refine wpList_load_mid rfl 30 _ rfl (w.heap.size) 12 rfl (Cn p4 q4 r4 p5 q5 r5) _ (kt.rg 12 (Cn p4 q4 r4 p5 q5 r5) [] rfl) Tryz.underlying30 rfl (by kernel_rfl) ?_))
 go_fit (H1.out _)
 rintro e w1 ⟨rfl,b1⟩
 replace kt:=kt.b b1
 replace kr:=kr.b b1
 replace bb:=Ia bb b1
 clear b1
 clear kt
 have lr:=kr.lt
 go_upto_region 2 with fail
 obtain ⟨v1,hq,ks,b1⟩:=D7 w1 (Bx aN aS aD) 26
 rw [← hq]
 clear hq
 replace kr:=kr.b b1
 replace bb:=Ia bb b1
 clear b1
 obtain ⟨gs,hgs⟩ : ∃ g,g = w1.heap.size:=⟨_,rfl⟩
 rw [← hgs] at ks ⊢
 replace lr : w.heap.size + 1 < gs:=by omega
 clear hgs
 have e0:=ks.cell 0
 have e1:=ks.cell 1
 have e2:=ks.cell 2
 simp only [Jn,Jm] at e0 e1 e2
 have f0:=Be.o ks 0
 go_upto_region 3 with fail
 clear e0 e1 e2 f0
 generalize hW : World.setCell _ _ _ = x1
 replace kr:=kr.w (show _ ≠ gs by omega) 0 (Iz false)
 replace bb:=Bi bb (show _ ≤ gs by omega) 0 (Iz false)
 replace ks : Be _ gs (Bx false aS aD) 26:=ks.set 0 (Iz false)
 rw [hW] at kr ks bb
 clear hW
 have e0:=kr.cell 0
 have e1:=kr.cell 1
 have e2:=kr.cell 2
 simp only [Jn,Jm] at e0 e1 e2
 have f0:=Be.o kr 0
 have f1:=Be.o kr 1
 have f2:=Be.o kr 2
 go_wp2_with (refine Je rfl 26 _ rfl _ rfl 26 _ (0,0) _ ks Tryz.underlying26 rfl (by kernel_rfl) ?_)
 exact Cu (p:=2) (by kernel_rfl) rfl rfl (((kr.set 0 _).set 1 _).set 2 _) ⟨rfl,Bi (Bi (Bi bb (by omega) 0 _) (by omega) 1 _) (by omega) 2 _⟩
theorem Ud (n0 n1 n2 n3 n4 n5 p0 p1 p2 p3 p4 p5 : Bool) (s0 d0 s1 d1 s2 d2 s3 d3 s4 d4 s5 d5 q0 r0 q1 r1 q2 r2 q3 r3 q4 r4 q5 r5 : ByteArray) (gv : Array Value) (aN gN rN : Bool) (aS aD gS gD rS rD : ByteArray) (w : World)
  (H1 : Hid (∀ w1,Calls Tryz.prog 37 #[(Cp p0 q0 r0 p1 q1 r1 p2 q2 r2 p3 q3 r3 p4 q4 r4 p5 q5 r5)] w1 (Re w1 ((Bo aN aS aD)))))
  (H2 : Hid (∀ w1,Calls Tryz.prog 39 #[(Cp n0 s0 d0 n1 s1 d1 n2 s2 d2 n3 s3 d3 n4 s4 d4 n5 s5 d5),(Cp p0 q0 r0 p1 q1 r1 p2 q2 r2 p3 q3 r3 p4 q4 r4 p5 q5 r5)] w1 (Re w1 (.agg gv))))
  (H3 : Hid (∀ w1,Calls Tryz.prog 38 #[.agg gv,.agg #[.int .i64 0,.int .i64 0,.int .i64 0]] w1 (Re w1 ((Bo gN gS gD)))))
  (H4 : Hid (∀ w1,Calls Tryz.prog 36 #[(Bo aN aS aD),(Bo gN gS gD)] w1 (Re w1 ((Bo rN rS rD))))) :
  Calls Tryz.prog 15 #[(Cp n0 s0 d0 n1 s1 d1 n2 s2 d2 n3 s3 d3 n4 s4 d4 n5 s5 d5),(Cp p0 q0 r0 p1 q1 r1 p2 q2 r2 p3 q3 r3 p4 q4 r4 p5 q5 r5)] w (Re w ((Bo rN rS rD))):=by
 go_enter Tryz.func15,Tryz.ntmps15
 go_upto_region 1 with fail
 obtain ⟨w0,hq,kf,kt,kr,bb⟩:=K9 w (Di n0 s0 d0 n1 s1 d1 n2 s2 d2 n3 s3 d3 n4 s4 d4 n5 s5 d5) (Di p0 q0 r0 p1 q1 r1 p2 q2 r2 p3 q3 r3 p4 q4 r4 p5 q5 r5) (Bx false eB eB) 28 31 26
 rw [← hq]
 clear hq
 have bd:=Cd w0
 replace kf:=kf.b bd
 replace kt:=kt.b bd
 replace kr:=kr.b bd
 replace bb:=Ia bb bd
 clear bd
 refine Jc (S:=fun w'=>w'.rangeAt (w.heap.size) 0 (Di n0 s0 d0 n1 s1 d1 n2 s2 d2 n3 s3 d3 n4 s4 d4 n5 s5 d5)∧w'.rangeAt (w.heap.size + 1) 0 (Di p0 q0 r0 p1 q1 r1 p2 q2 r2 p3 q3 r3 p4 q4 r4 p5 q5 r5)) (by kernel_rfl) ⟨kf.all,kt.all⟩ (fun hS=>?_)
 generalize w0.drew = wd at *
 refine WA.start (n:=9) (by kernel_rfl) ?_
 refine WA.tp 0 rfl ?_ (hy:=Jd (by rfl) 31 _ rfl (w.heap.size + 1) 0 rfl _ _ (fun w' h=>h.2) Tryz.underlying31 rfl (by kernel_rfl))
 refine WA.tp 2 rfl ?_ (hy:=Jd (by rfl) 28 _ rfl (w.heap.size) 0 rfl _ _ (fun w' h=>h.1) Tryz.underlying28 rfl (by kernel_rfl))
 refine WA.tp 3 rfl ?_ (hy:=Jd (by rfl) 31 _ rfl (w.heap.size + 1) 0 rfl _ _ (fun w' h=>h.2) Tryz.underlying31 rfl (by kernel_rfl))
 refine WA.tp 5 rfl ?_
 clear hS
 refine WA.cal 1 rfl (fun K hK=>?_)
 simp only [Jq]
 go_simp
 go_fit (H1.out _)
 rintro e wm1 ⟨rfl,b1⟩
 replace kf:=kf.b b1
 replace kt:=kt.b b1
 replace kr:=kr.b b1
 replace bb:=Ia bb b1
 clear b1
 try go_wp2_with fail
 refine hK.out _ _ ⟨kf.all,kt.all⟩ (fun hS=>?_)
 clear hK K
 clear hS
 refine WA.cal 4 rfl (fun K hK=>?_)
 simp only [Jq]
 go_simp
 go_fit (H2.out _)
 rintro e wm4 ⟨rfl,b1⟩
 replace kf:=kf.b b1
 replace kt:=kt.b b1
 replace kr:=kr.b b1
 replace bb:=Ia bb b1
 clear b1
 try go_wp2_with fail
 refine hK.out _ _ ⟨kf.all,kt.all⟩ (fun hS=>?_)
 clear hK K
 clear hS
 refine WA.cal 6 rfl (fun K hK=>?_)
 simp only [Jq]
 go_simp
 go_fit (H3.out _)
 rintro e wm6 ⟨rfl,b1⟩
 replace kf:=kf.b b1
 replace kt:=kt.b b1
 replace kr:=kr.b b1
 replace bb:=Ia bb b1
 clear b1
 try go_wp2_with fail
 refine hK.out _ _ ⟨kf.all,kt.all⟩ (fun hS=>?_)
 clear hK K
 clear hS
 refine WA.cal 7 rfl (fun K hK=>?_)
 simp only [Jq]
 go_simp
 go_fit (H4.out _)
 rintro e wm7 ⟨rfl,b1⟩
 replace kf:=kf.b b1
 replace kt:=kt.b b1
 replace kr:=kr.b b1
 replace bb:=Ia bb b1
 clear b1
 try go_wp2_with fail
 refine hK.out _ _ ⟨kf.all,kt.all⟩ (fun hS=>?_)
 clear hK K
 clear hS
 refine WA.cal 8 rfl (fun K hK=>?_)
 rw [if_pos (by rfl)]
 refine wp_store_row 26 _ _ rfl _ (Cr rN rS rD) rfl rfl 26 _ kr (by kernel_rfl) rfl (by kernel_rfl) ?_
 replace bb:=below_setRow (g:=w.heap.size + 1 + 1) bb (by omega) (Cr rN rS rD)
 replace kf:=Be.rowO (g':=w.heap.size + 1 + 1) kf (by omega) (Cr rN rS rD)
 replace kt:=Be.rowO (g':=w.heap.size + 1 + 1) kt (by omega) (Cr rN rS rD)
 replace kr : Be (World.setRow _ _ (Cr rN rS rD)) _ (Bx rN rS rD) 26:=setRow_heap _ _ _ _ _ _ kr
 refine hK.out _ _ ⟨kf.all,kt.all⟩ (fun hS=>?_)
 clear hK K
 refine WA.done (by kernel_rfl) ?_
 clear hS
 clear kf kt
 go_wp2
 exact Cu (p:=4) (by kernel_rfl) rfl rfl kr ⟨rfl,bb⟩
theorem Ua (n0 n1 n2 n3 n4 n5 p0 p1 p2 p3 p4 p5 : Bool) (s0 d0 s1 d1 s2 d2 s3 d3 s4 d4 s5 d5 q0 r0 q1 r1 q2 r2 q3 r3 q4 r4 q5 r5 : ByteArray) (aN e0N e1N e2N e3N e4N e5N g0N g1N g2N l0N l1N l2N : Bool) (aS aD e0S e0D e1S e1D e2S e2D e3S e3D e4S e4D e5S e5D g0S g0D g1S g1D g2S g2D l0S l0D l1S l1D l2S l2D : ByteArray) (w : World)
  (H1 : Hid (∀ w1,Calls Tryz.prog 37 #[(Cp p0 q0 r0 p1 q1 r1 p2 q2 r2 p3 q3 r3 p4 q4 r4 p5 q5 r5)] w1 (Re w1 ((Bo aN aS aD)))))
  (H2 : Hid (∀ w1,Calls Tryz.prog 39 #[(Cp n0 s0 d0 n1 s1 d1 n2 s2 d2 n3 s3 d3 n4 s4 d4 n5 s5 d5),(Cp p0 q0 r0 p1 q1 r1 p2 q2 r2 p3 q3 r3 p4 q4 r4 p5 q5 r5)] w1 (Re w1 ((Wi e0N e0S e0D e1N e1S e1D e2N e2S e2D false eB eB e3N e3S e3D e4N e4S e4D false eB eB false eB eB e5N e5S e5D)))))
  (W0 : Hid (∀ w1,Calls Tryz.prog 38 #[(Wi e0N e0S e0D e1N e1S e1D e2N e2S e2D false eB eB e3N e3S e3D e4N e4S e4D false eB eB false eB eB e5N e5S e5D),.agg #[.int .i64 1,.int .i64 0,.int .i64 0]] w1 (Re w1 ((Bo g0N g0S g0D)))))
  (T0 : Hid (∀ w1,Calls Tryz.prog 36 #[(Bo aN aS aD),(Bo g0N g0S g0D)] w1 (Re w1 ((Bo l0N l0S l0D)))))
  (W1 : Hid (∀ w1,Calls Tryz.prog 38 #[(Wi e0N e0S e0D e1N e1S e1D e2N e2S e2D false eB eB e3N e3S e3D e4N e4S e4D false eB eB false eB eB e5N e5S e5D),.agg #[.int .i64 0,.int .i64 1,.int .i64 0]] w1 (Re w1 ((Bo g1N g1S g1D)))))
  (T1 : Hid (∀ w1,Calls Tryz.prog 36 #[(Bo aN aS aD),(Bo g1N g1S g1D)] w1 (Re w1 ((Bo l1N l1S l1D)))))
  (W2 : Hid (∀ w1,Calls Tryz.prog 38 #[(Wi e0N e0S e0D e1N e1S e1D e2N e2S e2D false eB eB e3N e3S e3D e4N e4S e4D false eB eB false eB eB e5N e5S e5D),.agg #[.int .i64 0,.int .i64 0,.int .i64 1]] w1 (Re w1 ((Bo g2N g2S g2D)))))
  (T2 : Hid (∀ w1,Calls Tryz.prog 36 #[(Bo aN aS aD),(Bo g2N g2S g2D)] w1 (Re w1 ((Bo l2N l2S l2D))))) :
  Calls Tryz.prog 16 #[(Cp n0 s0 d0 n1 s1 d1 n2 s2 d2 n3 s3 d3 n4 s4 d4 n5 s5 d5),(Cp p0 q0 r0 p1 q1 r1 p2 q2 r2 p3 q3 r3 p4 q4 r4 p5 q5 r5)] w (Re w ((Wj l0N l0S l0D l1N l1S l1D l2N l2S l2D))):=by
 go_enter Tryz.func16,Tryz.ntmps16
 go_upto_region 1 with fail
 obtain ⟨w0,hq,kf,kt,kr,bb⟩:=K9 w (Di n0 s0 d0 n1 s1 d1 n2 s2 d2 n3 s3 d3 n4 s4 d4 n5 s5 d5) (Di p0 q0 r0 p1 q1 r1 p2 q2 r2 p3 q3 r3 p4 q4 r4 p5 q5 r5) (Oz false eB eB false eB eB false eB eB) 28 31 37
 rw [← hq]
 clear hq
 go_wp2_with (first | (refine Je rfl 28 _ rfl _ rfl 28 _ (0,0) _ kf Tryz.underlying28 rfl (by kernel_rfl) ?_) | (refine Je rfl 31 _ rfl _ rfl 31 _ (0,0) _ kt Tryz.underlying31 rfl (by kernel_rfl) ?_))
 go_fit (H2.out _)
 rintro e w1 ⟨rfl,b1⟩
 replace kf:=kf.b b1
 replace kt:=kt.b b1
 replace kr:=kr.b b1
 replace bb:=Ia bb b1
 clear b1
 clear kf
 have lr:=kr.lt
 go_upto_region 2 with (refine Jk rfl 81 _ _ rfl (w1.heap.size) 0 (qv9 e0N e0S e0D e1N e1S e1D e2N e2S e2D false eB eB e3N e3S e3D e4N e4S e4D false eB eB false eB eB e5N e5S e5D) rfl rfl ((Be.new w1 (Gw false eB eB false eB eB false eB eB false eB eB false eB eB false eB eB false eB eB false eB eB false eB eB) 81).there 0 27 (Nat.le_of_ble_eq_true rfl)) (by kernel_rfl) (by kernel_rfl) ?_)
 generalize hW : World.setCells _ _ 0 _ = v1
 have b1 : Below w1.heap.size w1 v1:=by rw [← hW]; exact Ls ((Jg _ _).alloc (Jb _) _) (Jb _) 0 _
 have hu : upd (Gw false eB eB false eB eB false eB eB false eB eB false eB eB false eB eB false eB eB false eB eB false eB eB) 0 (Gw e0N e0S e0D e1N e1S e1D e2N e2S e2D false eB eB e3N e3S e3D e4N e4S e4D false eB eB false eB eB e5N e5S e5D) = (Gw e0N e0S e0D e1N e1S e1D e2N e2S e2D false eB eB e3N e3S e3D e4N e4S e4D false eB eB false eB eB e5N e5S e5D):=by kernel_rfl
 have kg : Be v1 w1.heap.size (upd (Gw false eB eB false eB eB false eB eB false eB eB false eB eB false eB eB false eB eB false eB eB false eB eB) 0 (Gw e0N e0S e0D e1N e1S e1D e2N e2S e2D false eB eB e3N e3S e3D e4N e4S e4D false eB eB false eB eB e5N e5S e5D)) 81:=by rw [← hW]; exact (Be.new w1 (Gw false eB eB false eB eB false eB eB false eB eB false eB eB false eB eB false eB eB false eB eB false eB eB) 81).midS 0 (Gw e0N e0S e0D e1N e1S e1D e2N e2S e2D false eB eB e3N e3S e3D e4N e4S e4D false eB eB false eB eB e5N e5S e5D)
 rw [hu] at kg
 clear hu hW
 obtain ⟨gg,hgg⟩ : ∃ g,g = w1.heap.size:=⟨_,rfl⟩
 rw [← hgg] at kg ⊢
 replace kt:=kt.b b1
 replace kr:=kr.b b1
 replace lr : w.heap.size + 1 + 1 < gg:=by omega
 replace bb:=Ia bb b1
 clear b1 hgg
 have lg:=kg.lt
 go_upto_region 3 with fail
 obtain ⟨v2,hq,ko,b1⟩:=D7 v1 (Oz false eB eB false eB eB false eB eB) 37
 rw [← hq]
 clear hq
 obtain ⟨go,hgo⟩ : ∃ g,g = v1.heap.size:=⟨_,rfl⟩
 rw [← hgo] at ko ⊢
 replace kt:=kt.b b1
 replace kr:=kr.b b1
 replace kg:=kg.b b1
 replace bb:=Ia bb b1
 clear b1
 replace lg : gg < go:=by omega
 clear hgo
 go_wp2_with fail
 refine wp_loop_rounds 4 ?_
 rw [rounds_succ]
 have ls:=ko.lt
 go_upto_region 7 with fail
 obtain ⟨u0,hq,kp,b1⟩:=D7 v2 [.int .i64 0,.int .i64 0,.int .i64 0] 83
 rw [← hq]
 clear hq
 obtain ⟨gp,hgp⟩ : ∃ g,g = v2.heap.size:=⟨_,rfl⟩
 rw [← hgp] at kp ⊢
 replace kt:=kt.b b1
 replace kr:=kr.b b1
 replace kg:=kg.b b1
 replace ko:=ko.b b1
 replace bb:=Ia bb b1
 clear b1
 replace ls : go < gp:=by omega
 clear hgp
 have c0':=kp.cell 0
 have c1':=kp.cell 1
 have c2':=kp.cell 2
 simp only [Jn,Jm] at c0' c1' c2'
 have f0:=Be.o kp 0
 have f1:=Be.o kp 1
 have f2:=Be.o kp 2
 go_upto_region 8 with fail
 clear c0' c1' c2' f0 f1 f2
 generalize hW : World.setCell _ _ _ = x0
 replace kp : Be x0 gp [.int .i64 1,.int .i64 0,.int .i64 0] 83:=by rw [← hW]; exact kp.set 0 _
 replace kt:=kt.w (show _ ≠ gp by omega) 0 (.int .i64 1)
 replace kr:=kr.w (show _ ≠ gp by omega) 0 (.int .i64 1)
 replace kg:=kg.w (show _ ≠ gp by omega) 0 (.int .i64 1)
 replace ko:=ko.w (show _ ≠ gp by omega) 0 (.int .i64 1)
 replace bb:=Bi bb (show _ ≤ gp by omega) 0 (.int .i64 1)
 rw [hW] at kt kr kg ko bb
 clear hW
 have bd:=Cd x0
 replace kt:=kt.b bd
 replace kr:=kr.b bd
 replace kg:=kg.b bd
 replace ko:=ko.b bd
 replace kp:=kp.b bd
 replace bb:=Ia bb bd
 clear bd
 refine Jc (S:=fun w'=>w'.rangeAt (w.heap.size + 1) 0 (Di p0 q0 r0 p1 q1 r1 p2 q2 r2 p3 q3 r3 p4 q4 r4 p5 q5 r5)∧w'.rangeAt (gg) 0 (Gw e0N e0S e0D e1N e1S e1D e2N e2S e2D false eB eB e3N e3S e3D e4N e4S e4D false eB eB false eB eB e5N e5S e5D)∧w'.rangeAt (gp) 0 [.int .i64 1,.int .i64 0,.int .i64 0]) (by kernel_rfl) ⟨kt.all,kg.all,kp.all⟩ (fun hS=>?_)
 generalize x0.drew = wd0 at *
 refine WA.start (n:=9) (by kernel_rfl) ?_
 refine WA.tp 0 rfl ?_
 refine WA.tp 1 rfl ?_ (hy:=Jd (by rfl) 31 _ rfl (w.heap.size + 1) 0 rfl _ _ (fun w' h=>h.1) Tryz.underlying31 rfl (by kernel_rfl))
 refine WA.tp 3 rfl ?_ (hy:=Jd (by rfl) 81 _ rfl (gg) 0 rfl _ _ (fun w' h=>h.2.1) Tryz.underlying81 rfl (by kernel_rfl))
 refine WA.tp 4 rfl ?_ (hy:=Jd (by rfl) 83 _ rfl (gp) 0 rfl _ _ (fun w' h=>h.2.2) Tryz.underlying83 rfl (by kernel_rfl))
 clear hS
 refine WA.cal 2 rfl (fun K hK=>?_)
 simp only [Jq]
 go_simp
 go_fit (H1.out _)
 rintro e wm2 ⟨rfl,b1⟩
 replace kt:=kt.b b1
 replace kr:=kr.b b1
 replace kg:=kg.b b1
 replace ko:=ko.b b1
 replace kp:=kp.b b1
 replace bb:=Ia bb b1
 clear b1
 try go_wp2_with fail
 refine hK.out _ _ ⟨kt.all,kg.all,kp.all⟩ (fun hS=>?_)
 clear hK K
 clear hS
 refine WA.cal 5 rfl (fun K hK=>?_)
 simp only [Jq]
 go_simp
 go_fit (W0.out _)
 rintro e wm5 ⟨rfl,b1⟩
 replace kt:=kt.b b1
 replace kr:=kr.b b1
 replace kg:=kg.b b1
 replace ko:=ko.b b1
 replace kp:=kp.b b1
 replace bb:=Ia bb b1
 clear b1
 try go_wp2_with fail
 refine hK.out _ _ ⟨kt.all,kg.all,kp.all⟩ (fun hS=>?_)
 clear hK K
 clear hS
 refine WA.cal 6 rfl (fun K hK=>?_)
 simp only [Jq]
 go_simp
 go_fit (T0.out _)
 rintro e wm6 ⟨rfl,b1⟩
 replace kt:=kt.b b1
 replace kr:=kr.b b1
 replace kg:=kg.b b1
 replace ko:=ko.b b1
 replace kp:=kp.b b1
 replace bb:=Ia bb b1
 clear b1
 try go_wp2_with fail
 refine hK.out _ _ ⟨kt.all,kg.all,kp.all⟩ (fun hS=>?_)
 clear hK K
 refine WA.tp 7 rfl ?_
 clear hS
 refine WA.cal 8 rfl (fun K hK=>?_)
 rw [if_pos (by rfl)]
 refine wp_store_mid 26 _ _ rfl (go) 0 (Cr l0N l0S l0D) rfl rfl (ko.there 0 3 (Nat.le_of_ble_eq_true rfl)) (by kernel_rfl) (by kernel_rfl) ?_
 replace bb:=Ls bb (show _ ≤ go from (by omega)) 0 (Bx l0N l0S l0D)
 replace kt:=Be.midO (g':=go) kt (by omega) 0 (Bx l0N l0S l0D)
 replace kr:=Be.midO (g':=go) kr (by omega) 0 (Bx l0N l0S l0D)
 replace kg:=Be.midO (g':=go) kg (by omega) 0 (Bx l0N l0S l0D)
 replace kp:=Be.midO (g':=go) kp (by omega) 0 (Bx l0N l0S l0D)
 replace ko : Be (World.setCells _ _ 0 (Bx l0N l0S l0D)) _ (Oz l0N l0S l0D false eB eB false eB eB) 37:=Be.midS ko 0 (Bx l0N l0S l0D)
 refine hK.out _ _ ⟨kt.all,kg.all,kp.all⟩ (fun hS=>?_)
 clear hK K
 refine WA.done (by kernel_rfl) ?_
 clear hS
 clear kp ls
 go_wp2_with fail
 generalize World.setCells _ _ 0 _ = z0 at *
 rw [rounds_succ]
 have ls:=ko.lt
 go_upto_region 7 with fail
 obtain ⟨u1,hq,kp,b1⟩:=D7 z0 [.int .i64 0,.int .i64 0,.int .i64 0] 83
 rw [← hq]
 clear hq
 obtain ⟨gp,hgp⟩ : ∃ g,g = z0.heap.size:=⟨_,rfl⟩
 rw [← hgp] at kp ⊢
 replace kt:=kt.b b1
 replace kr:=kr.b b1
 replace kg:=kg.b b1
 replace ko:=ko.b b1
 replace bb:=Ia bb b1
 clear b1
 replace ls : go < gp:=by omega
 clear hgp
 have c0':=kp.cell 0
 have c1':=kp.cell 1
 have c2':=kp.cell 2
 simp only [Jn,Jm] at c0' c1' c2'
 have f0:=Be.o kp 0
 have f1:=Be.o kp 1
 have f2:=Be.o kp 2
 go_upto_region 8 with fail
 clear c0' c1' c2' f0 f1 f2
 generalize hW : World.setCell _ _ _ = x1
 replace kp : Be x1 gp [.int .i64 0,.int .i64 1,.int .i64 0] 83:=by rw [← hW]; exact kp.set 1 _
 replace kt:=kt.w (show _ ≠ gp by omega) 1 (.int .i64 1)
 replace kr:=kr.w (show _ ≠ gp by omega) 1 (.int .i64 1)
 replace kg:=kg.w (show _ ≠ gp by omega) 1 (.int .i64 1)
 replace ko:=ko.w (show _ ≠ gp by omega) 1 (.int .i64 1)
 replace bb:=Bi bb (show _ ≤ gp by omega) 1 (.int .i64 1)
 rw [hW] at kt kr kg ko bb
 clear hW
 have bd:=Cd x1
 replace kt:=kt.b bd
 replace kr:=kr.b bd
 replace kg:=kg.b bd
 replace ko:=ko.b bd
 replace kp:=kp.b bd
 replace bb:=Ia bb bd
 clear bd
 refine Jc (S:=fun w'=>w'.rangeAt (w.heap.size + 1) 0 (Di p0 q0 r0 p1 q1 r1 p2 q2 r2 p3 q3 r3 p4 q4 r4 p5 q5 r5)∧w'.rangeAt (gg) 0 (Gw e0N e0S e0D e1N e1S e1D e2N e2S e2D false eB eB e3N e3S e3D e4N e4S e4D false eB eB false eB eB e5N e5S e5D)∧w'.rangeAt (gp) 0 [.int .i64 0,.int .i64 1,.int .i64 0]) (by kernel_rfl) ⟨kt.all,kg.all,kp.all⟩ (fun hS=>?_)
 generalize x1.drew = wd1 at *
 refine WA.start (n:=9) (by kernel_rfl) ?_
 refine WA.tp 0 rfl ?_
 refine WA.tp 1 rfl ?_ (hy:=Jd (by rfl) 31 _ rfl (w.heap.size + 1) 0 rfl _ _ (fun w' h=>h.1) Tryz.underlying31 rfl (by kernel_rfl))
 refine WA.tp 3 rfl ?_ (hy:=Jd (by rfl) 81 _ rfl (gg) 0 rfl _ _ (fun w' h=>h.2.1) Tryz.underlying81 rfl (by kernel_rfl))
 refine WA.tp 4 rfl ?_ (hy:=Jd (by rfl) 83 _ rfl (gp) 0 rfl _ _ (fun w' h=>h.2.2) Tryz.underlying83 rfl (by kernel_rfl))
 clear hS
 refine WA.cal 2 rfl (fun K hK=>?_)
 simp only [Jq]
 go_simp
 go_fit (H1.out _)
 rintro e wm2 ⟨rfl,b1⟩
 replace kt:=kt.b b1
 replace kr:=kr.b b1
 replace kg:=kg.b b1
 replace ko:=ko.b b1
 replace kp:=kp.b b1
 replace bb:=Ia bb b1
 clear b1
 try go_wp2_with fail
 refine hK.out _ _ ⟨kt.all,kg.all,kp.all⟩ (fun hS=>?_)
 clear hK K
 clear hS
 refine WA.cal 5 rfl (fun K hK=>?_)
 simp only [Jq]
 go_simp
 go_fit (W1.out _)
 rintro e wm5 ⟨rfl,b1⟩
 replace kt:=kt.b b1
 replace kr:=kr.b b1
 replace kg:=kg.b b1
 replace ko:=ko.b b1
 replace kp:=kp.b b1
 replace bb:=Ia bb b1
 clear b1
 try go_wp2_with fail
 refine hK.out _ _ ⟨kt.all,kg.all,kp.all⟩ (fun hS=>?_)
 clear hK K
 clear hS
 refine WA.cal 6 rfl (fun K hK=>?_)
 simp only [Jq]
 go_simp
 go_fit (T1.out _)
 rintro e wm6 ⟨rfl,b1⟩
 replace kt:=kt.b b1
 replace kr:=kr.b b1
 replace kg:=kg.b b1
 replace ko:=ko.b b1
 replace kp:=kp.b b1
 replace bb:=Ia bb b1
 clear b1
 try go_wp2_with fail
 refine hK.out _ _ ⟨kt.all,kg.all,kp.all⟩ (fun hS=>?_)
 clear hK K
 refine WA.tp 7 rfl ?_
 clear hS
 refine WA.cal 8 rfl (fun K hK=>?_)
 rw [if_pos (by rfl)]
 refine wp_store_mid 26 _ _ rfl (go) 3 (Cr l1N l1S l1D) rfl rfl (ko.there 3 3 (Nat.le_of_ble_eq_true rfl)) (by kernel_rfl) (by kernel_rfl) ?_
 replace bb:=Ls bb (show _ ≤ go from (by omega)) 3 (Bx l1N l1S l1D)
 replace kt:=Be.midO (g':=go) kt (by omega) 3 (Bx l1N l1S l1D)
 replace kr:=Be.midO (g':=go) kr (by omega) 3 (Bx l1N l1S l1D)
 replace kg:=Be.midO (g':=go) kg (by omega) 3 (Bx l1N l1S l1D)
 replace kp:=Be.midO (g':=go) kp (by omega) 3 (Bx l1N l1S l1D)
 replace ko : Be (World.setCells _ _ 3 (Bx l1N l1S l1D)) _ (Oz l0N l0S l0D l1N l1S l1D false eB eB) 37:=Be.midS ko 3 (Bx l1N l1S l1D)
 refine hK.out _ _ ⟨kt.all,kg.all,kp.all⟩ (fun hS=>?_)
 clear hK K
 refine WA.done (by kernel_rfl) ?_
 clear hS
 clear kp ls
 go_wp2_with fail
 generalize World.setCells _ _ 3 _ = z1 at *
 rw [rounds_succ]
 have ls:=ko.lt
 go_upto_region 7 with fail
 obtain ⟨u2,hq,kp,b1⟩:=D7 z1 [.int .i64 0,.int .i64 0,.int .i64 0] 83
 rw [← hq]
 clear hq
 obtain ⟨gp,hgp⟩ : ∃ g,g = z1.heap.size:=⟨_,rfl⟩
 rw [← hgp] at kp ⊢
 replace kt:=kt.b b1
 replace kr:=kr.b b1
 replace kg:=kg.b b1
 replace ko:=ko.b b1
 replace bb:=Ia bb b1
 clear b1
 replace ls : go < gp:=by omega
 clear hgp
 have c0':=kp.cell 0
 have c1':=kp.cell 1
 have c2':=kp.cell 2
 simp only [Jn,Jm] at c0' c1' c2'
 have f0:=Be.o kp 0
 have f1:=Be.o kp 1
 have f2:=Be.o kp 2
 go_upto_region 8 with fail
 clear c0' c1' c2' f0 f1 f2
 generalize hW : World.setCell _ _ _ = x2
 replace kp : Be x2 gp [.int .i64 0,.int .i64 0,.int .i64 1] 83:=by rw [← hW]; exact kp.set 2 _
 replace kt:=kt.w (show _ ≠ gp by omega) 2 (.int .i64 1)
 replace kr:=kr.w (show _ ≠ gp by omega) 2 (.int .i64 1)
 replace kg:=kg.w (show _ ≠ gp by omega) 2 (.int .i64 1)
 replace ko:=ko.w (show _ ≠ gp by omega) 2 (.int .i64 1)
 replace bb:=Bi bb (show _ ≤ gp by omega) 2 (.int .i64 1)
 rw [hW] at kt kr kg ko bb
 clear hW
 have bd:=Cd x2
 replace kt:=kt.b bd
 replace kr:=kr.b bd
 replace kg:=kg.b bd
 replace ko:=ko.b bd
 replace kp:=kp.b bd
 replace bb:=Ia bb bd
 clear bd
 refine Jc (S:=fun w'=>w'.rangeAt (w.heap.size + 1) 0 (Di p0 q0 r0 p1 q1 r1 p2 q2 r2 p3 q3 r3 p4 q4 r4 p5 q5 r5)∧w'.rangeAt (gg) 0 (Gw e0N e0S e0D e1N e1S e1D e2N e2S e2D false eB eB e3N e3S e3D e4N e4S e4D false eB eB false eB eB e5N e5S e5D)∧w'.rangeAt (gp) 0 [.int .i64 0,.int .i64 0,.int .i64 1]) (by kernel_rfl) ⟨kt.all,kg.all,kp.all⟩ (fun hS=>?_)
 generalize x2.drew = wd2 at *
 refine WA.start (n:=9) (by kernel_rfl) ?_
 refine WA.tp 0 rfl ?_
 refine WA.tp 1 rfl ?_ (hy:=Jd (by rfl) 31 _ rfl (w.heap.size + 1) 0 rfl _ _ (fun w' h=>h.1) Tryz.underlying31 rfl (by kernel_rfl))
 refine WA.tp 3 rfl ?_ (hy:=Jd (by rfl) 81 _ rfl (gg) 0 rfl _ _ (fun w' h=>h.2.1) Tryz.underlying81 rfl (by kernel_rfl))
 refine WA.tp 4 rfl ?_ (hy:=Jd (by rfl) 83 _ rfl (gp) 0 rfl _ _ (fun w' h=>h.2.2) Tryz.underlying83 rfl (by kernel_rfl))
 clear hS
 refine WA.cal 2 rfl (fun K hK=>?_)
 simp only [Jq]
 go_simp
 go_fit (H1.out _)
 rintro e wm2 ⟨rfl,b1⟩
 replace kt:=kt.b b1
 replace kr:=kr.b b1
 replace kg:=kg.b b1
 replace ko:=ko.b b1
 replace kp:=kp.b b1
 replace bb:=Ia bb b1
 clear b1
 try go_wp2_with fail
 refine hK.out _ _ ⟨kt.all,kg.all,kp.all⟩ (fun hS=>?_)
 clear hK K
 clear hS
 refine WA.cal 5 rfl (fun K hK=>?_)
 simp only [Jq]
 go_simp
 go_fit (W2.out _)
 rintro e wm5 ⟨rfl,b1⟩
 replace kt:=kt.b b1
 replace kr:=kr.b b1
 replace kg:=kg.b b1
 replace ko:=ko.b b1
 replace kp:=kp.b b1
 replace bb:=Ia bb b1
 clear b1
 try go_wp2_with fail
 refine hK.out _ _ ⟨kt.all,kg.all,kp.all⟩ (fun hS=>?_)
 clear hK K
 clear hS
 refine WA.cal 6 rfl (fun K hK=>?_)
 simp only [Jq]
 go_simp
 go_fit (T2.out _)
 rintro e wm6 ⟨rfl,b1⟩
 replace kt:=kt.b b1
 replace kr:=kr.b b1
 replace kg:=kg.b b1
 replace ko:=ko.b b1
 replace kp:=kp.b b1
 replace bb:=Ia bb b1
 clear b1
 try go_wp2_with fail
 refine hK.out _ _ ⟨kt.all,kg.all,kp.all⟩ (fun hS=>?_)
 clear hK K
 refine WA.tp 7 rfl ?_
 clear hS
 refine WA.cal 8 rfl (fun K hK=>?_)
 rw [if_pos (by rfl)]
 refine wp_store_mid 26 _ _ rfl (go) 6 (Cr l2N l2S l2D) rfl rfl (ko.there 6 3 (Nat.le_of_ble_eq_true rfl)) (by kernel_rfl) (by kernel_rfl) ?_
 replace bb:=Ls bb (show _ ≤ go from (by omega)) 6 (Bx l2N l2S l2D)
 replace kt:=Be.midO (g':=go) kt (by omega) 6 (Bx l2N l2S l2D)
 replace kr:=Be.midO (g':=go) kr (by omega) 6 (Bx l2N l2S l2D)
 replace kg:=Be.midO (g':=go) kg (by omega) 6 (Bx l2N l2S l2D)
 replace kp:=Be.midO (g':=go) kp (by omega) 6 (Bx l2N l2S l2D)
 replace ko : Be (World.setCells _ _ 6 (Bx l2N l2S l2D)) _ (Oz l0N l0S l0D l1N l1S l1D l2N l2S l2D) 37:=Be.midS ko 6 (Bx l2N l2S l2D)
 refine hK.out _ _ ⟨kt.all,kg.all,kp.all⟩ (fun hS=>?_)
 clear hK K
 refine WA.done (by kernel_rfl) ?_
 clear hS
 clear kp ls
 go_wp2_with fail
 generalize World.setCells _ _ 6 _ = z2 at *
 rw [rounds_succ]
 go_upto_region 9 with fail
 refine wp_region_lit ?_
 refine Je rfl 37 _ rfl _ rfl 37 _ (0,0) _ ko Tryz.underlying37 rfl (by kernel_rfl) ?_
 refine Jk rfl 37 _ _ rfl (w.heap.size + 1 + 1) 0 (qv3 l0N l0S l0D l1N l1S l1D l2N l2S l2D) rfl rfl (kr.there 0 9 (Nat.le_of_ble_eq_true rfl)) (by kernel_rfl) (by kernel_rfl) ?_
 generalize hW : World.setCells _ _ 0 _ = wz
 replace bb : Below w.heap.size w wz:=by rw [← hW]; exact Ls bb (by omega) 0 _
 have hu : upd (Oz false eB eB false eB eB false eB eB) 0 (Oz l0N l0S l0D l1N l1S l1D l2N l2S l2D) = (Oz l0N l0S l0D l1N l1S l1D l2N l2S l2D):=by kernel_rfl
 replace kr : Be wz (w.heap.size + 1 + 1) (upd (Oz false eB eB false eB eB false eB eB) 0 (Oz l0N l0S l0D l1N l1S l1D l2N l2S l2D)) 37:=by rw [← hW]; exact kr.midS 0 (Oz l0N l0S l0D l1N l1S l1D l2N l2S l2D)
 rw [hu] at kr
 clear hu hW kt kg ko
 simp only [Jp]
 go_wp2_with fail
 refine ⟨rfl,(Wj l0N l0S l0D l1N l1S l1D l2N l2S l2D),results_cell_row (P:=Tryz.prog) (p:=4) (by kernel_rfl) _ _ _ 37 (qv3 l0N l0S l0D l1N l1S l1D l2N l2S l2D) (0,0) _ rfl kr Tryz.underlying37 rfl (by kernel_rfl),⟨rfl,bb⟩⟩
theorem Tz (n0 n1 n2 n3 n4 n5 p0 p1 p2 p3 p4 p5 : Bool) (s0 d0 s1 d1 s2 d2 s3 d3 s4 d4 s5 d5 q0 r0 q1 r1 q2 r2 q3 r3 q4 r4 q5 r5 : ByteArray) (aN e0N e1N e2N e3N e4N e5N g0N g1N g2N g3N g4N g5N t0N t1N t2N t3N t4N t5N s0N s1N s2N s3N s4N s5N s6N rN : Bool) (aS aD e0S e0D e1S e1D e2S e2D e3S e3D e4S e4D e5S e5D g0S g0D g1S g1D g2S g2D g3S g3D g4S g4D g5S g5D t0S t0D t1S t1D t2S t2D t3S t3D t4S t4D t5S t5D s0S s0D s1S s1D s2S s2D s3S s3D s4S s4D s5S s5D s6S s6D rS rD : ByteArray) (w : World)
  (H1 : Hid (∀ w1,Calls Tryz.prog 37 #[(Cp p0 q0 r0 p1 q1 r1 p2 q2 r2 p3 q3 r3 p4 q4 r4 p5 q5 r5)] w1 (Re w1 ((Bo aN aS aD)))))
  (H2 : Hid (∀ w1,Calls Tryz.prog 39 #[(Cp n0 s0 d0 n1 s1 d1 n2 s2 d2 n3 s3 d3 n4 s4 d4 n5 s5 d5),(Cp p0 q0 r0 p1 q1 r1 p2 q2 r2 p3 q3 r3 p4 q4 r4 p5 q5 r5)] w1 (Re w1 ((Wi e0N e0S e0D e1N e1S e1D e2N e2S e2D false eB eB e3N e3S e3D e4N e4S e4D false eB eB false eB eB e5N e5S e5D)))))
  (HO : Hid (∀ w1,Calls Tryz.prog 40 #[.int .i64 0] w1 (Re w1 ((Bo s0N s0S s0D)))))
  (W0 : Hid (∀ w1,Calls Tryz.prog 38 #[(Wi e0N e0S e0D e1N e1S e1D e2N e2S e2D false eB eB e3N e3S e3D e4N e4S e4D false eB eB false eB eB e5N e5S e5D),.agg #[.int .i64 2,.int .i64 0,.int .i64 0]] w1 (Re w1 ((Bo g0N g0S g0D)))))
  (T0 : Hid (∀ w1,Calls Tryz.prog 36 #[(Bo e0N e0S e0D),(Bo g0N g0S g0D)] w1 (Re w1 ((Bo t0N t0S t0D)))))
  (S0 : Hid (∀ w1,Calls Tryz.prog 41 #[(Bo s0N s0S s0D),(Bo t0N t0S t0D)] w1 (Re w1 ((Bo s1N s1S s1D)))))
  (W1 : Hid (∀ w1,Calls Tryz.prog 38 #[(Wi e0N e0S e0D e1N e1S e1D e2N e2S e2D false eB eB e3N e3S e3D e4N e4S e4D false eB eB false eB eB e5N e5S e5D),.agg #[.int .i64 1,.int .i64 1,.int .i64 0]] w1 (Re w1 ((Bo g1N g1S g1D)))))
  (T1 : Hid (∀ w1,Calls Tryz.prog 36 #[(Bo e1N e1S e1D),(Bo g1N g1S g1D)] w1 (Re w1 ((Bo t1N t1S t1D)))))
  (S1 : Hid (∀ w1,Calls Tryz.prog 41 #[(Bo s1N s1S s1D),(Bo t1N t1S t1D)] w1 (Re w1 ((Bo s2N s2S s2D)))))
  (W2 : Hid (∀ w1,Calls Tryz.prog 38 #[(Wi e0N e0S e0D e1N e1S e1D e2N e2S e2D false eB eB e3N e3S e3D e4N e4S e4D false eB eB false eB eB e5N e5S e5D),.agg #[.int .i64 1,.int .i64 0,.int .i64 1]] w1 (Re w1 ((Bo g2N g2S g2D)))))
  (T2 : Hid (∀ w1,Calls Tryz.prog 36 #[(Bo e2N e2S e2D),(Bo g2N g2S g2D)] w1 (Re w1 ((Bo t2N t2S t2D)))))
  (S2 : Hid (∀ w1,Calls Tryz.prog 41 #[(Bo s2N s2S s2D),(Bo t2N t2S t2D)] w1 (Re w1 ((Bo s3N s3S s3D)))))
  (W3 : Hid (∀ w1,Calls Tryz.prog 38 #[(Wi e0N e0S e0D e1N e1S e1D e2N e2S e2D false eB eB e3N e3S e3D e4N e4S e4D false eB eB false eB eB e5N e5S e5D),.agg #[.int .i64 0,.int .i64 2,.int .i64 0]] w1 (Re w1 ((Bo g3N g3S g3D)))))
  (T3 : Hid (∀ w1,Calls Tryz.prog 36 #[(Bo e3N e3S e3D),(Bo g3N g3S g3D)] w1 (Re w1 ((Bo t3N t3S t3D)))))
  (S3 : Hid (∀ w1,Calls Tryz.prog 41 #[(Bo s3N s3S s3D),(Bo t3N t3S t3D)] w1 (Re w1 ((Bo s4N s4S s4D)))))
  (W4 : Hid (∀ w1,Calls Tryz.prog 38 #[(Wi e0N e0S e0D e1N e1S e1D e2N e2S e2D false eB eB e3N e3S e3D e4N e4S e4D false eB eB false eB eB e5N e5S e5D),.agg #[.int .i64 0,.int .i64 1,.int .i64 1]] w1 (Re w1 ((Bo g4N g4S g4D)))))
  (T4 : Hid (∀ w1,Calls Tryz.prog 36 #[(Bo e4N e4S e4D),(Bo g4N g4S g4D)] w1 (Re w1 ((Bo t4N t4S t4D)))))
  (S4 : Hid (∀ w1,Calls Tryz.prog 41 #[(Bo s4N s4S s4D),(Bo t4N t4S t4D)] w1 (Re w1 ((Bo s5N s5S s5D)))))
  (W5 : Hid (∀ w1,Calls Tryz.prog 38 #[(Wi e0N e0S e0D e1N e1S e1D e2N e2S e2D false eB eB e3N e3S e3D e4N e4S e4D false eB eB false eB eB e5N e5S e5D),.agg #[.int .i64 0,.int .i64 0,.int .i64 2]] w1 (Re w1 ((Bo g5N g5S g5D)))))
  (T5 : Hid (∀ w1,Calls Tryz.prog 36 #[(Bo e5N e5S e5D),(Bo g5N g5S g5D)] w1 (Re w1 ((Bo t5N t5S t5D)))))
  (S5 : Hid (∀ w1,Calls Tryz.prog 41 #[(Bo s5N s5S s5D),(Bo t5N t5S t5D)] w1 (Re w1 ((Bo s6N s6S s6D)))))
  (HR : Hid (∀ w1,Calls Tryz.prog 36 #[(Bo aN aS aD),(Bo s6N s6S s6D)] w1 (Re w1 ((Bo rN rS rD))))) :
  Calls Tryz.prog 17 #[(Cp n0 s0 d0 n1 s1 d1 n2 s2 d2 n3 s3 d3 n4 s4 d4 n5 s5 d5),(Cp p0 q0 r0 p1 q1 r1 p2 q2 r2 p3 q3 r3 p4 q4 r4 p5 q5 r5)] w (Re w ((Bo rN rS rD))):=by
 go_enter Tryz.func17,Tryz.ntmps17
 go_upto_region 1 with fail
 obtain ⟨w0,hq,kf,kt,kr,bb⟩:=K9 w (Di n0 s0 d0 n1 s1 d1 n2 s2 d2 n3 s3 d3 n4 s4 d4 n5 s5 d5) (Di p0 q0 r0 p1 q1 r1 p2 q2 r2 p3 q3 r3 p4 q4 r4 p5 q5 r5) (Bx false eB eB) 28 31 26
 rw [← hq]
 clear hq
 go_wp2_with (first | (refine Je rfl 28 _ rfl _ rfl 28 _ (0,0) _ kf Tryz.underlying28 rfl (by kernel_rfl) ?_) | (refine Je rfl 31 _ rfl _ rfl 31 _ (0,0) _ kt Tryz.underlying31 rfl (by kernel_rfl) ?_))
 go_fit (H2.out _)
 rintro e w1 ⟨rfl,b1⟩
 replace kf:=kf.b b1
 replace kt:=kt.b b1
 replace kr:=kr.b b1
 replace bb:=Ia bb b1
 clear b1
 clear kf
 have lr:=kr.lt
 go_upto_region 2 with (refine Jk rfl 81 _ _ rfl (w1.heap.size) 0 (qv9 e0N e0S e0D e1N e1S e1D e2N e2S e2D false eB eB e3N e3S e3D e4N e4S e4D false eB eB false eB eB e5N e5S e5D) rfl rfl ((Be.new w1 (Gw false eB eB false eB eB false eB eB false eB eB false eB eB false eB eB false eB eB false eB eB false eB eB) 81).there 0 27 (Nat.le_of_ble_eq_true rfl)) (by kernel_rfl) (by kernel_rfl) ?_)
 generalize hW : World.setCells _ _ 0 _ = v1
 have b1 : Below w1.heap.size w1 v1:=by rw [← hW]; exact Ls ((Jg _ _).alloc (Jb _) _) (Jb _) 0 _
 have hu : upd (Gw false eB eB false eB eB false eB eB false eB eB false eB eB false eB eB false eB eB false eB eB false eB eB) 0 (Gw e0N e0S e0D e1N e1S e1D e2N e2S e2D false eB eB e3N e3S e3D e4N e4S e4D false eB eB false eB eB e5N e5S e5D) = (Gw e0N e0S e0D e1N e1S e1D e2N e2S e2D false eB eB e3N e3S e3D e4N e4S e4D false eB eB false eB eB e5N e5S e5D):=by kernel_rfl
 have kg : Be v1 w1.heap.size (upd (Gw false eB eB false eB eB false eB eB false eB eB false eB eB false eB eB false eB eB false eB eB false eB eB) 0 (Gw e0N e0S e0D e1N e1S e1D e2N e2S e2D false eB eB e3N e3S e3D e4N e4S e4D false eB eB false eB eB e5N e5S e5D)) 81:=by rw [← hW]; exact (Be.new w1 (Gw false eB eB false eB eB false eB eB false eB eB false eB eB false eB eB false eB eB false eB eB false eB eB) 81).midS 0 (Gw e0N e0S e0D e1N e1S e1D e2N e2S e2D false eB eB e3N e3S e3D e4N e4S e4D false eB eB false eB eB e5N e5S e5D)
 rw [hu] at kg
 clear hu hW
 obtain ⟨gg,hgg⟩ : ∃ g,g = w1.heap.size:=⟨_,rfl⟩
 rw [← hgg] at kg ⊢
 replace kt:=kt.b b1
 replace kr:=kr.b b1
 replace lr : w.heap.size + 1 + 1 < gg:=by omega
 replace bb:=Ia bb b1
 clear b1 hgg
 go_wp2_with fail
 go_fit (HO.out _)
 rintro e w2 ⟨rfl,b1⟩
 replace kt:=kt.b b1
 replace kr:=kr.b b1
 replace kg:=kg.b b1
 replace bb:=Ia bb b1
 clear b1
 have lg:=kg.lt
 go_upto_region 3 with fail
 obtain ⟨v2,hq,ks,b1⟩:=D7 w2 (Bx s0N s0S s0D) 26
 rw [← hq]
 clear hq
 obtain ⟨gs,hgs⟩ : ∃ g,g = w2.heap.size:=⟨_,rfl⟩
 rw [← hgs] at ks ⊢
 replace kt:=kt.b b1
 replace kr:=kr.b b1
 replace kg:=kg.b b1
 replace bb:=Ia bb b1
 clear b1
 replace lg : gg < gs:=by omega
 clear hgs
 go_wp2_with fail
 refine wp_loop_rounds 4 ?_
 rw [rounds_succ]
 go_wp2_with fail
 refine wp_loop_rounds 4 ?_
 rw [rounds_succ]
 have ls:=ks.lt
 go_upto_region 10 with fail
 obtain ⟨u00,hq,kp,b1⟩:=D7 v2 [.int .i64 0,.int .i64 0,.int .i64 0] 83
 rw [← hq]
 clear hq
 obtain ⟨gp,hgp⟩ : ∃ g,g = v2.heap.size:=⟨_,rfl⟩
 rw [← hgp] at kp ⊢
 replace kt:=kt.b b1
 replace kr:=kr.b b1
 replace kg:=kg.b b1
 replace ks:=ks.b b1
 replace bb:=Ia bb b1
 clear b1
 replace ls : gs < gp:=by omega
 clear hgp
 have c0':=kp.cell 0
 have c1':=kp.cell 1
 have c2':=kp.cell 2
 simp only [Jn,Jm] at c0' c1' c2'
 have f0:=Be.o kp 0
 have f1:=Be.o kp 1
 have f2:=Be.o kp 2
 go_upto_region 12 with fail
 clear c0' c1' c2' f0 f1 f2
 generalize hW : World.setCell _ _ _ = x00
 replace kp : Be x00 gp [.int .i64 2,.int .i64 0,.int .i64 0] 83:=by rw [← hW]; exact (kp.set 0 _).set 0 _
 replace kt:=(kt.w (show _ ≠ gp by omega) 0 (.int .i64 1)).w (show _ ≠ gp by omega) 0 (.int .i64 2)
 replace kr:=(kr.w (show _ ≠ gp by omega) 0 (.int .i64 1)).w (show _ ≠ gp by omega) 0 (.int .i64 2)
 replace kg:=(kg.w (show _ ≠ gp by omega) 0 (.int .i64 1)).w (show _ ≠ gp by omega) 0 (.int .i64 2)
 replace ks:=(ks.w (show _ ≠ gp by omega) 0 (.int .i64 1)).w (show _ ≠ gp by omega) 0 (.int .i64 2)
 replace bb:=Bi (Bi bb (show _ ≤ gp by omega) 0 (.int .i64 1)) (show _ ≤ gp by omega) 0 (.int .i64 2)
 rw [hW] at kt kr kg ks bb
 clear hW
 have bd:=Cd x00
 replace kt:=kt.b bd
 replace kr:=kr.b bd
 replace kg:=kg.b bd
 replace ks:=ks.b bd
 replace kp:=kp.b bd
 replace bb:=Ia bb bd
 clear bd
 refine Jc (S:=fun w'=>w'.rangeAt (gg) 0 (Bx e0N e0S e0D)∧w'.rangeAt (gg) 0 (Gw e0N e0S e0D e1N e1S e1D e2N e2S e2D false eB eB e3N e3S e3D e4N e4S e4D false eB eB false eB eB e5N e5S e5D)∧w'.rangeAt (gp) 0 [.int .i64 2,.int .i64 0,.int .i64 0]) (by kernel_rfl) ⟨kg.rs 0 _ rfl,kg.all,kp.all⟩ (fun hS=>?_)
 generalize x00.drew = wd00 at *
 refine WA.start (n:=12) (by kernel_rfl) ?_
 refine WA.tp 1 rfl ?_
 refine WA.tp 2 rfl ?_
 refine WA.tp 3 rfl ?_
 refine WA.tp 4 rfl ?_
 refine WA.tp 5 rfl ?_ (hy:=Jd (by rfl) 26 _ rfl (gg) 0 rfl _ _ (fun w' h=>h.1) Tryz.underlying26 rfl (by kernel_rfl))
 refine WA.tp 6 rfl ?_ (hy:=Jd (by rfl) 81 _ rfl (gg) 0 rfl _ _ (fun w' h=>h.2.1) Tryz.underlying81 rfl (by kernel_rfl))
 refine WA.tp 7 rfl ?_ (hy:=Jd (by rfl) 83 _ rfl (gp) 0 rfl _ _ (fun w' h=>h.2.2) Tryz.underlying83 rfl (by kernel_rfl))
 refine WA.genR (i:=0) (s:=33) ((Bo s0N s0S s0D)) (fun b x hz=>?_)
 simp only [Jp]
 obtain ⟨y0,y1,y2⟩:=Ch ks
 revert b x
 refine WA.oneR 12 254 8 0 rfl rfl hS ?_
 clear hS y0 y1 y2
 intro b x hz K hK
 simp only [Jq]
 go_simp
 go_fit (W0.out _)
 rintro e wm8 ⟨rfl,b1⟩
 replace kt:=kt.b b1
 replace kr:=kr.b b1
 replace kg:=kg.b b1
 replace ks:=ks.b b1
 replace kp:=kp.b b1
 replace bb:=Ia bb b1
 clear b1
 try go_wp2_with fail
 refine hK.out _ _ ⟨kg.rs 0 _ rfl,kg.all,kp.all⟩ (fun hS=>?_)
 clear hK K
 obtain ⟨y0,y1,y2⟩:=Ch ks
 revert b x
 refine WA.oneR 12 510 9 0 rfl rfl hS ?_
 clear hS y0 y1 y2
 intro b x hz K hK
 simp only [Jq]
 go_simp
 go_fit (T0.out _)
 rintro e wm9 ⟨rfl,b1⟩
 replace kt:=kt.b b1
 replace kr:=kr.b b1
 replace kg:=kg.b b1
 replace ks:=ks.b b1
 replace kp:=kp.b b1
 replace bb:=Ia bb b1
 clear b1
 try go_wp2_with fail
 refine hK.out _ _ ⟨kg.rs 0 _ rfl,kg.all,kp.all⟩ (fun hS=>?_)
 clear hK K
 obtain ⟨y0,y1,y2⟩:=Ch ks
 revert b x
 refine WA.finR 0 rfl hS ?_
 clear y0 y1 y2
 refine WA.cal 10 rfl (fun K hK=>?_)
 simp only [Jq]
 go_simp
 go_fit (S0.out _)
 rintro e wm10 ⟨rfl,b1⟩
 replace kt:=kt.b b1
 replace kr:=kr.b b1
 replace kg:=kg.b b1
 replace ks:=ks.b b1
 replace kp:=kp.b b1
 replace bb:=Ia bb b1
 clear b1
 try go_wp2_with fail
 clear hS
 refine hK.out _ _ ⟨kg.rs 0 _ rfl,kg.all,kp.all⟩ (fun hS=>?_)
 clear hK K
 clear hS
 refine WA.cal 11 rfl (fun K hK=>?_)
 rw [if_pos (by rfl)]
 refine wp_store_row 26 _ _ rfl _ (Cr s1N s1S s1D) rfl rfl 26 _ ks (by kernel_rfl) rfl (by kernel_rfl) ?_
 replace bb:=below_setRow (g:=gs) bb (by omega) (Cr s1N s1S s1D)
 replace kt:=Be.rowO (g':=gs) kt (by omega) (Cr s1N s1S s1D)
 replace kr:=Be.rowO (g':=gs) kr (by omega) (Cr s1N s1S s1D)
 replace kg:=Be.rowO (g':=gs) kg (by omega) (Cr s1N s1S s1D)
 replace kp:=Be.rowO (g':=gs) kp (by omega) (Cr s1N s1S s1D)
 replace ks : Be (World.setRow _ _ (Cr s1N s1S s1D)) _ (Bx s1N s1S s1D) 26:=setRow_heap _ _ _ _ _ _ ks
 refine hK.out _ _ ⟨kg.rs 0 _ rfl,kg.all,kp.all⟩ (fun hS=>?_)
 clear hK K
 refine WA.done (by kernel_rfl) ?_
 clear hS
 clear kp ls
 go_wp2_with fail
 generalize World.setRow _ _ _ = z00 at *
 rw [rounds_succ]
 have ls:=ks.lt
 go_upto_region 10 with fail
 obtain ⟨u01,hq,kp,b1⟩:=D7 z00 [.int .i64 0,.int .i64 0,.int .i64 0] 83
 rw [← hq]
 clear hq
 obtain ⟨gp,hgp⟩ : ∃ g,g = z00.heap.size:=⟨_,rfl⟩
 rw [← hgp] at kp ⊢
 replace kt:=kt.b b1
 replace kr:=kr.b b1
 replace kg:=kg.b b1
 replace ks:=ks.b b1
 replace bb:=Ia bb b1
 clear b1
 replace ls : gs < gp:=by omega
 clear hgp
 have c0':=kp.cell 0
 have c1':=kp.cell 1
 have c2':=kp.cell 2
 simp only [Jn,Jm] at c0' c1' c2'
 have f0:=Be.o kp 0
 have f1:=Be.o kp 1
 have f2:=Be.o kp 2
 go_upto_region 12 with fail
 clear c0' c1' c2' f0 f1 f2
 generalize hW : World.setCell _ _ _ = x01
 replace kp : Be x01 gp [.int .i64 1,.int .i64 1,.int .i64 0] 83:=by rw [← hW]; exact (kp.set 0 _).set 1 _
 replace kt:=(kt.w (show _ ≠ gp by omega) 0 (.int .i64 1)).w (show _ ≠ gp by omega) 1 (.int .i64 1)
 replace kr:=(kr.w (show _ ≠ gp by omega) 0 (.int .i64 1)).w (show _ ≠ gp by omega) 1 (.int .i64 1)
 replace kg:=(kg.w (show _ ≠ gp by omega) 0 (.int .i64 1)).w (show _ ≠ gp by omega) 1 (.int .i64 1)
 replace ks:=(ks.w (show _ ≠ gp by omega) 0 (.int .i64 1)).w (show _ ≠ gp by omega) 1 (.int .i64 1)
 replace bb:=Bi (Bi bb (show _ ≤ gp by omega) 0 (.int .i64 1)) (show _ ≤ gp by omega) 1 (.int .i64 1)
 rw [hW] at kt kr kg ks bb
 clear hW
 have bd:=Cd x01
 replace kt:=kt.b bd
 replace kr:=kr.b bd
 replace kg:=kg.b bd
 replace ks:=ks.b bd
 replace kp:=kp.b bd
 replace bb:=Ia bb bd
 clear bd
 refine Jc (S:=fun w'=>w'.rangeAt (gg) 3 (Bx e1N e1S e1D)∧w'.rangeAt (gg) 0 (Gw e0N e0S e0D e1N e1S e1D e2N e2S e2D false eB eB e3N e3S e3D e4N e4S e4D false eB eB false eB eB e5N e5S e5D)∧w'.rangeAt (gp) 0 [.int .i64 1,.int .i64 1,.int .i64 0]) (by kernel_rfl) ⟨kg.rs 3 _ rfl,kg.all,kp.all⟩ (fun hS=>?_)
 generalize x01.drew = wd01 at *
 refine WA.start (n:=12) (by kernel_rfl) ?_
 refine WA.tp 1 rfl ?_
 refine WA.tp 2 rfl ?_
 refine WA.tp 3 rfl ?_
 refine WA.tp 4 rfl ?_
 refine WA.tp 5 rfl ?_ (hy:=Jd (by rfl) 26 _ rfl (gg) 3 rfl _ _ (fun w' h=>h.1) Tryz.underlying26 rfl (by kernel_rfl))
 refine WA.tp 6 rfl ?_ (hy:=Jd (by rfl) 81 _ rfl (gg) 0 rfl _ _ (fun w' h=>h.2.1) Tryz.underlying81 rfl (by kernel_rfl))
 refine WA.tp 7 rfl ?_ (hy:=Jd (by rfl) 83 _ rfl (gp) 0 rfl _ _ (fun w' h=>h.2.2) Tryz.underlying83 rfl (by kernel_rfl))
 refine WA.genR (i:=0) (s:=33) ((Bo s1N s1S s1D)) (fun b x hz=>?_)
 simp only [Jp]
 obtain ⟨y0,y1,y2⟩:=Ch ks
 revert b x
 refine WA.oneR 12 254 8 0 rfl rfl hS ?_
 clear hS y0 y1 y2
 intro b x hz K hK
 simp only [Jq]
 go_simp
 go_fit (W1.out _)
 rintro e wm8 ⟨rfl,b1⟩
 replace kt:=kt.b b1
 replace kr:=kr.b b1
 replace kg:=kg.b b1
 replace ks:=ks.b b1
 replace kp:=kp.b b1
 replace bb:=Ia bb b1
 clear b1
 try go_wp2_with fail
 refine hK.out _ _ ⟨kg.rs 3 _ rfl,kg.all,kp.all⟩ (fun hS=>?_)
 clear hK K
 obtain ⟨y0,y1,y2⟩:=Ch ks
 revert b x
 refine WA.oneR 12 510 9 0 rfl rfl hS ?_
 clear hS y0 y1 y2
 intro b x hz K hK
 simp only [Jq]
 go_simp
 go_fit (T1.out _)
 rintro e wm9 ⟨rfl,b1⟩
 replace kt:=kt.b b1
 replace kr:=kr.b b1
 replace kg:=kg.b b1
 replace ks:=ks.b b1
 replace kp:=kp.b b1
 replace bb:=Ia bb b1
 clear b1
 try go_wp2_with fail
 refine hK.out _ _ ⟨kg.rs 3 _ rfl,kg.all,kp.all⟩ (fun hS=>?_)
 clear hK K
 obtain ⟨y0,y1,y2⟩:=Ch ks
 revert b x
 refine WA.finR 0 rfl hS ?_
 clear y0 y1 y2
 refine WA.cal 10 rfl (fun K hK=>?_)
 simp only [Jq]
 go_simp
 go_fit (S1.out _)
 rintro e wm10 ⟨rfl,b1⟩
 replace kt:=kt.b b1
 replace kr:=kr.b b1
 replace kg:=kg.b b1
 replace ks:=ks.b b1
 replace kp:=kp.b b1
 replace bb:=Ia bb b1
 clear b1
 try go_wp2_with fail
 clear hS
 refine hK.out _ _ ⟨kg.rs 3 _ rfl,kg.all,kp.all⟩ (fun hS=>?_)
 clear hK K
 clear hS
 refine WA.cal 11 rfl (fun K hK=>?_)
 rw [if_pos (by rfl)]
 refine wp_store_row 26 _ _ rfl _ (Cr s2N s2S s2D) rfl rfl 26 _ ks (by kernel_rfl) rfl (by kernel_rfl) ?_
 replace bb:=below_setRow (g:=gs) bb (by omega) (Cr s2N s2S s2D)
 replace kt:=Be.rowO (g':=gs) kt (by omega) (Cr s2N s2S s2D)
 replace kr:=Be.rowO (g':=gs) kr (by omega) (Cr s2N s2S s2D)
 replace kg:=Be.rowO (g':=gs) kg (by omega) (Cr s2N s2S s2D)
 replace kp:=Be.rowO (g':=gs) kp (by omega) (Cr s2N s2S s2D)
 replace ks : Be (World.setRow _ _ (Cr s2N s2S s2D)) _ (Bx s2N s2S s2D) 26:=setRow_heap _ _ _ _ _ _ ks
 refine hK.out _ _ ⟨kg.rs 3 _ rfl,kg.all,kp.all⟩ (fun hS=>?_)
 clear hK K
 refine WA.done (by kernel_rfl) ?_
 clear hS
 clear kp ls
 go_wp2_with fail
 generalize World.setRow _ _ _ = z01 at *
 rw [rounds_succ]
 have ls:=ks.lt
 go_upto_region 10 with fail
 obtain ⟨u02,hq,kp,b1⟩:=D7 z01 [.int .i64 0,.int .i64 0,.int .i64 0] 83
 rw [← hq]
 clear hq
 obtain ⟨gp,hgp⟩ : ∃ g,g = z01.heap.size:=⟨_,rfl⟩
 rw [← hgp] at kp ⊢
 replace kt:=kt.b b1
 replace kr:=kr.b b1
 replace kg:=kg.b b1
 replace ks:=ks.b b1
 replace bb:=Ia bb b1
 clear b1
 replace ls : gs < gp:=by omega
 clear hgp
 have c0':=kp.cell 0
 have c1':=kp.cell 1
 have c2':=kp.cell 2
 simp only [Jn,Jm] at c0' c1' c2'
 have f0:=Be.o kp 0
 have f1:=Be.o kp 1
 have f2:=Be.o kp 2
 go_upto_region 12 with fail
 clear c0' c1' c2' f0 f1 f2
 generalize hW : World.setCell _ _ _ = x02
 replace kp : Be x02 gp [.int .i64 1,.int .i64 0,.int .i64 1] 83:=by rw [← hW]; exact (kp.set 0 _).set 2 _
 replace kt:=(kt.w (show _ ≠ gp by omega) 0 (.int .i64 1)).w (show _ ≠ gp by omega) 2 (.int .i64 1)
 replace kr:=(kr.w (show _ ≠ gp by omega) 0 (.int .i64 1)).w (show _ ≠ gp by omega) 2 (.int .i64 1)
 replace kg:=(kg.w (show _ ≠ gp by omega) 0 (.int .i64 1)).w (show _ ≠ gp by omega) 2 (.int .i64 1)
 replace ks:=(ks.w (show _ ≠ gp by omega) 0 (.int .i64 1)).w (show _ ≠ gp by omega) 2 (.int .i64 1)
 replace bb:=Bi (Bi bb (show _ ≤ gp by omega) 0 (.int .i64 1)) (show _ ≤ gp by omega) 2 (.int .i64 1)
 rw [hW] at kt kr kg ks bb
 clear hW
 have bd:=Cd x02
 replace kt:=kt.b bd
 replace kr:=kr.b bd
 replace kg:=kg.b bd
 replace ks:=ks.b bd
 replace kp:=kp.b bd
 replace bb:=Ia bb bd
 clear bd
 refine Jc (S:=fun w'=>w'.rangeAt (gg) 6 (Bx e2N e2S e2D)∧w'.rangeAt (gg) 0 (Gw e0N e0S e0D e1N e1S e1D e2N e2S e2D false eB eB e3N e3S e3D e4N e4S e4D false eB eB false eB eB e5N e5S e5D)∧w'.rangeAt (gp) 0 [.int .i64 1,.int .i64 0,.int .i64 1]) (by kernel_rfl) ⟨kg.rs 6 _ rfl,kg.all,kp.all⟩ (fun hS=>?_)
 generalize x02.drew = wd02 at *
 refine WA.start (n:=12) (by kernel_rfl) ?_
 refine WA.tp 1 rfl ?_
 refine WA.tp 2 rfl ?_
 refine WA.tp 3 rfl ?_
 refine WA.tp 4 rfl ?_
 refine WA.tp 5 rfl ?_ (hy:=Jd (by rfl) 26 _ rfl (gg) 6 rfl _ _ (fun w' h=>h.1) Tryz.underlying26 rfl (by kernel_rfl))
 refine WA.tp 6 rfl ?_ (hy:=Jd (by rfl) 81 _ rfl (gg) 0 rfl _ _ (fun w' h=>h.2.1) Tryz.underlying81 rfl (by kernel_rfl))
 refine WA.tp 7 rfl ?_ (hy:=Jd (by rfl) 83 _ rfl (gp) 0 rfl _ _ (fun w' h=>h.2.2) Tryz.underlying83 rfl (by kernel_rfl))
 refine WA.genR (i:=0) (s:=33) ((Bo s2N s2S s2D)) (fun b x hz=>?_)
 simp only [Jp]
 obtain ⟨y0,y1,y2⟩:=Ch ks
 revert b x
 refine WA.oneR 12 254 8 0 rfl rfl hS ?_
 clear hS y0 y1 y2
 intro b x hz K hK
 simp only [Jq]
 go_simp
 go_fit (W2.out _)
 rintro e wm8 ⟨rfl,b1⟩
 replace kt:=kt.b b1
 replace kr:=kr.b b1
 replace kg:=kg.b b1
 replace ks:=ks.b b1
 replace kp:=kp.b b1
 replace bb:=Ia bb b1
 clear b1
 try go_wp2_with fail
 refine hK.out _ _ ⟨kg.rs 6 _ rfl,kg.all,kp.all⟩ (fun hS=>?_)
 clear hK K
 obtain ⟨y0,y1,y2⟩:=Ch ks
 revert b x
 refine WA.oneR 12 510 9 0 rfl rfl hS ?_
 clear hS y0 y1 y2
 intro b x hz K hK
 simp only [Jq]
 go_simp
 go_fit (T2.out _)
 rintro e wm9 ⟨rfl,b1⟩
 replace kt:=kt.b b1
 replace kr:=kr.b b1
 replace kg:=kg.b b1
 replace ks:=ks.b b1
 replace kp:=kp.b b1
 replace bb:=Ia bb b1
 clear b1
 try go_wp2_with fail
 refine hK.out _ _ ⟨kg.rs 6 _ rfl,kg.all,kp.all⟩ (fun hS=>?_)
 clear hK K
 obtain ⟨y0,y1,y2⟩:=Ch ks
 revert b x
 refine WA.finR 0 rfl hS ?_
 clear y0 y1 y2
 refine WA.cal 10 rfl (fun K hK=>?_)
 simp only [Jq]
 go_simp
 go_fit (S2.out _)
 rintro e wm10 ⟨rfl,b1⟩
 replace kt:=kt.b b1
 replace kr:=kr.b b1
 replace kg:=kg.b b1
 replace ks:=ks.b b1
 replace kp:=kp.b b1
 replace bb:=Ia bb b1
 clear b1
 try go_wp2_with fail
 clear hS
 refine hK.out _ _ ⟨kg.rs 6 _ rfl,kg.all,kp.all⟩ (fun hS=>?_)
 clear hK K
 clear hS
 refine WA.cal 11 rfl (fun K hK=>?_)
 rw [if_pos (by rfl)]
 refine wp_store_row 26 _ _ rfl _ (Cr s3N s3S s3D) rfl rfl 26 _ ks (by kernel_rfl) rfl (by kernel_rfl) ?_
 replace bb:=below_setRow (g:=gs) bb (by omega) (Cr s3N s3S s3D)
 replace kt:=Be.rowO (g':=gs) kt (by omega) (Cr s3N s3S s3D)
 replace kr:=Be.rowO (g':=gs) kr (by omega) (Cr s3N s3S s3D)
 replace kg:=Be.rowO (g':=gs) kg (by omega) (Cr s3N s3S s3D)
 replace kp:=Be.rowO (g':=gs) kp (by omega) (Cr s3N s3S s3D)
 replace ks : Be (World.setRow _ _ (Cr s3N s3S s3D)) _ (Bx s3N s3S s3D) 26:=setRow_heap _ _ _ _ _ _ ks
 refine hK.out _ _ ⟨kg.rs 6 _ rfl,kg.all,kp.all⟩ (fun hS=>?_)
 clear hK K
 refine WA.done (by kernel_rfl) ?_
 clear hS
 clear kp ls
 go_wp2_with fail
 generalize World.setRow _ _ _ = z02 at *
 rw [rounds_succ]
 go_wp2_with fail
 rw [rounds_succ]
 go_wp2_with fail
 refine wp_loop_rounds 4 ?_
 rw [rounds_succ]
 have ls:=ks.lt
 go_upto_region 10 with fail
 obtain ⟨u11,hq,kp,b1⟩:=D7 z02 [.int .i64 0,.int .i64 0,.int .i64 0] 83
 rw [← hq]
 clear hq
 obtain ⟨gp,hgp⟩ : ∃ g,g = z02.heap.size:=⟨_,rfl⟩
 rw [← hgp] at kp ⊢
 replace kt:=kt.b b1
 replace kr:=kr.b b1
 replace kg:=kg.b b1
 replace ks:=ks.b b1
 replace bb:=Ia bb b1
 clear b1
 replace ls : gs < gp:=by omega
 clear hgp
 have c0':=kp.cell 0
 have c1':=kp.cell 1
 have c2':=kp.cell 2
 simp only [Jn,Jm] at c0' c1' c2'
 have f0:=Be.o kp 0
 have f1:=Be.o kp 1
 have f2:=Be.o kp 2
 go_upto_region 12 with fail
 clear c0' c1' c2' f0 f1 f2
 generalize hW : World.setCell _ _ _ = x11
 replace kp : Be x11 gp [.int .i64 0,.int .i64 2,.int .i64 0] 83:=by rw [← hW]; exact (kp.set 1 _).set 1 _
 replace kt:=(kt.w (show _ ≠ gp by omega) 1 (.int .i64 1)).w (show _ ≠ gp by omega) 1 (.int .i64 2)
 replace kr:=(kr.w (show _ ≠ gp by omega) 1 (.int .i64 1)).w (show _ ≠ gp by omega) 1 (.int .i64 2)
 replace kg:=(kg.w (show _ ≠ gp by omega) 1 (.int .i64 1)).w (show _ ≠ gp by omega) 1 (.int .i64 2)
 replace ks:=(ks.w (show _ ≠ gp by omega) 1 (.int .i64 1)).w (show _ ≠ gp by omega) 1 (.int .i64 2)
 replace bb:=Bi (Bi bb (show _ ≤ gp by omega) 1 (.int .i64 1)) (show _ ≤ gp by omega) 1 (.int .i64 2)
 rw [hW] at kt kr kg ks bb
 clear hW
 have bd:=Cd x11
 replace kt:=kt.b bd
 replace kr:=kr.b bd
 replace kg:=kg.b bd
 replace ks:=ks.b bd
 replace kp:=kp.b bd
 replace bb:=Ia bb bd
 clear bd
 refine Jc (S:=fun w'=>w'.rangeAt (gg) 12 (Bx e3N e3S e3D)∧w'.rangeAt (gg) 0 (Gw e0N e0S e0D e1N e1S e1D e2N e2S e2D false eB eB e3N e3S e3D e4N e4S e4D false eB eB false eB eB e5N e5S e5D)∧w'.rangeAt (gp) 0 [.int .i64 0,.int .i64 2,.int .i64 0]) (by kernel_rfl) ⟨kg.rs 12 _ rfl,kg.all,kp.all⟩ (fun hS=>?_)
 generalize x11.drew = wd11 at *
 refine WA.start (n:=12) (by kernel_rfl) ?_
 refine WA.tp 1 rfl ?_
 refine WA.tp 2 rfl ?_
 refine WA.tp 3 rfl ?_
 refine WA.tp 4 rfl ?_
 refine WA.tp 5 rfl ?_ (hy:=Jd (by rfl) 26 _ rfl (gg) 12 rfl _ _ (fun w' h=>h.1) Tryz.underlying26 rfl (by kernel_rfl))
 refine WA.tp 6 rfl ?_ (hy:=Jd (by rfl) 81 _ rfl (gg) 0 rfl _ _ (fun w' h=>h.2.1) Tryz.underlying81 rfl (by kernel_rfl))
 refine WA.tp 7 rfl ?_ (hy:=Jd (by rfl) 83 _ rfl (gp) 0 rfl _ _ (fun w' h=>h.2.2) Tryz.underlying83 rfl (by kernel_rfl))
 refine WA.genR (i:=0) (s:=33) ((Bo s3N s3S s3D)) (fun b x hz=>?_)
 simp only [Jp]
 obtain ⟨y0,y1,y2⟩:=Ch ks
 revert b x
 refine WA.oneR 12 254 8 0 rfl rfl hS ?_
 clear hS y0 y1 y2
 intro b x hz K hK
 simp only [Jq]
 go_simp
 go_fit (W3.out _)
 rintro e wm8 ⟨rfl,b1⟩
 replace kt:=kt.b b1
 replace kr:=kr.b b1
 replace kg:=kg.b b1
 replace ks:=ks.b b1
 replace kp:=kp.b b1
 replace bb:=Ia bb b1
 clear b1
 try go_wp2_with fail
 refine hK.out _ _ ⟨kg.rs 12 _ rfl,kg.all,kp.all⟩ (fun hS=>?_)
 clear hK K
 obtain ⟨y0,y1,y2⟩:=Ch ks
 revert b x
 refine WA.oneR 12 510 9 0 rfl rfl hS ?_
 clear hS y0 y1 y2
 intro b x hz K hK
 simp only [Jq]
 go_simp
 go_fit (T3.out _)
 rintro e wm9 ⟨rfl,b1⟩
 replace kt:=kt.b b1
 replace kr:=kr.b b1
 replace kg:=kg.b b1
 replace ks:=ks.b b1
 replace kp:=kp.b b1
 replace bb:=Ia bb b1
 clear b1
 try go_wp2_with fail
 refine hK.out _ _ ⟨kg.rs 12 _ rfl,kg.all,kp.all⟩ (fun hS=>?_)
 clear hK K
 obtain ⟨y0,y1,y2⟩:=Ch ks
 revert b x
 refine WA.finR 0 rfl hS ?_
 clear y0 y1 y2
 refine WA.cal 10 rfl (fun K hK=>?_)
 simp only [Jq]
 go_simp
 go_fit (S3.out _)
 rintro e wm10 ⟨rfl,b1⟩
 replace kt:=kt.b b1
 replace kr:=kr.b b1
 replace kg:=kg.b b1
 replace ks:=ks.b b1
 replace kp:=kp.b b1
 replace bb:=Ia bb b1
 clear b1
 try go_wp2_with fail
 clear hS
 refine hK.out _ _ ⟨kg.rs 12 _ rfl,kg.all,kp.all⟩ (fun hS=>?_)
 clear hK K
 clear hS
 refine WA.cal 11 rfl (fun K hK=>?_)
 rw [if_pos (by rfl)]
 refine wp_store_row 26 _ _ rfl _ (Cr s4N s4S s4D) rfl rfl 26 _ ks (by kernel_rfl) rfl (by kernel_rfl) ?_
 replace bb:=below_setRow (g:=gs) bb (by omega) (Cr s4N s4S s4D)
 replace kt:=Be.rowO (g':=gs) kt (by omega) (Cr s4N s4S s4D)
 replace kr:=Be.rowO (g':=gs) kr (by omega) (Cr s4N s4S s4D)
 replace kg:=Be.rowO (g':=gs) kg (by omega) (Cr s4N s4S s4D)
 replace kp:=Be.rowO (g':=gs) kp (by omega) (Cr s4N s4S s4D)
 replace ks : Be (World.setRow _ _ (Cr s4N s4S s4D)) _ (Bx s4N s4S s4D) 26:=setRow_heap _ _ _ _ _ _ ks
 refine hK.out _ _ ⟨kg.rs 12 _ rfl,kg.all,kp.all⟩ (fun hS=>?_)
 clear hK K
 refine WA.done (by kernel_rfl) ?_
 clear hS
 clear kp ls
 go_wp2_with fail
 generalize World.setRow _ _ _ = z11 at *
 rw [rounds_succ]
 have ls:=ks.lt
 go_upto_region 10 with fail
 obtain ⟨u12,hq,kp,b1⟩:=D7 z11 [.int .i64 0,.int .i64 0,.int .i64 0] 83
 rw [← hq]
 clear hq
 obtain ⟨gp,hgp⟩ : ∃ g,g = z11.heap.size:=⟨_,rfl⟩
 rw [← hgp] at kp ⊢
 replace kt:=kt.b b1
 replace kr:=kr.b b1
 replace kg:=kg.b b1
 replace ks:=ks.b b1
 replace bb:=Ia bb b1
 clear b1
 replace ls : gs < gp:=by omega
 clear hgp
 have c0':=kp.cell 0
 have c1':=kp.cell 1
 have c2':=kp.cell 2
 simp only [Jn,Jm] at c0' c1' c2'
 have f0:=Be.o kp 0
 have f1:=Be.o kp 1
 have f2:=Be.o kp 2
 go_upto_region 12 with fail
 clear c0' c1' c2' f0 f1 f2
 generalize hW : World.setCell _ _ _ = x12
 replace kp : Be x12 gp [.int .i64 0,.int .i64 1,.int .i64 1] 83:=by rw [← hW]; exact (kp.set 1 _).set 2 _
 replace kt:=(kt.w (show _ ≠ gp by omega) 1 (.int .i64 1)).w (show _ ≠ gp by omega) 2 (.int .i64 1)
 replace kr:=(kr.w (show _ ≠ gp by omega) 1 (.int .i64 1)).w (show _ ≠ gp by omega) 2 (.int .i64 1)
 replace kg:=(kg.w (show _ ≠ gp by omega) 1 (.int .i64 1)).w (show _ ≠ gp by omega) 2 (.int .i64 1)
 replace ks:=(ks.w (show _ ≠ gp by omega) 1 (.int .i64 1)).w (show _ ≠ gp by omega) 2 (.int .i64 1)
 replace bb:=Bi (Bi bb (show _ ≤ gp by omega) 1 (.int .i64 1)) (show _ ≤ gp by omega) 2 (.int .i64 1)
 rw [hW] at kt kr kg ks bb
 clear hW
 have bd:=Cd x12
 replace kt:=kt.b bd
 replace kr:=kr.b bd
 replace kg:=kg.b bd
 replace ks:=ks.b bd
 replace kp:=kp.b bd
 replace bb:=Ia bb bd
 clear bd
 refine Jc (S:=fun w'=>w'.rangeAt (gg) 15 (Bx e4N e4S e4D)∧w'.rangeAt (gg) 0 (Gw e0N e0S e0D e1N e1S e1D e2N e2S e2D false eB eB e3N e3S e3D e4N e4S e4D false eB eB false eB eB e5N e5S e5D)∧w'.rangeAt (gp) 0 [.int .i64 0,.int .i64 1,.int .i64 1]) (by kernel_rfl) ⟨kg.rs 15 _ rfl,kg.all,kp.all⟩ (fun hS=>?_)
 generalize x12.drew = wd12 at *
 refine WA.start (n:=12) (by kernel_rfl) ?_
 refine WA.tp 1 rfl ?_
 refine WA.tp 2 rfl ?_
 refine WA.tp 3 rfl ?_
 refine WA.tp 4 rfl ?_
 refine WA.tp 5 rfl ?_ (hy:=Jd (by rfl) 26 _ rfl (gg) 15 rfl _ _ (fun w' h=>h.1) Tryz.underlying26 rfl (by kernel_rfl))
 refine WA.tp 6 rfl ?_ (hy:=Jd (by rfl) 81 _ rfl (gg) 0 rfl _ _ (fun w' h=>h.2.1) Tryz.underlying81 rfl (by kernel_rfl))
 refine WA.tp 7 rfl ?_ (hy:=Jd (by rfl) 83 _ rfl (gp) 0 rfl _ _ (fun w' h=>h.2.2) Tryz.underlying83 rfl (by kernel_rfl))
 refine WA.genR (i:=0) (s:=33) ((Bo s4N s4S s4D)) (fun b x hz=>?_)
 simp only [Jp]
 obtain ⟨y0,y1,y2⟩:=Ch ks
 revert b x
 refine WA.oneR 12 254 8 0 rfl rfl hS ?_
 clear hS y0 y1 y2
 intro b x hz K hK
 simp only [Jq]
 go_simp
 go_fit (W4.out _)
 rintro e wm8 ⟨rfl,b1⟩
 replace kt:=kt.b b1
 replace kr:=kr.b b1
 replace kg:=kg.b b1
 replace ks:=ks.b b1
 replace kp:=kp.b b1
 replace bb:=Ia bb b1
 clear b1
 try go_wp2_with fail
 refine hK.out _ _ ⟨kg.rs 15 _ rfl,kg.all,kp.all⟩ (fun hS=>?_)
 clear hK K
 obtain ⟨y0,y1,y2⟩:=Ch ks
 revert b x
 refine WA.oneR 12 510 9 0 rfl rfl hS ?_
 clear hS y0 y1 y2
 intro b x hz K hK
 simp only [Jq]
 go_simp
 go_fit (T4.out _)
 rintro e wm9 ⟨rfl,b1⟩
 replace kt:=kt.b b1
 replace kr:=kr.b b1
 replace kg:=kg.b b1
 replace ks:=ks.b b1
 replace kp:=kp.b b1
 replace bb:=Ia bb b1
 clear b1
 try go_wp2_with fail
 refine hK.out _ _ ⟨kg.rs 15 _ rfl,kg.all,kp.all⟩ (fun hS=>?_)
 clear hK K
 obtain ⟨y0,y1,y2⟩:=Ch ks
 revert b x
 refine WA.finR 0 rfl hS ?_
 clear y0 y1 y2
 refine WA.cal 10 rfl (fun K hK=>?_)
 simp only [Jq]
 go_simp
 go_fit (S4.out _)
 rintro e wm10 ⟨rfl,b1⟩
 replace kt:=kt.b b1
 replace kr:=kr.b b1
 replace kg:=kg.b b1
 replace ks:=ks.b b1
 replace kp:=kp.b b1
 replace bb:=Ia bb b1
 clear b1
 try go_wp2_with fail
 clear hS
 refine hK.out _ _ ⟨kg.rs 15 _ rfl,kg.all,kp.all⟩ (fun hS=>?_)
 clear hK K
 clear hS
 refine WA.cal 11 rfl (fun K hK=>?_)
 rw [if_pos (by rfl)]
 refine wp_store_row 26 _ _ rfl _ (Cr s5N s5S s5D) rfl rfl 26 _ ks (by kernel_rfl) rfl (by kernel_rfl) ?_
 replace bb:=below_setRow (g:=gs) bb (by omega) (Cr s5N s5S s5D)
 replace kt:=Be.rowO (g':=gs) kt (by omega) (Cr s5N s5S s5D)
 replace kr:=Be.rowO (g':=gs) kr (by omega) (Cr s5N s5S s5D)
 replace kg:=Be.rowO (g':=gs) kg (by omega) (Cr s5N s5S s5D)
 replace kp:=Be.rowO (g':=gs) kp (by omega) (Cr s5N s5S s5D)
 replace ks : Be (World.setRow _ _ (Cr s5N s5S s5D)) _ (Bx s5N s5S s5D) 26:=setRow_heap _ _ _ _ _ _ ks
 refine hK.out _ _ ⟨kg.rs 15 _ rfl,kg.all,kp.all⟩ (fun hS=>?_)
 clear hK K
 refine WA.done (by kernel_rfl) ?_
 clear hS
 clear kp ls
 go_wp2_with fail
 generalize World.setRow _ _ _ = z12 at *
 rw [rounds_succ]
 go_wp2_with fail
 rw [rounds_succ]
 go_wp2_with fail
 refine wp_loop_rounds 4 ?_
 rw [rounds_succ]
 have ls:=ks.lt
 go_upto_region 10 with fail
 obtain ⟨u22,hq,kp,b1⟩:=D7 z12 [.int .i64 0,.int .i64 0,.int .i64 0] 83
 rw [← hq]
 clear hq
 obtain ⟨gp,hgp⟩ : ∃ g,g = z12.heap.size:=⟨_,rfl⟩
 rw [← hgp] at kp ⊢
 replace kt:=kt.b b1
 replace kr:=kr.b b1
 replace kg:=kg.b b1
 replace ks:=ks.b b1
 replace bb:=Ia bb b1
 clear b1
 replace ls : gs < gp:=by omega
 clear hgp
 have c0':=kp.cell 0
 have c1':=kp.cell 1
 have c2':=kp.cell 2
 simp only [Jn,Jm] at c0' c1' c2'
 have f0:=Be.o kp 0
 have f1:=Be.o kp 1
 have f2:=Be.o kp 2
 go_upto_region 12 with fail
 clear c0' c1' c2' f0 f1 f2
 generalize hW : World.setCell _ _ _ = x22
 replace kp : Be x22 gp [.int .i64 0,.int .i64 0,.int .i64 2] 83:=by rw [← hW]; exact (kp.set 2 _).set 2 _
 replace kt:=(kt.w (show _ ≠ gp by omega) 2 (.int .i64 1)).w (show _ ≠ gp by omega) 2 (.int .i64 2)
 replace kr:=(kr.w (show _ ≠ gp by omega) 2 (.int .i64 1)).w (show _ ≠ gp by omega) 2 (.int .i64 2)
 replace kg:=(kg.w (show _ ≠ gp by omega) 2 (.int .i64 1)).w (show _ ≠ gp by omega) 2 (.int .i64 2)
 replace ks:=(ks.w (show _ ≠ gp by omega) 2 (.int .i64 1)).w (show _ ≠ gp by omega) 2 (.int .i64 2)
 replace bb:=Bi (Bi bb (show _ ≤ gp by omega) 2 (.int .i64 1)) (show _ ≤ gp by omega) 2 (.int .i64 2)
 rw [hW] at kt kr kg ks bb
 clear hW
 have bd:=Cd x22
 replace kt:=kt.b bd
 replace kr:=kr.b bd
 replace kg:=kg.b bd
 replace ks:=ks.b bd
 replace kp:=kp.b bd
 replace bb:=Ia bb bd
 clear bd
 refine Jc (S:=fun w'=>w'.rangeAt (gg) 24 (Bx e5N e5S e5D)∧w'.rangeAt (gg) 0 (Gw e0N e0S e0D e1N e1S e1D e2N e2S e2D false eB eB e3N e3S e3D e4N e4S e4D false eB eB false eB eB e5N e5S e5D)∧w'.rangeAt (gp) 0 [.int .i64 0,.int .i64 0,.int .i64 2]) (by kernel_rfl) ⟨kg.rs 24 _ rfl,kg.all,kp.all⟩ (fun hS=>?_)
 generalize x22.drew = wd22 at *
 refine WA.start (n:=12) (by kernel_rfl) ?_
 refine WA.tp 1 rfl ?_
 refine WA.tp 2 rfl ?_
 refine WA.tp 3 rfl ?_
 refine WA.tp 4 rfl ?_
 refine WA.tp 5 rfl ?_ (hy:=Jd (by rfl) 26 _ rfl (gg) 24 rfl _ _ (fun w' h=>h.1) Tryz.underlying26 rfl (by kernel_rfl))
 refine WA.tp 6 rfl ?_ (hy:=Jd (by rfl) 81 _ rfl (gg) 0 rfl _ _ (fun w' h=>h.2.1) Tryz.underlying81 rfl (by kernel_rfl))
 refine WA.tp 7 rfl ?_ (hy:=Jd (by rfl) 83 _ rfl (gp) 0 rfl _ _ (fun w' h=>h.2.2) Tryz.underlying83 rfl (by kernel_rfl))
 refine WA.genR (i:=0) (s:=33) ((Bo s5N s5S s5D)) (fun b x hz=>?_)
 simp only [Jp]
 obtain ⟨y0,y1,y2⟩:=Ch ks
 revert b x
 refine WA.oneR 12 254 8 0 rfl rfl hS ?_
 clear hS y0 y1 y2
 intro b x hz K hK
 simp only [Jq]
 go_simp
 go_fit (W5.out _)
 rintro e wm8 ⟨rfl,b1⟩
 replace kt:=kt.b b1
 replace kr:=kr.b b1
 replace kg:=kg.b b1
 replace ks:=ks.b b1
 replace kp:=kp.b b1
 replace bb:=Ia bb b1
 clear b1
 try go_wp2_with fail
 refine hK.out _ _ ⟨kg.rs 24 _ rfl,kg.all,kp.all⟩ (fun hS=>?_)
 clear hK K
 obtain ⟨y0,y1,y2⟩:=Ch ks
 revert b x
 refine WA.oneR 12 510 9 0 rfl rfl hS ?_
 clear hS y0 y1 y2
 intro b x hz K hK
 simp only [Jq]
 go_simp
 go_fit (T5.out _)
 rintro e wm9 ⟨rfl,b1⟩
 replace kt:=kt.b b1
 replace kr:=kr.b b1
 replace kg:=kg.b b1
 replace ks:=ks.b b1
 replace kp:=kp.b b1
 replace bb:=Ia bb b1
 clear b1
 try go_wp2_with fail
 refine hK.out _ _ ⟨kg.rs 24 _ rfl,kg.all,kp.all⟩ (fun hS=>?_)
 clear hK K
 obtain ⟨y0,y1,y2⟩:=Ch ks
 revert b x
 refine WA.finR 0 rfl hS ?_
 clear y0 y1 y2
 refine WA.cal 10 rfl (fun K hK=>?_)
 simp only [Jq]
 go_simp
 go_fit (S5.out _)
 rintro e wm10 ⟨rfl,b1⟩
 replace kt:=kt.b b1
 replace kr:=kr.b b1
 replace kg:=kg.b b1
 replace ks:=ks.b b1
 replace kp:=kp.b b1
 replace bb:=Ia bb b1
 clear b1
 try go_wp2_with fail
 clear hS
 refine hK.out _ _ ⟨kg.rs 24 _ rfl,kg.all,kp.all⟩ (fun hS=>?_)
 clear hK K
 clear hS
 refine WA.cal 11 rfl (fun K hK=>?_)
 rw [if_pos (by rfl)]
 refine wp_store_row 26 _ _ rfl _ (Cr s6N s6S s6D) rfl rfl 26 _ ks (by kernel_rfl) rfl (by kernel_rfl) ?_
 replace bb:=below_setRow (g:=gs) bb (by omega) (Cr s6N s6S s6D)
 replace kt:=Be.rowO (g':=gs) kt (by omega) (Cr s6N s6S s6D)
 replace kr:=Be.rowO (g':=gs) kr (by omega) (Cr s6N s6S s6D)
 replace kg:=Be.rowO (g':=gs) kg (by omega) (Cr s6N s6S s6D)
 replace kp:=Be.rowO (g':=gs) kp (by omega) (Cr s6N s6S s6D)
 replace ks : Be (World.setRow _ _ (Cr s6N s6S s6D)) _ (Bx s6N s6S s6D) 26:=setRow_heap _ _ _ _ _ _ ks
 refine hK.out _ _ ⟨kg.rs 24 _ rfl,kg.all,kp.all⟩ (fun hS=>?_)
 clear hK K
 refine WA.done (by kernel_rfl) ?_
 clear hS
 clear kp ls
 go_wp2_with fail
 generalize World.setRow _ _ _ = z22 at *
 rw [rounds_succ]
 go_wp2_with fail
 rw [rounds_succ]
 go_upto_region 13 with fail
 have bd:=Cd z22
 replace kt:=kt.b bd
 replace kr:=kr.b bd
 replace ks:=ks.b bd
 replace bb:=Ia bb bd
 clear bd
 refine Jc (S:=fun w'=>w'.rangeAt (w.heap.size + 1) 0 (Di p0 q0 r0 p1 q1 r1 p2 q2 r2 p3 q3 r3 p4 q4 r4 p5 q5 r5)∧w'.rangeAt (gs) 0 (Bx s6N s6S s6D)) (by kernel_rfl) ⟨kt.all,ks.all⟩ (fun hS=>?_)
 generalize z22.drew = we at *
 refine WA.start (n:=5) (by kernel_rfl) ?_
 refine WA.tp 0 rfl ?_ (hy:=Jd (by rfl) 31 _ rfl (w.heap.size + 1) 0 rfl _ _ (fun w' h=>h.1) Tryz.underlying31 rfl (by kernel_rfl))
 refine WA.tp 2 rfl ?_ (hy:=Jd (by rfl) 26 _ rfl (gs) 0 rfl _ _ (fun w' h=>h.2) Tryz.underlying26 rfl (by kernel_rfl))
 clear hS
 refine WA.cal 1 rfl (fun K hK=>?_)
 simp only [Jq]
 go_simp
 go_fit (H1.out _)
 rintro e wm1 ⟨rfl,b1⟩
 replace kt:=kt.b b1
 replace kr:=kr.b b1
 replace ks:=ks.b b1
 replace bb:=Ia bb b1
 clear b1
 try go_wp2_with fail
 refine hK.out _ _ ⟨kt.all,ks.all⟩ (fun hS=>?_)
 clear hK K
 clear hS
 refine WA.cal 3 rfl (fun K hK=>?_)
 simp only [Jq]
 go_simp
 go_fit (HR.out _)
 rintro e wm3 ⟨rfl,b1⟩
 replace kt:=kt.b b1
 replace kr:=kr.b b1
 replace ks:=ks.b b1
 replace bb:=Ia bb b1
 clear b1
 try go_wp2_with fail
 refine hK.out _ _ ⟨kt.all,ks.all⟩ (fun hS=>?_)
 clear hK K
 clear hS
 refine WA.cal 4 rfl (fun K hK=>?_)
 rw [if_pos (by rfl)]
 refine wp_store_row 26 _ _ rfl _ (Cr rN rS rD) rfl rfl 26 _ kr (by kernel_rfl) rfl (by kernel_rfl) ?_
 replace bb:=below_setRow (g:=w.heap.size + 1 + 1) bb (by omega) (Cr rN rS rD)
 replace kt:=Be.rowO (g':=w.heap.size + 1 + 1) kt (by omega) (Cr rN rS rD)
 replace ks:=Be.rowO (g':=w.heap.size + 1 + 1) ks (by omega) (Cr rN rS rD)
 replace kr : Be (World.setRow _ _ (Cr rN rS rD)) _ (Bx rN rS rD) 26:=setRow_heap _ _ _ _ _ _ kr
 refine hK.out _ _ ⟨kt.all,ks.all⟩ (fun hS=>?_)
 clear hK K
 refine WA.done (by kernel_rfl) ?_
 clear hS
 clear kt ks kg
 iterate 6 (try go_step)
 exact Cu (p:=4) (by kernel_rfl) rfl rfl kr ⟨rfl,bb⟩
end Go.Proofs.YtnplifkgeeicjaaGreatDoor
