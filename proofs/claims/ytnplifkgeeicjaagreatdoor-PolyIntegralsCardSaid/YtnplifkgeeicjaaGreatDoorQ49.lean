import Derived.Test.YtnplifkgeeicjaaGreatDoorQ47
import Derived.Test.YtnplifkgeeicjaaGreatDoorQ48
set_option maxRecDepth 100000
set_option maxHeartbeats 16000000
namespace Go.Proofs.YtnplifkgeeicjaaGreatDoor
open Go.RowKit
theorem Tl (ja jb jc : Int) (ja0 : 0 ≤ ja) (ja1 : ja ≤ 10) (jb0 : 0 ≤ jb) (jb1 : jb ≤ 10) (jc0 : 0 ≤ jc) (jc1 : jc ≤ 10) (e0N e1N e2N e3N e4N e5N x0N x1N x2N x3N x4N x5N t0N t1N t2N t3N t4N t5N s0N s1N s2N s3N s4N s5N s6N : Bool) (e0S e0D e1S e1D e2S e2D e3S e3D e4S e4D e5S e5D x0S x0D x1S x1D x2S x2D x3S x3D x4S x4D x5S x5D t0S t0D t1S t1D t2S t2D t3S t3D t4S t4D t5S t5D s0S s0D s1S s1D s2S s2D s3S s3D s4S s4D s5S s5D s6S s6D : ByteArray) (w : World)
  (HO : Hid (∀ w1,Calls Tryz.prog 40 #[.int .i64 0] w1 (Re w1 ((Bo s0N s0S s0D)))))
  (P0 : Hid (∀ w1,Calls Tryz.prog 77 #[.agg #[.int .i64 (ja + 1 + 1),.int .i64 jb,.int .i64 jc]] w1 (Re w1 ((Bo x0N x0S x0D)))))
  (T0 : Hid (∀ w1,Calls Tryz.prog 36 #[(Bo e0N e0S e0D),(Bo x0N x0S x0D)] w1 (Re w1 ((Bo t0N t0S t0D)))))
  (S0 : Hid (∀ w1,Calls Tryz.prog 41 #[(Bo s0N s0S s0D),(Bo t0N t0S t0D)] w1 (Re w1 ((Bo s1N s1S s1D)))))
  (P1 : Hid (∀ w1,Calls Tryz.prog 77 #[.agg #[.int .i64 (ja + 1),.int .i64 (jb + 1),.int .i64 jc]] w1 (Re w1 ((Bo x1N x1S x1D)))))
  (T1 : Hid (∀ w1,Calls Tryz.prog 36 #[(Bo e1N e1S e1D),(Bo x1N x1S x1D)] w1 (Re w1 ((Bo t1N t1S t1D)))))
  (S1 : Hid (∀ w1,Calls Tryz.prog 41 #[(Bo s1N s1S s1D),(Bo t1N t1S t1D)] w1 (Re w1 ((Bo s2N s2S s2D)))))
  (P2 : Hid (∀ w1,Calls Tryz.prog 77 #[.agg #[.int .i64 (ja + 1),.int .i64 jb,.int .i64 (jc + 1)]] w1 (Re w1 ((Bo x2N x2S x2D)))))
  (T2 : Hid (∀ w1,Calls Tryz.prog 36 #[(Bo e2N e2S e2D),(Bo x2N x2S x2D)] w1 (Re w1 ((Bo t2N t2S t2D)))))
  (S2 : Hid (∀ w1,Calls Tryz.prog 41 #[(Bo s2N s2S s2D),(Bo t2N t2S t2D)] w1 (Re w1 ((Bo s3N s3S s3D)))))
  (P3 : Hid (∀ w1,Calls Tryz.prog 77 #[.agg #[.int .i64 ja,.int .i64 (jb + 1 + 1),.int .i64 jc]] w1 (Re w1 ((Bo x3N x3S x3D)))))
  (T3 : Hid (∀ w1,Calls Tryz.prog 36 #[(Bo e3N e3S e3D),(Bo x3N x3S x3D)] w1 (Re w1 ((Bo t3N t3S t3D)))))
  (S3 : Hid (∀ w1,Calls Tryz.prog 41 #[(Bo s3N s3S s3D),(Bo t3N t3S t3D)] w1 (Re w1 ((Bo s4N s4S s4D)))))
  (P4 : Hid (∀ w1,Calls Tryz.prog 77 #[.agg #[.int .i64 ja,.int .i64 (jb + 1),.int .i64 (jc + 1)]] w1 (Re w1 ((Bo x4N x4S x4D)))))
  (T4 : Hid (∀ w1,Calls Tryz.prog 36 #[(Bo e4N e4S e4D),(Bo x4N x4S x4D)] w1 (Re w1 ((Bo t4N t4S t4D)))))
  (S4 : Hid (∀ w1,Calls Tryz.prog 41 #[(Bo s4N s4S s4D),(Bo t4N t4S t4D)] w1 (Re w1 ((Bo s5N s5S s5D)))))
  (P5 : Hid (∀ w1,Calls Tryz.prog 77 #[.agg #[.int .i64 ja,.int .i64 jb,.int .i64 (jc + 1 + 1)]] w1 (Re w1 ((Bo x5N x5S x5D)))))
  (T5 : Hid (∀ w1,Calls Tryz.prog 36 #[(Bo e5N e5S e5D),(Bo x5N x5S x5D)] w1 (Re w1 ((Bo t5N t5S t5D)))))
  (S5 : Hid (∀ w1,Calls Tryz.prog 41 #[(Bo s5N s5S s5D),(Bo t5N t5S t5D)] w1 (Re w1 ((Bo s6N s6S s6D))))) :
  Calls Tryz.prog 38 #[(Wi e0N e0S e0D e1N e1S e1D e2N e2S e2D false eB eB e3N e3S e3D e4N e4S e4D false eB eB false eB eB e5N e5S e5D),.agg #[.int .i64 ja,.int .i64 jb,.int .i64 jc]] w (Re w ((Bo s6N s6S s6D))):=by
 go_enter Tryz.func38,Tryz.ntmps38
 go_upto_region 1 with fail
 obtain ⟨w0,hq,kg,km,kr,bb⟩:=K9 w (Gw e0N e0S e0D e1N e1S e1D e2N e2S e2D false eB eB e3N e3S e3D e4N e4S e4D false eB eB false eB eB e5N e5S e5D) [.int .i64 ja,.int .i64 jb,.int .i64 jc] (Bx false eB eB) 81 83 26
 rw [← hq]
 clear hq
 go_wp2_with fail
 go_fit (HO.out _)
 rintro e w1 ⟨rfl,b1⟩
 replace kg:=kg.b b1
 replace km:=km.b b1
 replace kr:=kr.b b1
 replace bb:=Ia bb b1
 clear b1
 have lr:=kr.lt
 go_upto_region 2 with fail
 obtain ⟨v1,hq,ks,b1⟩:=D7 w1 (Bx s0N s0S s0D) 26
 rw [← hq]
 clear hq
 obtain ⟨gs,hgs⟩ : ∃ g,g = w1.heap.size:=⟨_,rfl⟩
 rw [← hgs] at ks ⊢
 replace kg:=kg.b b1
 replace km:=km.b b1
 replace kr:=kr.b b1
 replace bb:=Ia bb b1
 clear b1
 replace lr : w.heap.size + 1 + 1 < gs:=by omega
 clear hgs
 go_wp2_with fail
 refine wp_loop_rounds 4 ?_
 rw [rounds_succ]
 go_wp2_with fail
 refine wp_loop_rounds 4 ?_
 rw [rounds_succ]
 have ls:=ks.lt
 go_upto_region 9 with (refine Je rfl 83 _ rfl _ rfl 83 _ (0,0) _ km Tryz.underlying83 rfl (by kernel_rfl) ?_)
 obtain ⟨u00,hq,kp,b1⟩:=D7 v1 [.int .i64 ja,.int .i64 jb,.int .i64 jc] 83
 rw [← hq]
 clear hq
 obtain ⟨gp,hgp⟩ : ∃ g,g = v1.heap.size:=⟨_,rfl⟩
 rw [← hgp] at kp ⊢
 replace kg:=kg.b b1
 replace km:=km.b b1
 replace kr:=kr.b b1
 replace ks:=ks.b b1
 replace bb:=Ia bb b1
 clear b1
 replace ls : gs < gp:=by omega
 clear hgp
 have c0':=kp.cell 0
 have c1':=kp.cell 1
 have c2':=kp.cell 2
 simp only [Jn,Jm] at c0' c1' c2'
 have f0:=Be.o kp 0
 have f1:=Be.o kp 1
 have f2:=Be.o kp 2
 go_upto_region 11 with fail
 clear c0' c1' c2' f0 f1 f2
 generalize hW : World.setCell _ _ _ = x00
 replace kp : Be x00 gp [.int .i64 (ja + 1 + 1),.int .i64 jb,.int .i64 jc] 83:=by rw [← hW]; exact (kp.set 0 _).set 0 _
 replace kg:=(kg.w (show _ ≠ gp by omega) 0 (.int .i64 (ja + 1))).w (show _ ≠ gp by omega) 0 (.int .i64 (ja + 1 + 1))
 replace km:=(km.w (show _ ≠ gp by omega) 0 (.int .i64 (ja + 1))).w (show _ ≠ gp by omega) 0 (.int .i64 (ja + 1 + 1))
 replace kr:=(kr.w (show _ ≠ gp by omega) 0 (.int .i64 (ja + 1))).w (show _ ≠ gp by omega) 0 (.int .i64 (ja + 1 + 1))
 replace ks:=(ks.w (show _ ≠ gp by omega) 0 (.int .i64 (ja + 1))).w (show _ ≠ gp by omega) 0 (.int .i64 (ja + 1 + 1))
 replace bb:=Bi (Bi bb (show _ ≤ gp by omega) 0 (.int .i64 (ja + 1))) (show _ ≤ gp by omega) 0 (.int .i64 (ja + 1 + 1))
 rw [hW] at kg km kr ks bb
 clear hW
 have bd:=Cd x00
 replace kg:=kg.b bd
 replace km:=km.b bd
 replace kr:=kr.b bd
 replace ks:=ks.b bd
 replace kp:=kp.b bd
 replace bb:=Ia bb bd
 clear bd
 refine Jc (S:=fun w'=>w'.rangeAt (w.heap.size) 0 (Bx e0N e0S e0D)∧w'.rangeAt (gp) 0 [.int .i64 (ja + 1 + 1),.int .i64 jb,.int .i64 jc]) (by kernel_rfl) ⟨kg.rs 0 _ rfl,kp.all⟩ (fun hS=>?_)
 generalize x00.drew = wd00 at *
 refine WA.start (n:=11) (by kernel_rfl) ?_
 refine WA.tp 1 rfl ?_
 refine WA.tp 2 rfl ?_
 refine WA.tp 3 rfl ?_
 refine WA.tp 4 rfl ?_
 refine WA.tp 5 rfl ?_ (hy:=Jd (by rfl) 26 _ rfl (w.heap.size) 0 rfl _ _ (fun w' h=>h.1) Tryz.underlying26 rfl (by kernel_rfl))
 refine WA.tp 6 rfl ?_ (hy:=Jd (by rfl) 83 _ rfl (gp) 0 rfl _ _ (fun w' h=>h.2) Tryz.underlying83 rfl (by kernel_rfl))
 refine WA.genR (i:=0) (s:=30) ((Bo s0N s0S s0D)) (fun b x hz=>?_)
 simp only [Act.put,List.setIfInBounds_toArray,List.set_cons_zero,List.set_cons_succ]
 obtain ⟨y0,y1,y2⟩:=Ch ks
 revert b x
 refine WA.oneR 11 126 7 0 rfl rfl hS ?_
 clear hS y0 y1 y2
 intro b x hz K hK
 simp only [Jq]
 go_simp
 go_fit (P0.out _)
 rintro e wm7 ⟨rfl,b1⟩
 replace kg:=kg.b b1
 replace km:=km.b b1
 replace kr:=kr.b b1
 replace ks:=ks.b b1
 replace kp:=kp.b b1
 replace bb:=Ia bb b1
 clear b1
 try go_wp2_with fail
 refine hK.out _ _ ⟨kg.rs 0 _ rfl,kp.all⟩ (fun hS=>?_)
 clear hK K
 obtain ⟨y0,y1,y2⟩:=Ch ks
 revert b x
 refine WA.oneR 11 254 8 0 rfl rfl hS ?_
 clear hS y0 y1 y2
 intro b x hz K hK
 simp only [Jq]
 go_simp
 go_fit (T0.out _)
 rintro e wm8 ⟨rfl,b1⟩
 replace kg:=kg.b b1
 replace km:=km.b b1
 replace kr:=kr.b b1
 replace ks:=ks.b b1
 replace kp:=kp.b b1
 replace bb:=Ia bb b1
 clear b1
 try go_wp2_with fail
 refine hK.out _ _ ⟨kg.rs 0 _ rfl,kp.all⟩ (fun hS=>?_)
 clear hK K
 obtain ⟨y0,y1,y2⟩:=Ch ks
 revert b x
 refine WA.finR 0 rfl hS ?_
 clear y0 y1 y2
 refine WA.cal 9 rfl (fun K hK=>?_)
 simp only [Jq]
 go_simp
 go_fit (S0.out _)
 rintro e wm9 ⟨rfl,b1⟩
 replace kg:=kg.b b1
 replace km:=km.b b1
 replace kr:=kr.b b1
 replace ks:=ks.b b1
 replace kp:=kp.b b1
 replace bb:=Ia bb b1
 clear b1
 try go_wp2_with fail
 clear hS
 refine hK.out _ _ ⟨kg.rs 0 _ rfl,kp.all⟩ (fun hS=>?_)
 clear hK K
 clear hS
 refine WA.cal 10 rfl (fun K hK=>?_)
 rw [if_pos (by rfl)]
 refine wp_store_row 26 _ _ rfl _ (Cr s1N s1S s1D) rfl rfl 26 _ ks (by kernel_rfl) rfl (by kernel_rfl) ?_
 replace bb:=below_setRow (g:=gs) bb (by omega) (Cr s1N s1S s1D)
 replace kg:=Be.rowO (g':=gs) kg (by omega) (Cr s1N s1S s1D)
 replace km:=Be.rowO (g':=gs) km (by omega) (Cr s1N s1S s1D)
 replace kr:=Be.rowO (g':=gs) kr (by omega) (Cr s1N s1S s1D)
 replace kp:=Be.rowO (g':=gs) kp (by omega) (Cr s1N s1S s1D)
 replace ks : Be (World.setRow _ _ (Cr s1N s1S s1D)) _ (Bx s1N s1S s1D) 26:=setRow_heap _ _ _ _ _ _ ks
 refine hK.out _ _ ⟨kg.rs 0 _ rfl,kp.all⟩ (fun hS=>?_)
 clear hK K
 refine WA.done (by kernel_rfl) ?_
 clear hS
 clear kp ls
 go_wp2_with fail
 generalize World.setRow _ _ _ = z00 at *
 rw [rounds_succ]
 have ls:=ks.lt
 go_upto_region 9 with (refine Je rfl 83 _ rfl _ rfl 83 _ (0,0) _ km Tryz.underlying83 rfl (by kernel_rfl) ?_)
 obtain ⟨u01,hq,kp,b1⟩:=D7 z00 [.int .i64 ja,.int .i64 jb,.int .i64 jc] 83
 rw [← hq]
 clear hq
 obtain ⟨gp,hgp⟩ : ∃ g,g = z00.heap.size:=⟨_,rfl⟩
 rw [← hgp] at kp ⊢
 replace kg:=kg.b b1
 replace km:=km.b b1
 replace kr:=kr.b b1
 replace ks:=ks.b b1
 replace bb:=Ia bb b1
 clear b1
 replace ls : gs < gp:=by omega
 clear hgp
 have c0':=kp.cell 0
 have c1':=kp.cell 1
 have c2':=kp.cell 2
 simp only [Jn,Jm] at c0' c1' c2'
 have f0:=Be.o kp 0
 have f1:=Be.o kp 1
 have f2:=Be.o kp 2
 go_upto_region 11 with fail
 clear c0' c1' c2' f0 f1 f2
 generalize hW : World.setCell _ _ _ = x01
 replace kp : Be x01 gp [.int .i64 (ja + 1),.int .i64 (jb + 1),.int .i64 jc] 83:=by rw [← hW]; exact (kp.set 0 _).set 1 _
 replace kg:=(kg.w (show _ ≠ gp by omega) 0 (.int .i64 (ja + 1))).w (show _ ≠ gp by omega) 1 (.int .i64 (jb + 1))
 replace km:=(km.w (show _ ≠ gp by omega) 0 (.int .i64 (ja + 1))).w (show _ ≠ gp by omega) 1 (.int .i64 (jb + 1))
 replace kr:=(kr.w (show _ ≠ gp by omega) 0 (.int .i64 (ja + 1))).w (show _ ≠ gp by omega) 1 (.int .i64 (jb + 1))
 replace ks:=(ks.w (show _ ≠ gp by omega) 0 (.int .i64 (ja + 1))).w (show _ ≠ gp by omega) 1 (.int .i64 (jb + 1))
 replace bb:=Bi (Bi bb (show _ ≤ gp by omega) 0 (.int .i64 (ja + 1))) (show _ ≤ gp by omega) 1 (.int .i64 (jb + 1))
 rw [hW] at kg km kr ks bb
 clear hW
 have bd:=Cd x01
 replace kg:=kg.b bd
 replace km:=km.b bd
 replace kr:=kr.b bd
 replace ks:=ks.b bd
 replace kp:=kp.b bd
 replace bb:=Ia bb bd
 clear bd
 refine Jc (S:=fun w'=>w'.rangeAt (w.heap.size) 3 (Bx e1N e1S e1D)∧w'.rangeAt (gp) 0 [.int .i64 (ja + 1),.int .i64 (jb + 1),.int .i64 jc]) (by kernel_rfl) ⟨kg.rs 3 _ rfl,kp.all⟩ (fun hS=>?_)
 generalize x01.drew = wd01 at *
 refine WA.start (n:=11) (by kernel_rfl) ?_
 refine WA.tp 1 rfl ?_
 refine WA.tp 2 rfl ?_
 refine WA.tp 3 rfl ?_
 refine WA.tp 4 rfl ?_
 refine WA.tp 5 rfl ?_ (hy:=Jd (by rfl) 26 _ rfl (w.heap.size) 3 rfl _ _ (fun w' h=>h.1) Tryz.underlying26 rfl (by kernel_rfl))
 refine WA.tp 6 rfl ?_ (hy:=Jd (by rfl) 83 _ rfl (gp) 0 rfl _ _ (fun w' h=>h.2) Tryz.underlying83 rfl (by kernel_rfl))
 refine WA.genR (i:=0) (s:=30) ((Bo s1N s1S s1D)) (fun b x hz=>?_)
 simp only [Act.put,List.setIfInBounds_toArray,List.set_cons_zero,List.set_cons_succ]
 obtain ⟨y0,y1,y2⟩:=Ch ks
 revert b x
 refine WA.oneR 11 126 7 0 rfl rfl hS ?_
 clear hS y0 y1 y2
 intro b x hz K hK
 simp only [Jq]
 go_simp
 go_fit (P1.out _)
 rintro e wm7 ⟨rfl,b1⟩
 replace kg:=kg.b b1
 replace km:=km.b b1
 replace kr:=kr.b b1
 replace ks:=ks.b b1
 replace kp:=kp.b b1
 replace bb:=Ia bb b1
 clear b1
 try go_wp2_with fail
 refine hK.out _ _ ⟨kg.rs 3 _ rfl,kp.all⟩ (fun hS=>?_)
 clear hK K
 obtain ⟨y0,y1,y2⟩:=Ch ks
 revert b x
 refine WA.oneR 11 254 8 0 rfl rfl hS ?_
 clear hS y0 y1 y2
 intro b x hz K hK
 simp only [Jq]
 go_simp
 go_fit (T1.out _)
 rintro e wm8 ⟨rfl,b1⟩
 replace kg:=kg.b b1
 replace km:=km.b b1
 replace kr:=kr.b b1
 replace ks:=ks.b b1
 replace kp:=kp.b b1
 replace bb:=Ia bb b1
 clear b1
 try go_wp2_with fail
 refine hK.out _ _ ⟨kg.rs 3 _ rfl,kp.all⟩ (fun hS=>?_)
 clear hK K
 obtain ⟨y0,y1,y2⟩:=Ch ks
 revert b x
 refine WA.finR 0 rfl hS ?_
 clear y0 y1 y2
 refine WA.cal 9 rfl (fun K hK=>?_)
 simp only [Jq]
 go_simp
 go_fit (S1.out _)
 rintro e wm9 ⟨rfl,b1⟩
 replace kg:=kg.b b1
 replace km:=km.b b1
 replace kr:=kr.b b1
 replace ks:=ks.b b1
 replace kp:=kp.b b1
 replace bb:=Ia bb b1
 clear b1
 try go_wp2_with fail
 clear hS
 refine hK.out _ _ ⟨kg.rs 3 _ rfl,kp.all⟩ (fun hS=>?_)
 clear hK K
 clear hS
 refine WA.cal 10 rfl (fun K hK=>?_)
 rw [if_pos (by rfl)]
 refine wp_store_row 26 _ _ rfl _ (Cr s2N s2S s2D) rfl rfl 26 _ ks (by kernel_rfl) rfl (by kernel_rfl) ?_
 replace bb:=below_setRow (g:=gs) bb (by omega) (Cr s2N s2S s2D)
 replace kg:=Be.rowO (g':=gs) kg (by omega) (Cr s2N s2S s2D)
 replace km:=Be.rowO (g':=gs) km (by omega) (Cr s2N s2S s2D)
 replace kr:=Be.rowO (g':=gs) kr (by omega) (Cr s2N s2S s2D)
 replace kp:=Be.rowO (g':=gs) kp (by omega) (Cr s2N s2S s2D)
 replace ks : Be (World.setRow _ _ (Cr s2N s2S s2D)) _ (Bx s2N s2S s2D) 26:=setRow_heap _ _ _ _ _ _ ks
 refine hK.out _ _ ⟨kg.rs 3 _ rfl,kp.all⟩ (fun hS=>?_)
 clear hK K
 refine WA.done (by kernel_rfl) ?_
 clear hS
 clear kp ls
 go_wp2_with fail
 generalize World.setRow _ _ _ = z01 at *
 rw [rounds_succ]
 have ls:=ks.lt
 go_upto_region 9 with (refine Je rfl 83 _ rfl _ rfl 83 _ (0,0) _ km Tryz.underlying83 rfl (by kernel_rfl) ?_)
 obtain ⟨u02,hq,kp,b1⟩:=D7 z01 [.int .i64 ja,.int .i64 jb,.int .i64 jc] 83
 rw [← hq]
 clear hq
 obtain ⟨gp,hgp⟩ : ∃ g,g = z01.heap.size:=⟨_,rfl⟩
 rw [← hgp] at kp ⊢
 replace kg:=kg.b b1
 replace km:=km.b b1
 replace kr:=kr.b b1
 replace ks:=ks.b b1
 replace bb:=Ia bb b1
 clear b1
 replace ls : gs < gp:=by omega
 clear hgp
 have c0':=kp.cell 0
 have c1':=kp.cell 1
 have c2':=kp.cell 2
 simp only [Jn,Jm] at c0' c1' c2'
 have f0:=Be.o kp 0
 have f1:=Be.o kp 1
 have f2:=Be.o kp 2
 go_upto_region 11 with fail
 clear c0' c1' c2' f0 f1 f2
 generalize hW : World.setCell _ _ _ = x02
 replace kp : Be x02 gp [.int .i64 (ja + 1),.int .i64 jb,.int .i64 (jc + 1)] 83:=by rw [← hW]; exact (kp.set 0 _).set 2 _
 replace kg:=(kg.w (show _ ≠ gp by omega) 0 (.int .i64 (ja + 1))).w (show _ ≠ gp by omega) 2 (.int .i64 (jc + 1))
 replace km:=(km.w (show _ ≠ gp by omega) 0 (.int .i64 (ja + 1))).w (show _ ≠ gp by omega) 2 (.int .i64 (jc + 1))
 replace kr:=(kr.w (show _ ≠ gp by omega) 0 (.int .i64 (ja + 1))).w (show _ ≠ gp by omega) 2 (.int .i64 (jc + 1))
 replace ks:=(ks.w (show _ ≠ gp by omega) 0 (.int .i64 (ja + 1))).w (show _ ≠ gp by omega) 2 (.int .i64 (jc + 1))
 replace bb:=Bi (Bi bb (show _ ≤ gp by omega) 0 (.int .i64 (ja + 1))) (show _ ≤ gp by omega) 2 (.int .i64 (jc + 1))
 rw [hW] at kg km kr ks bb
 clear hW
 have bd:=Cd x02
 replace kg:=kg.b bd
 replace km:=km.b bd
 replace kr:=kr.b bd
 replace ks:=ks.b bd
 replace kp:=kp.b bd
 replace bb:=Ia bb bd
 clear bd
 refine Jc (S:=fun w'=>w'.rangeAt (w.heap.size) 6 (Bx e2N e2S e2D)∧w'.rangeAt (gp) 0 [.int .i64 (ja + 1),.int .i64 jb,.int .i64 (jc + 1)]) (by kernel_rfl) ⟨kg.rs 6 _ rfl,kp.all⟩ (fun hS=>?_)
 generalize x02.drew = wd02 at *
 refine WA.start (n:=11) (by kernel_rfl) ?_
 refine WA.tp 1 rfl ?_
 refine WA.tp 2 rfl ?_
 refine WA.tp 3 rfl ?_
 refine WA.tp 4 rfl ?_
 refine WA.tp 5 rfl ?_ (hy:=Jd (by rfl) 26 _ rfl (w.heap.size) 6 rfl _ _ (fun w' h=>h.1) Tryz.underlying26 rfl (by kernel_rfl))
 refine WA.tp 6 rfl ?_ (hy:=Jd (by rfl) 83 _ rfl (gp) 0 rfl _ _ (fun w' h=>h.2) Tryz.underlying83 rfl (by kernel_rfl))
 refine WA.genR (i:=0) (s:=30) ((Bo s2N s2S s2D)) (fun b x hz=>?_)
 simp only [Act.put,List.setIfInBounds_toArray,List.set_cons_zero,List.set_cons_succ]
 obtain ⟨y0,y1,y2⟩:=Ch ks
 revert b x
 refine WA.oneR 11 126 7 0 rfl rfl hS ?_
 clear hS y0 y1 y2
 intro b x hz K hK
 simp only [Jq]
 go_simp
 go_fit (P2.out _)
 rintro e wm7 ⟨rfl,b1⟩
 replace kg:=kg.b b1
 replace km:=km.b b1
 replace kr:=kr.b b1
 replace ks:=ks.b b1
 replace kp:=kp.b b1
 replace bb:=Ia bb b1
 clear b1
 try go_wp2_with fail
 refine hK.out _ _ ⟨kg.rs 6 _ rfl,kp.all⟩ (fun hS=>?_)
 clear hK K
 obtain ⟨y0,y1,y2⟩:=Ch ks
 revert b x
 refine WA.oneR 11 254 8 0 rfl rfl hS ?_
 clear hS y0 y1 y2
 intro b x hz K hK
 simp only [Jq]
 go_simp
 go_fit (T2.out _)
 rintro e wm8 ⟨rfl,b1⟩
 replace kg:=kg.b b1
 replace km:=km.b b1
 replace kr:=kr.b b1
 replace ks:=ks.b b1
 replace kp:=kp.b b1
 replace bb:=Ia bb b1
 clear b1
 try go_wp2_with fail
 refine hK.out _ _ ⟨kg.rs 6 _ rfl,kp.all⟩ (fun hS=>?_)
 clear hK K
 obtain ⟨y0,y1,y2⟩:=Ch ks
 revert b x
 refine WA.finR 0 rfl hS ?_
 clear y0 y1 y2
 refine WA.cal 9 rfl (fun K hK=>?_)
 simp only [Jq]
 go_simp
 go_fit (S2.out _)
 rintro e wm9 ⟨rfl,b1⟩
 replace kg:=kg.b b1
 replace km:=km.b b1
 replace kr:=kr.b b1
 replace ks:=ks.b b1
 replace kp:=kp.b b1
 replace bb:=Ia bb b1
 clear b1
 try go_wp2_with fail
 clear hS
 refine hK.out _ _ ⟨kg.rs 6 _ rfl,kp.all⟩ (fun hS=>?_)
 clear hK K
 clear hS
 refine WA.cal 10 rfl (fun K hK=>?_)
 rw [if_pos (by rfl)]
 refine wp_store_row 26 _ _ rfl _ (Cr s3N s3S s3D) rfl rfl 26 _ ks (by kernel_rfl) rfl (by kernel_rfl) ?_
 replace bb:=below_setRow (g:=gs) bb (by omega) (Cr s3N s3S s3D)
 replace kg:=Be.rowO (g':=gs) kg (by omega) (Cr s3N s3S s3D)
 replace km:=Be.rowO (g':=gs) km (by omega) (Cr s3N s3S s3D)
 replace kr:=Be.rowO (g':=gs) kr (by omega) (Cr s3N s3S s3D)
 replace kp:=Be.rowO (g':=gs) kp (by omega) (Cr s3N s3S s3D)
 replace ks : Be (World.setRow _ _ (Cr s3N s3S s3D)) _ (Bx s3N s3S s3D) 26:=setRow_heap _ _ _ _ _ _ ks
 refine hK.out _ _ ⟨kg.rs 6 _ rfl,kp.all⟩ (fun hS=>?_)
 clear hK K
 refine WA.done (by kernel_rfl) ?_
 clear hS
 clear kp ls
 go_wp2_with fail
 generalize World.setRow _ _ _ = z02 at *
 rw [rounds_succ]
 go_wp2_with fail
 rw [rounds_succ]
 go_wp2_with fail
 refine wp_loop_rounds 4 ?_
 rw [rounds_succ]
 have ls:=ks.lt
 go_upto_region 9 with (refine Je rfl 83 _ rfl _ rfl 83 _ (0,0) _ km Tryz.underlying83 rfl (by kernel_rfl) ?_)
 obtain ⟨u11,hq,kp,b1⟩:=D7 z02 [.int .i64 ja,.int .i64 jb,.int .i64 jc] 83
 rw [← hq]
 clear hq
 obtain ⟨gp,hgp⟩ : ∃ g,g = z02.heap.size:=⟨_,rfl⟩
 rw [← hgp] at kp ⊢
 replace kg:=kg.b b1
 replace km:=km.b b1
 replace kr:=kr.b b1
 replace ks:=ks.b b1
 replace bb:=Ia bb b1
 clear b1
 replace ls : gs < gp:=by omega
 clear hgp
 have c0':=kp.cell 0
 have c1':=kp.cell 1
 have c2':=kp.cell 2
 simp only [Jn,Jm] at c0' c1' c2'
 have f0:=Be.o kp 0
 have f1:=Be.o kp 1
 have f2:=Be.o kp 2
 go_upto_region 11 with fail
 clear c0' c1' c2' f0 f1 f2
 generalize hW : World.setCell _ _ _ = x11
 replace kp : Be x11 gp [.int .i64 ja,.int .i64 (jb + 1 + 1),.int .i64 jc] 83:=by rw [← hW]; exact (kp.set 1 _).set 1 _
 replace kg:=(kg.w (show _ ≠ gp by omega) 1 (.int .i64 (jb + 1))).w (show _ ≠ gp by omega) 1 (.int .i64 (jb + 1 + 1))
 replace km:=(km.w (show _ ≠ gp by omega) 1 (.int .i64 (jb + 1))).w (show _ ≠ gp by omega) 1 (.int .i64 (jb + 1 + 1))
 replace kr:=(kr.w (show _ ≠ gp by omega) 1 (.int .i64 (jb + 1))).w (show _ ≠ gp by omega) 1 (.int .i64 (jb + 1 + 1))
 replace ks:=(ks.w (show _ ≠ gp by omega) 1 (.int .i64 (jb + 1))).w (show _ ≠ gp by omega) 1 (.int .i64 (jb + 1 + 1))
 replace bb:=Bi (Bi bb (show _ ≤ gp by omega) 1 (.int .i64 (jb + 1))) (show _ ≤ gp by omega) 1 (.int .i64 (jb + 1 + 1))
 rw [hW] at kg km kr ks bb
 clear hW
 have bd:=Cd x11
 replace kg:=kg.b bd
 replace km:=km.b bd
 replace kr:=kr.b bd
 replace ks:=ks.b bd
 replace kp:=kp.b bd
 replace bb:=Ia bb bd
 clear bd
 refine Jc (S:=fun w'=>w'.rangeAt (w.heap.size) 12 (Bx e3N e3S e3D)∧w'.rangeAt (gp) 0 [.int .i64 ja,.int .i64 (jb + 1 + 1),.int .i64 jc]) (by kernel_rfl) ⟨kg.rs 12 _ rfl,kp.all⟩ (fun hS=>?_)
 generalize x11.drew = wd11 at *
 refine WA.start (n:=11) (by kernel_rfl) ?_
 refine WA.tp 1 rfl ?_
 refine WA.tp 2 rfl ?_
 refine WA.tp 3 rfl ?_
 refine WA.tp 4 rfl ?_
 refine WA.tp 5 rfl ?_ (hy:=Jd (by rfl) 26 _ rfl (w.heap.size) 12 rfl _ _ (fun w' h=>h.1) Tryz.underlying26 rfl (by kernel_rfl))
 refine WA.tp 6 rfl ?_ (hy:=Jd (by rfl) 83 _ rfl (gp) 0 rfl _ _ (fun w' h=>h.2) Tryz.underlying83 rfl (by kernel_rfl))
 refine WA.genR (i:=0) (s:=30) ((Bo s3N s3S s3D)) (fun b x hz=>?_)
 simp only [Act.put,List.setIfInBounds_toArray,List.set_cons_zero,List.set_cons_succ]
 obtain ⟨y0,y1,y2⟩:=Ch ks
 revert b x
 refine WA.oneR 11 126 7 0 rfl rfl hS ?_
 clear hS y0 y1 y2
 intro b x hz K hK
 simp only [Jq]
 go_simp
 go_fit (P3.out _)
 rintro e wm7 ⟨rfl,b1⟩
 replace kg:=kg.b b1
 replace km:=km.b b1
 replace kr:=kr.b b1
 replace ks:=ks.b b1
 replace kp:=kp.b b1
 replace bb:=Ia bb b1
 clear b1
 try go_wp2_with fail
 refine hK.out _ _ ⟨kg.rs 12 _ rfl,kp.all⟩ (fun hS=>?_)
 clear hK K
 obtain ⟨y0,y1,y2⟩:=Ch ks
 revert b x
 refine WA.oneR 11 254 8 0 rfl rfl hS ?_
 clear hS y0 y1 y2
 intro b x hz K hK
 simp only [Jq]
 go_simp
 go_fit (T3.out _)
 rintro e wm8 ⟨rfl,b1⟩
 replace kg:=kg.b b1
 replace km:=km.b b1
 replace kr:=kr.b b1
 replace ks:=ks.b b1
 replace kp:=kp.b b1
 replace bb:=Ia bb b1
 clear b1
 try go_wp2_with fail
 refine hK.out _ _ ⟨kg.rs 12 _ rfl,kp.all⟩ (fun hS=>?_)
 clear hK K
 obtain ⟨y0,y1,y2⟩:=Ch ks
 revert b x
 refine WA.finR 0 rfl hS ?_
 clear y0 y1 y2
 refine WA.cal 9 rfl (fun K hK=>?_)
 simp only [Jq]
 go_simp
 go_fit (S3.out _)
 rintro e wm9 ⟨rfl,b1⟩
 replace kg:=kg.b b1
 replace km:=km.b b1
 replace kr:=kr.b b1
 replace ks:=ks.b b1
 replace kp:=kp.b b1
 replace bb:=Ia bb b1
 clear b1
 try go_wp2_with fail
 clear hS
 refine hK.out _ _ ⟨kg.rs 12 _ rfl,kp.all⟩ (fun hS=>?_)
 clear hK K
 clear hS
 refine WA.cal 10 rfl (fun K hK=>?_)
 rw [if_pos (by rfl)]
 refine wp_store_row 26 _ _ rfl _ (Cr s4N s4S s4D) rfl rfl 26 _ ks (by kernel_rfl) rfl (by kernel_rfl) ?_
 replace bb:=below_setRow (g:=gs) bb (by omega) (Cr s4N s4S s4D)
 replace kg:=Be.rowO (g':=gs) kg (by omega) (Cr s4N s4S s4D)
 replace km:=Be.rowO (g':=gs) km (by omega) (Cr s4N s4S s4D)
 replace kr:=Be.rowO (g':=gs) kr (by omega) (Cr s4N s4S s4D)
 replace kp:=Be.rowO (g':=gs) kp (by omega) (Cr s4N s4S s4D)
 replace ks : Be (World.setRow _ _ (Cr s4N s4S s4D)) _ (Bx s4N s4S s4D) 26:=setRow_heap _ _ _ _ _ _ ks
 refine hK.out _ _ ⟨kg.rs 12 _ rfl,kp.all⟩ (fun hS=>?_)
 clear hK K
 refine WA.done (by kernel_rfl) ?_
 clear hS
 clear kp ls
 go_wp2_with fail
 generalize World.setRow _ _ _ = z11 at *
 rw [rounds_succ]
 have ls:=ks.lt
 go_upto_region 9 with (refine Je rfl 83 _ rfl _ rfl 83 _ (0,0) _ km Tryz.underlying83 rfl (by kernel_rfl) ?_)
 obtain ⟨u12,hq,kp,b1⟩:=D7 z11 [.int .i64 ja,.int .i64 jb,.int .i64 jc] 83
 rw [← hq]
 clear hq
 obtain ⟨gp,hgp⟩ : ∃ g,g = z11.heap.size:=⟨_,rfl⟩
 rw [← hgp] at kp ⊢
 replace kg:=kg.b b1
 replace km:=km.b b1
 replace kr:=kr.b b1
 replace ks:=ks.b b1
 replace bb:=Ia bb b1
 clear b1
 replace ls : gs < gp:=by omega
 clear hgp
 have c0':=kp.cell 0
 have c1':=kp.cell 1
 have c2':=kp.cell 2
 simp only [Jn,Jm] at c0' c1' c2'
 have f0:=Be.o kp 0
 have f1:=Be.o kp 1
 have f2:=Be.o kp 2
 go_upto_region 11 with fail
 clear c0' c1' c2' f0 f1 f2
 generalize hW : World.setCell _ _ _ = x12
 replace kp : Be x12 gp [.int .i64 ja,.int .i64 (jb + 1),.int .i64 (jc + 1)] 83:=by rw [← hW]; exact (kp.set 1 _).set 2 _
 replace kg:=(kg.w (show _ ≠ gp by omega) 1 (.int .i64 (jb + 1))).w (show _ ≠ gp by omega) 2 (.int .i64 (jc + 1))
 replace km:=(km.w (show _ ≠ gp by omega) 1 (.int .i64 (jb + 1))).w (show _ ≠ gp by omega) 2 (.int .i64 (jc + 1))
 replace kr:=(kr.w (show _ ≠ gp by omega) 1 (.int .i64 (jb + 1))).w (show _ ≠ gp by omega) 2 (.int .i64 (jc + 1))
 replace ks:=(ks.w (show _ ≠ gp by omega) 1 (.int .i64 (jb + 1))).w (show _ ≠ gp by omega) 2 (.int .i64 (jc + 1))
 replace bb:=Bi (Bi bb (show _ ≤ gp by omega) 1 (.int .i64 (jb + 1))) (show _ ≤ gp by omega) 2 (.int .i64 (jc + 1))
 rw [hW] at kg km kr ks bb
 clear hW
 have bd:=Cd x12
 replace kg:=kg.b bd
 replace km:=km.b bd
 replace kr:=kr.b bd
 replace ks:=ks.b bd
 replace kp:=kp.b bd
 replace bb:=Ia bb bd
 clear bd
 refine Jc (S:=fun w'=>w'.rangeAt (w.heap.size) 15 (Bx e4N e4S e4D)∧w'.rangeAt (gp) 0 [.int .i64 ja,.int .i64 (jb + 1),.int .i64 (jc + 1)]) (by kernel_rfl) ⟨kg.rs 15 _ rfl,kp.all⟩ (fun hS=>?_)
 generalize x12.drew = wd12 at *
 refine WA.start (n:=11) (by kernel_rfl) ?_
 refine WA.tp 1 rfl ?_
 refine WA.tp 2 rfl ?_
 refine WA.tp 3 rfl ?_
 refine WA.tp 4 rfl ?_
 refine WA.tp 5 rfl ?_ (hy:=Jd (by rfl) 26 _ rfl (w.heap.size) 15 rfl _ _ (fun w' h=>h.1) Tryz.underlying26 rfl (by kernel_rfl))
 refine WA.tp 6 rfl ?_ (hy:=Jd (by rfl) 83 _ rfl (gp) 0 rfl _ _ (fun w' h=>h.2) Tryz.underlying83 rfl (by kernel_rfl))
 refine WA.genR (i:=0) (s:=30) ((Bo s4N s4S s4D)) (fun b x hz=>?_)
 simp only [Act.put,List.setIfInBounds_toArray,List.set_cons_zero,List.set_cons_succ]
 obtain ⟨y0,y1,y2⟩:=Ch ks
 revert b x
 refine WA.oneR 11 126 7 0 rfl rfl hS ?_
 clear hS y0 y1 y2
 intro b x hz K hK
 simp only [Jq]
 go_simp
 go_fit (P4.out _)
 rintro e wm7 ⟨rfl,b1⟩
 replace kg:=kg.b b1
 replace km:=km.b b1
 replace kr:=kr.b b1
 replace ks:=ks.b b1
 replace kp:=kp.b b1
 replace bb:=Ia bb b1
 clear b1
 try go_wp2_with fail
 refine hK.out _ _ ⟨kg.rs 15 _ rfl,kp.all⟩ (fun hS=>?_)
 clear hK K
 obtain ⟨y0,y1,y2⟩:=Ch ks
 revert b x
 refine WA.oneR 11 254 8 0 rfl rfl hS ?_
 clear hS y0 y1 y2
 intro b x hz K hK
 simp only [Jq]
 go_simp
 go_fit (T4.out _)
 rintro e wm8 ⟨rfl,b1⟩
 replace kg:=kg.b b1
 replace km:=km.b b1
 replace kr:=kr.b b1
 replace ks:=ks.b b1
 replace kp:=kp.b b1
 replace bb:=Ia bb b1
 clear b1
 try go_wp2_with fail
 refine hK.out _ _ ⟨kg.rs 15 _ rfl,kp.all⟩ (fun hS=>?_)
 clear hK K
 obtain ⟨y0,y1,y2⟩:=Ch ks
 revert b x
 refine WA.finR 0 rfl hS ?_
 clear y0 y1 y2
 refine WA.cal 9 rfl (fun K hK=>?_)
 simp only [Jq]
 go_simp
 go_fit (S4.out _)
 rintro e wm9 ⟨rfl,b1⟩
 replace kg:=kg.b b1
 replace km:=km.b b1
 replace kr:=kr.b b1
 replace ks:=ks.b b1
 replace kp:=kp.b b1
 replace bb:=Ia bb b1
 clear b1
 try go_wp2_with fail
 clear hS
 refine hK.out _ _ ⟨kg.rs 15 _ rfl,kp.all⟩ (fun hS=>?_)
 clear hK K
 clear hS
 refine WA.cal 10 rfl (fun K hK=>?_)
 rw [if_pos (by rfl)]
 refine wp_store_row 26 _ _ rfl _ (Cr s5N s5S s5D) rfl rfl 26 _ ks (by kernel_rfl) rfl (by kernel_rfl) ?_
 replace bb:=below_setRow (g:=gs) bb (by omega) (Cr s5N s5S s5D)
 replace kg:=Be.rowO (g':=gs) kg (by omega) (Cr s5N s5S s5D)
 replace km:=Be.rowO (g':=gs) km (by omega) (Cr s5N s5S s5D)
 replace kr:=Be.rowO (g':=gs) kr (by omega) (Cr s5N s5S s5D)
 replace kp:=Be.rowO (g':=gs) kp (by omega) (Cr s5N s5S s5D)
 replace ks : Be (World.setRow _ _ (Cr s5N s5S s5D)) _ (Bx s5N s5S s5D) 26:=setRow_heap _ _ _ _ _ _ ks
 refine hK.out _ _ ⟨kg.rs 15 _ rfl,kp.all⟩ (fun hS=>?_)
 clear hK K
 refine WA.done (by kernel_rfl) ?_
 clear hS
 clear kp ls
 go_wp2_with fail
 generalize World.setRow _ _ _ = z12 at *
 rw [rounds_succ]
 go_wp2_with fail
 rw [rounds_succ]
 go_wp2_with fail
 refine wp_loop_rounds 4 ?_
 rw [rounds_succ]
 have ls:=ks.lt
 go_upto_region 9 with (refine Je rfl 83 _ rfl _ rfl 83 _ (0,0) _ km Tryz.underlying83 rfl (by kernel_rfl) ?_)
 obtain ⟨u22,hq,kp,b1⟩:=D7 z12 [.int .i64 ja,.int .i64 jb,.int .i64 jc] 83
 rw [← hq]
 clear hq
 obtain ⟨gp,hgp⟩ : ∃ g,g = z12.heap.size:=⟨_,rfl⟩
 rw [← hgp] at kp ⊢
 replace kg:=kg.b b1
 replace km:=km.b b1
 replace kr:=kr.b b1
 replace ks:=ks.b b1
 replace bb:=Ia bb b1
 clear b1
 replace ls : gs < gp:=by omega
 clear hgp
 have c0':=kp.cell 0
 have c1':=kp.cell 1
 have c2':=kp.cell 2
 simp only [Jn,Jm] at c0' c1' c2'
 have f0:=Be.o kp 0
 have f1:=Be.o kp 1
 have f2:=Be.o kp 2
 go_upto_region 11 with fail
 clear c0' c1' c2' f0 f1 f2
 generalize hW : World.setCell _ _ _ = x22
 replace kp : Be x22 gp [.int .i64 ja,.int .i64 jb,.int .i64 (jc + 1 + 1)] 83:=by rw [← hW]; exact (kp.set 2 _).set 2 _
 replace kg:=(kg.w (show _ ≠ gp by omega) 2 (.int .i64 (jc + 1))).w (show _ ≠ gp by omega) 2 (.int .i64 (jc + 1 + 1))
 replace km:=(km.w (show _ ≠ gp by omega) 2 (.int .i64 (jc + 1))).w (show _ ≠ gp by omega) 2 (.int .i64 (jc + 1 + 1))
 replace kr:=(kr.w (show _ ≠ gp by omega) 2 (.int .i64 (jc + 1))).w (show _ ≠ gp by omega) 2 (.int .i64 (jc + 1 + 1))
 replace ks:=(ks.w (show _ ≠ gp by omega) 2 (.int .i64 (jc + 1))).w (show _ ≠ gp by omega) 2 (.int .i64 (jc + 1 + 1))
 replace bb:=Bi (Bi bb (show _ ≤ gp by omega) 2 (.int .i64 (jc + 1))) (show _ ≤ gp by omega) 2 (.int .i64 (jc + 1 + 1))
 rw [hW] at kg km kr ks bb
 clear hW
 have bd:=Cd x22
 replace kg:=kg.b bd
 replace km:=km.b bd
 replace kr:=kr.b bd
 replace ks:=ks.b bd
 replace kp:=kp.b bd
 replace bb:=Ia bb bd
 clear bd
 refine Jc (S:=fun w'=>w'.rangeAt (w.heap.size) 24 (Bx e5N e5S e5D)∧w'.rangeAt (gp) 0 [.int .i64 ja,.int .i64 jb,.int .i64 (jc + 1 + 1)]) (by kernel_rfl) ⟨kg.rs 24 _ rfl,kp.all⟩ (fun hS=>?_)
 generalize x22.drew = wd22 at *
 refine WA.start (n:=11) (by kernel_rfl) ?_
 refine WA.tp 1 rfl ?_
 refine WA.tp 2 rfl ?_
 refine WA.tp 3 rfl ?_
 refine WA.tp 4 rfl ?_
 refine WA.tp 5 rfl ?_ (hy:=Jd (by rfl) 26 _ rfl (w.heap.size) 24 rfl _ _ (fun w' h=>h.1) Tryz.underlying26 rfl (by kernel_rfl))
 refine WA.tp 6 rfl ?_ (hy:=Jd (by rfl) 83 _ rfl (gp) 0 rfl _ _ (fun w' h=>h.2) Tryz.underlying83 rfl (by kernel_rfl))
 refine WA.genR (i:=0) (s:=30) ((Bo s5N s5S s5D)) (fun b x hz=>?_)
 simp only [Act.put,List.setIfInBounds_toArray,List.set_cons_zero,List.set_cons_succ]
 obtain ⟨y0,y1,y2⟩:=Ch ks
 revert b x
 refine WA.oneR 11 126 7 0 rfl rfl hS ?_
 clear hS y0 y1 y2
 intro b x hz K hK
 simp only [Jq]
 go_simp
 go_fit (P5.out _)
 rintro e wm7 ⟨rfl,b1⟩
 replace kg:=kg.b b1
 replace km:=km.b b1
 replace kr:=kr.b b1
 replace ks:=ks.b b1
 replace kp:=kp.b b1
 replace bb:=Ia bb b1
 clear b1
 try go_wp2_with fail
 refine hK.out _ _ ⟨kg.rs 24 _ rfl,kp.all⟩ (fun hS=>?_)
 clear hK K
 obtain ⟨y0,y1,y2⟩:=Ch ks
 revert b x
 refine WA.oneR 11 254 8 0 rfl rfl hS ?_
 clear hS y0 y1 y2
 intro b x hz K hK
 simp only [Jq]
 go_simp
 go_fit (T5.out _)
 rintro e wm8 ⟨rfl,b1⟩
 replace kg:=kg.b b1
 replace km:=km.b b1
 replace kr:=kr.b b1
 replace ks:=ks.b b1
 replace kp:=kp.b b1
 replace bb:=Ia bb b1
 clear b1
 try go_wp2_with fail
 refine hK.out _ _ ⟨kg.rs 24 _ rfl,kp.all⟩ (fun hS=>?_)
 clear hK K
 obtain ⟨y0,y1,y2⟩:=Ch ks
 revert b x
 refine WA.finR 0 rfl hS ?_
 clear y0 y1 y2
 refine WA.cal 9 rfl (fun K hK=>?_)
 simp only [Jq]
 go_simp
 go_fit (S5.out _)
 rintro e wm9 ⟨rfl,b1⟩
 replace kg:=kg.b b1
 replace km:=km.b b1
 replace kr:=kr.b b1
 replace ks:=ks.b b1
 replace kp:=kp.b b1
 replace bb:=Ia bb b1
 clear b1
 try go_wp2_with fail
 clear hS
 refine hK.out _ _ ⟨kg.rs 24 _ rfl,kp.all⟩ (fun hS=>?_)
 clear hK K
 clear hS
 refine WA.cal 10 rfl (fun K hK=>?_)
 rw [if_pos (by rfl)]
 refine wp_store_row 26 _ _ rfl _ (Cr s6N s6S s6D) rfl rfl 26 _ ks (by kernel_rfl) rfl (by kernel_rfl) ?_
 replace bb:=below_setRow (g:=gs) bb (by omega) (Cr s6N s6S s6D)
 replace kg:=Be.rowO (g':=gs) kg (by omega) (Cr s6N s6S s6D)
 replace km:=Be.rowO (g':=gs) km (by omega) (Cr s6N s6S s6D)
 replace kr:=Be.rowO (g':=gs) kr (by omega) (Cr s6N s6S s6D)
 replace kp:=Be.rowO (g':=gs) kp (by omega) (Cr s6N s6S s6D)
 replace ks : Be (World.setRow _ _ (Cr s6N s6S s6D)) _ (Bx s6N s6S s6D) 26:=setRow_heap _ _ _ _ _ _ ks
 refine hK.out _ _ ⟨kg.rs 24 _ rfl,kp.all⟩ (fun hS=>?_)
 clear hK K
 refine WA.done (by kernel_rfl) ?_
 clear hS
 clear kp ls
 go_wp2_with fail
 generalize World.setRow _ _ _ = z22 at *
 rw [rounds_succ]
 go_wp2_with fail
 rw [rounds_succ]
 clear kg km
 go_upto_region 12 with fail
 refine wp_region_lit ?_
 refine Je rfl 26 _ rfl _ rfl 26 _ (0,0) _ ks Tryz.underlying26 rfl (by kernel_rfl) ?_
 refine Jk rfl 26 _ _ rfl (w.heap.size + 1 + 1) 0 (Cr s6N s6S s6D) rfl rfl (kr.there 0 3 (Nat.le_of_ble_eq_true rfl)) (by kernel_rfl) (by kernel_rfl) ?_
 generalize hW : World.setCells _ _ 0 _ = wz
 replace bb : Below w.heap.size w wz:=by rw [← hW]; exact Ls bb (by omega) 0 _
 replace kr : Be wz (w.heap.size + 1 + 1) (Bx s6N s6S s6D) 26:=by rw [← hW]; exact kr.midS 0 (Bx s6N s6S s6D)
 clear hW ks
 simp only [Act.put,List.setIfInBounds_toArray,List.set_cons_zero,List.set_cons_succ]
 refine wpList_nil ?_
 go_step
 go_step
 go_step
 try go_step
 exact Cu (p:=4) (by kernel_rfl) rfl rfl kr ⟨rfl,bb⟩
theorem Bbn {w : World} {g : Nat} {cs : List Value} (h : Be w g cs 81) (hl : cs.length = 27) : (loadVar 81 ⟨g,0,none⟩).run Tryz.prog w = .ok (.agg cs.toArray) w :=
 run_loadVar_row w g 81 81 cs.toArray (0,0) _ h Tryz.underlying81 rfl (by rw [List.size_toArray,hl]; kernel_rfl)
theorem Ba7 {fn : Func} {p : Tmp} {R : Ending→World→Prop} {a : Act} {w : World} {g : Nat} {cs : List Value} (h : fn.results = #[.cell p 81]) (hp : a.tmps.getD p undef = .pointer (some ⟨g,0,none⟩)) (hd : a.defers = [])
  (hc : Be w g cs 81) (hl : cs.length = 27) (hR : R (.returned (.agg cs.toArray)) w) : bodyPost Tryz.prog fn R .ret a w:=by
 refine ⟨hd,.agg cs.toArray,?_,hR⟩
 have hp' : a.tmps[p]?.getD undef = .pointer (some ⟨g,0,none⟩):=by simpa using hp
 simp only [results,h]
 simp [hp',asAddr,Bbn hc hl]
theorem Yw (n0 n1 n2 n3 n4 n5 p0 p1 p2 p3 p4 p5 : Bool) (s0 d0 s1 d1 s2 d2 s3 d3 s4 d4 s5 d5 q0 r0 q1 r1 q2 r2 q3 r3 q4 r4 q5 r5 : ByteArray) (a0N a1N a2N kN u01N h01N v01N m01N l01N o01N u02N h02N v02N m02N l02N o02N u12N h12N v12N m12N l12N o12N : Bool) (a0S a0D a1S a1D a2S a2D kS kD u01S u01D h01S h01D v01S v01D m01S m01D l01S l01D o01S o01D u02S u02D h02S h02D v02S v02D m02S m02D l02S l02D o02S o02D u12S u12D h12S h12D v12S v12D m12S m12D l12S l12D o12S o12D : ByteArray) (w : World)
  (H0 : Hid (∀ w1,Below w.heap.size w w1→Calls Tryz.prog 78 #[(Cp n0 s0 d0 n1 s1 d1 n2 s2 d2 n3 s3 d3 n4 s4 d4 n5 s5 d5),(B4 p0 q0 r0 p1 q1 r1)] w1 (Re w1 ((Bo a0N a0S a0D)))))
  (H1 : Hid (∀ w1,Below w.heap.size w w1→Calls Tryz.prog 78 #[(Cp n0 s0 d0 n1 s1 d1 n2 s2 d2 n3 s3 d3 n4 s4 d4 n5 s5 d5),(B4 p2 q2 r2 p3 q3 r3)] w1 (Re w1 ((Bo a1N a1S a1D)))))
  (H2 : Hid (∀ w1,Below w.heap.size w w1→Calls Tryz.prog 78 #[(Cp n0 s0 d0 n1 s1 d1 n2 s2 d2 n3 s3 d3 n4 s4 d4 n5 s5 d5),(B4 p4 q4 r4 p5 q5 r5)] w1 (Re w1 ((Bo a2N a2S a2D)))))
  (HO : Hid (∀ w1,Calls Tryz.prog 40 #[.int .i64 4] w1 (Re w1 ((Bo kN kS kD)))))
  (M01 : Hid (∀ w1,Below w.heap.size w w1→Calls Tryz.prog 79 #[(B4 p0 q0 r0 p1 q1 r1),(B4 p2 q2 r2 p3 q3 r3)] w1 (Re w1 ((B4 u01N u01S u01D h01N h01S h01D)))))
  (V01 : Hid (∀ w1,Below w.heap.size w w1→Calls Tryz.prog 78 #[(Cp n0 s0 d0 n1 s1 d1 n2 s2 d2 n3 s3 d3 n4 s4 d4 n5 s5 d5),(B4 u01N u01S u01D h01N h01S h01D)] w1 (Re w1 ((Bo v01N v01S v01D)))))
  (T01 : Hid (∀ w1,Calls Tryz.prog 36 #[(Bo kN kS kD),(Bo v01N v01S v01D)] w1 (Re w1 ((Bo m01N m01S m01D)))))
  (L01 : Hid (∀ w1,Calls Tryz.prog 80 #[(Bo m01N m01S m01D),(Bo a0N a0S a0D)] w1 (Re w1 ((Bo l01N l01S l01D)))))
  (K01 : Hid (∀ w1,Calls Tryz.prog 80 #[(Bo l01N l01S l01D),(Bo a1N a1S a1D)] w1 (Re w1 ((Bo o01N o01S o01D)))))
  (M02 : Hid (∀ w1,Below w.heap.size w w1→Calls Tryz.prog 79 #[(B4 p0 q0 r0 p1 q1 r1),(B4 p4 q4 r4 p5 q5 r5)] w1 (Re w1 ((B4 u02N u02S u02D h02N h02S h02D)))))
  (V02 : Hid (∀ w1,Below w.heap.size w w1→Calls Tryz.prog 78 #[(Cp n0 s0 d0 n1 s1 d1 n2 s2 d2 n3 s3 d3 n4 s4 d4 n5 s5 d5),(B4 u02N u02S u02D h02N h02S h02D)] w1 (Re w1 ((Bo v02N v02S v02D)))))
  (T02 : Hid (∀ w1,Calls Tryz.prog 36 #[(Bo kN kS kD),(Bo v02N v02S v02D)] w1 (Re w1 ((Bo m02N m02S m02D)))))
  (L02 : Hid (∀ w1,Calls Tryz.prog 80 #[(Bo m02N m02S m02D),(Bo a0N a0S a0D)] w1 (Re w1 ((Bo l02N l02S l02D)))))
  (K02 : Hid (∀ w1,Calls Tryz.prog 80 #[(Bo l02N l02S l02D),(Bo a2N a2S a2D)] w1 (Re w1 ((Bo o02N o02S o02D)))))
  (M12 : Hid (∀ w1,Below w.heap.size w w1→Calls Tryz.prog 79 #[(B4 p2 q2 r2 p3 q3 r3),(B4 p4 q4 r4 p5 q5 r5)] w1 (Re w1 ((B4 u12N u12S u12D h12N h12S h12D)))))
  (V12 : Hid (∀ w1,Below w.heap.size w w1→Calls Tryz.prog 78 #[(Cp n0 s0 d0 n1 s1 d1 n2 s2 d2 n3 s3 d3 n4 s4 d4 n5 s5 d5),(B4 u12N u12S u12D h12N h12S h12D)] w1 (Re w1 ((Bo v12N v12S v12D)))))
  (T12 : Hid (∀ w1,Calls Tryz.prog 36 #[(Bo kN kS kD),(Bo v12N v12S v12D)] w1 (Re w1 ((Bo m12N m12S m12D)))))
  (L12 : Hid (∀ w1,Calls Tryz.prog 80 #[(Bo m12N m12S m12D),(Bo a1N a1S a1D)] w1 (Re w1 ((Bo l12N l12S l12D)))))
  (K12 : Hid (∀ w1,Calls Tryz.prog 80 #[(Bo l12N l12S l12D),(Bo a2N a2S a2D)] w1 (Re w1 ((Bo o12N o12S o12D))))) :
  Calls Tryz.prog 39 #[(Cp n0 s0 d0 n1 s1 d1 n2 s2 d2 n3 s3 d3 n4 s4 d4 n5 s5 d5),(Cp p0 q0 r0 p1 q1 r1 p2 q2 r2 p3 q3 r3 p4 q4 r4 p5 q5 r5)] w (Re w ((Wi a0N a0S a0D o01N o01S o01D o02N o02S o02D false eB eB a1N a1S a1D o12N o12S o12D false eB eB false eB eB a2N a2S a2D))):=by
 go_enter Tryz.func39,Tryz.ntmps39
 go_upto_region 2 with fail
 obtain ⟨w0,hq,kf,kt,kr,ko,bb⟩:=mk4 w (Di n0 s0 d0 n1 s1 d1 n2 s2 d2 n3 s3 d3 n4 s4 d4 n5 s5 d5) (Di p0 q0 r0 p1 q1 r1 p2 q2 r2 p3 q3 r3 p4 q4 r4 p5 q5 r5) (Gw false eB eB false eB eB false eB eB false eB eB false eB eB false eB eB false eB eB false eB eB false eB eB) (Gw false eB eB false eB eB false eB eB false eB eB false eB eB false eB eB false eB eB false eB eB false eB eB) 28 31 81 81
 rw [← hq]
 clear hq
 go_wp2_with fail
 refine wp_loop_rounds 4 ?_
 rw [rounds_succ]
 go_wp2_with fail
 have bd:=Cd w0
 replace kf:=kf.b bd
 replace kt:=kt.b bd
 replace kr:=kr.b bd
 replace ko:=ko.b bd
 replace bb:=Ia bb bd
 clear bd
 refine Jc (S:=fun w'=>w'.rangeAt (w.heap.size) 0 (Di n0 s0 d0 n1 s1 d1 n2 s2 d2 n3 s3 d3 n4 s4 d4 n5 s5 d5)∧w'.rangeAt (w.heap.size + 1) 0 (Cn p0 q0 r0 p1 q1 r1)) (by kernel_rfl) ⟨kf.all,kt.rs 0 _ rfl⟩ (fun hS=>?_)
 generalize w0.drew = wd0 at *
 refine WA.start (n:=10) (by kernel_rfl) ?_
 refine WA.tp 0 rfl ?_
 refine WA.tp 1 rfl ?_
 refine WA.tp 2 rfl ?_ (hy:=Jd (by rfl) 28 _ rfl (w.heap.size) 0 rfl _ _ (fun w' h=>h.1) Tryz.underlying28 rfl (by kernel_rfl))
 refine WA.tp 3 rfl ?_
 refine WA.tp 4 rfl ?_
 refine WA.tp 5 rfl ?_ (hy:=Jd (by rfl) 30 _ rfl (w.heap.size + 1) 0 rfl _ _ (fun w' h=>h.2) Tryz.underlying30 rfl (by kernel_rfl))
 refine WA.tp 7 rfl ?_
 clear hS
 refine WA.cal 6 rfl (fun K hK=>?_)
 simp only [Jq]
 go_simp
 go_fit (H0.out _ bb)
 rintro e wm6 ⟨rfl,b1⟩
 replace kf:=kf.b b1
 replace kt:=kt.b b1
 replace kr:=kr.b b1
 replace ko:=ko.b b1
 replace bb:=Ia bb b1
 clear b1
 try go_wp2_with fail
 refine hK.out _ _ ⟨kf.all,kt.rs 0 _ rfl⟩ (fun hS=>?_)
 clear hK K
 refine WA.tp 8 rfl ?_
 clear hS
 refine WA.cal 9 rfl (fun K hK=>?_)
 rw [if_pos (by rfl)]
 refine wp_store_mid 26 _ _ rfl (w.heap.size + 1 + 1 + 1) 0 (Cr a0N a0S a0D) rfl rfl (ko.there 0 3 (Nat.le_of_ble_eq_true rfl)) (by kernel_rfl) (by kernel_rfl) ?_
 replace bb:=Ls bb (show _ ≤ w.heap.size + 1 + 1 + 1 from (by omega)) 0 (Bx a0N a0S a0D)
 replace kf:=Be.midO (g':=w.heap.size + 1 + 1 + 1) kf (by omega) 0 (Bx a0N a0S a0D)
 replace kt:=Be.midO (g':=w.heap.size + 1 + 1 + 1) kt (by omega) 0 (Bx a0N a0S a0D)
 replace kr:=Be.midO (g':=w.heap.size + 1 + 1 + 1) kr (by omega) 0 (Bx a0N a0S a0D)
 replace ko : Be (World.setCells _ _ 0 (Bx a0N a0S a0D)) _ (Gw a0N a0S a0D false eB eB false eB eB false eB eB false eB eB false eB eB false eB eB false eB eB false eB eB) 81:=Be.midS ko 0 (Bx a0N a0S a0D)
 refine hK.out _ _ ⟨kf.all,kt.rs 0 _ rfl⟩ (fun hS=>?_)
 clear hK K
 refine WA.done (by kernel_rfl) ?_
 clear hS
 go_wp2_with fail
 generalize World.setCells _ _ 0 _ = wx0 at *
 rw [rounds_succ]
 go_wp2_with fail
 have bd:=Cd wx0
 replace kf:=kf.b bd
 replace kt:=kt.b bd
 replace kr:=kr.b bd
 replace ko:=ko.b bd
 replace bb:=Ia bb bd
 clear bd
 refine Jc (S:=fun w'=>w'.rangeAt (w.heap.size) 0 (Di n0 s0 d0 n1 s1 d1 n2 s2 d2 n3 s3 d3 n4 s4 d4 n5 s5 d5)∧w'.rangeAt (w.heap.size + 1) 6 (Cn p2 q2 r2 p3 q3 r3)) (by kernel_rfl) ⟨kf.all,kt.rs 6 _ rfl⟩ (fun hS=>?_)
 generalize wx0.drew = wd1 at *
 refine WA.start (n:=10) (by kernel_rfl) ?_
 refine WA.tp 0 rfl ?_
 refine WA.tp 1 rfl ?_
 refine WA.tp 2 rfl ?_ (hy:=Jd (by rfl) 28 _ rfl (w.heap.size) 0 rfl _ _ (fun w' h=>h.1) Tryz.underlying28 rfl (by kernel_rfl))
 refine WA.tp 3 rfl ?_
 refine WA.tp 4 rfl ?_
 refine WA.tp 5 rfl ?_ (hy:=Jd (by rfl) 30 _ rfl (w.heap.size + 1) 6 rfl _ _ (fun w' h=>h.2) Tryz.underlying30 rfl (by kernel_rfl))
 refine WA.tp 7 rfl ?_
 clear hS
 refine WA.cal 6 rfl (fun K hK=>?_)
 simp only [Jq]
 go_simp
 go_fit (H1.out _ bb)
 rintro e wm6 ⟨rfl,b1⟩
 replace kf:=kf.b b1
 replace kt:=kt.b b1
 replace kr:=kr.b b1
 replace ko:=ko.b b1
 replace bb:=Ia bb b1
 clear b1
 try go_wp2_with fail
 refine hK.out _ _ ⟨kf.all,kt.rs 6 _ rfl⟩ (fun hS=>?_)
 clear hK K
 refine WA.tp 8 rfl ?_
 clear hS
 refine WA.cal 9 rfl (fun K hK=>?_)
 rw [if_pos (by rfl)]
 refine wp_store_mid 26 _ _ rfl (w.heap.size + 1 + 1 + 1) 12 (Cr a1N a1S a1D) rfl rfl (ko.there 12 3 (Nat.le_of_ble_eq_true rfl)) (by kernel_rfl) (by kernel_rfl) ?_
 replace bb:=Ls bb (show _ ≤ w.heap.size + 1 + 1 + 1 from (by omega)) 12 (Bx a1N a1S a1D)
 replace kf:=Be.midO (g':=w.heap.size + 1 + 1 + 1) kf (by omega) 12 (Bx a1N a1S a1D)
 replace kt:=Be.midO (g':=w.heap.size + 1 + 1 + 1) kt (by omega) 12 (Bx a1N a1S a1D)
 replace kr:=Be.midO (g':=w.heap.size + 1 + 1 + 1) kr (by omega) 12 (Bx a1N a1S a1D)
 replace ko : Be (World.setCells _ _ 12 (Bx a1N a1S a1D)) _ (Gw a0N a0S a0D false eB eB false eB eB false eB eB a1N a1S a1D false eB eB false eB eB false eB eB false eB eB) 81:=Be.midS ko 12 (Bx a1N a1S a1D)
 refine hK.out _ _ ⟨kf.all,kt.rs 6 _ rfl⟩ (fun hS=>?_)
 clear hK K
 refine WA.done (by kernel_rfl) ?_
 clear hS
 go_wp2_with fail
 generalize World.setCells _ _ 12 _ = wx1 at *
 rw [rounds_succ]
 go_wp2_with fail
 have bd:=Cd wx1
 replace kf:=kf.b bd
 replace kt:=kt.b bd
 replace kr:=kr.b bd
 replace ko:=ko.b bd
 replace bb:=Ia bb bd
 clear bd
 refine Jc (S:=fun w'=>w'.rangeAt (w.heap.size) 0 (Di n0 s0 d0 n1 s1 d1 n2 s2 d2 n3 s3 d3 n4 s4 d4 n5 s5 d5)∧w'.rangeAt (w.heap.size + 1) 12 (Cn p4 q4 r4 p5 q5 r5)) (by kernel_rfl) ⟨kf.all,kt.rs 12 _ rfl⟩ (fun hS=>?_)
 generalize wx1.drew = wd2 at *
 refine WA.start (n:=10) (by kernel_rfl) ?_
 refine WA.tp 0 rfl ?_
 refine WA.tp 1 rfl ?_
 refine WA.tp 2 rfl ?_ (hy:=Jd (by rfl) 28 _ rfl (w.heap.size) 0 rfl _ _ (fun w' h=>h.1) Tryz.underlying28 rfl (by kernel_rfl))
 refine WA.tp 3 rfl ?_
 refine WA.tp 4 rfl ?_
 refine WA.tp 5 rfl ?_ (hy:=Jd (by rfl) 30 _ rfl (w.heap.size + 1) 12 rfl _ _ (fun w' h=>h.2) Tryz.underlying30 rfl (by kernel_rfl))
 refine WA.tp 7 rfl ?_
 clear hS
 refine WA.cal 6 rfl (fun K hK=>?_)
 simp only [Jq]
 go_simp
 go_fit (H2.out _ bb)
 rintro e wm6 ⟨rfl,b1⟩
 replace kf:=kf.b b1
 replace kt:=kt.b b1
 replace kr:=kr.b b1
 replace ko:=ko.b b1
 replace bb:=Ia bb b1
 clear b1
 try go_wp2_with fail
 refine hK.out _ _ ⟨kf.all,kt.rs 12 _ rfl⟩ (fun hS=>?_)
 clear hK K
 refine WA.tp 8 rfl ?_
 clear hS
 refine WA.cal 9 rfl (fun K hK=>?_)
 rw [if_pos (by rfl)]
 refine wp_store_mid 26 _ _ rfl (w.heap.size + 1 + 1 + 1) 24 (Cr a2N a2S a2D) rfl rfl (ko.there 24 3 (Nat.le_of_ble_eq_true rfl)) (by kernel_rfl) (by kernel_rfl) ?_
 replace bb:=Ls bb (show _ ≤ w.heap.size + 1 + 1 + 1 from (by omega)) 24 (Bx a2N a2S a2D)
 replace kf:=Be.midO (g':=w.heap.size + 1 + 1 + 1) kf (by omega) 24 (Bx a2N a2S a2D)
 replace kt:=Be.midO (g':=w.heap.size + 1 + 1 + 1) kt (by omega) 24 (Bx a2N a2S a2D)
 replace kr:=Be.midO (g':=w.heap.size + 1 + 1 + 1) kr (by omega) 24 (Bx a2N a2S a2D)
 replace ko : Be (World.setCells _ _ 24 (Bx a2N a2S a2D)) _ (Gw a0N a0S a0D false eB eB false eB eB false eB eB a1N a1S a1D false eB eB false eB eB false eB eB a2N a2S a2D) 81:=Be.midS ko 24 (Bx a2N a2S a2D)
 refine hK.out _ _ ⟨kf.all,kt.rs 12 _ rfl⟩ (fun hS=>?_)
 clear hK K
 refine WA.done (by kernel_rfl) ?_
 clear hS
 go_wp2_with fail
 generalize World.setCells _ _ 24 _ = wx2 at *
 rw [rounds_succ]
 go_wp2_with fail
 refine wp_loop_rounds 4 ?_
 rw [rounds_succ]
 go_wp2_with fail
 refine wp_loop_rounds 4 ?_
 rw [rounds_succ]
 go_upto_region 12 with fail
 have mk : Hid (∀ w',SB wx2 w'→True):=fun _ _=>trivial
 go_cut [9] from 29 to 43 (fun v wx=>∃ gm,v = .pointer (some ⟨gm,0,none⟩)∧wx2.heap.size ≤ gm∧Be wx gm (Bx m01N m01S m01D) 26∧Below wx2.heap.size wx2 wx)
 case first =>
  clear mk
  refine Jc (S:=SB wx2) (by kernel_rfl) (Cd _) (fun bc=>?_)
  refine WA.start (n:=13) (by kernel_rfl) ?_
  refine WA.tk 1 rfl ?_ (hy:=Jd (by rfl) 28 _ rfl (w.heap.size) 0 rfl _ _ (fun w' h=>(kf.b h).all) Tryz.underlying28 rfl (by kernel_rfl))
  refine WA.tk 2 rfl ?_
  refine WA.tk 3 rfl ?_
  refine WA.tk 4 rfl ?_ (hy:=Jd (by rfl) 30 _ rfl (w.heap.size + 1) 0 rfl _ _ (fun w' h=>(kt.b h).rs 0 (Cn p0 q0 r0 p1 q1 r1) rfl) Tryz.underlying30 rfl (by kernel_rfl))
  refine WA.tk 5 rfl ?_
  refine WA.tk 6 rfl ?_
  refine WA.tk 7 rfl ?_ (hy:=Jd (by rfl) 30 _ rfl (w.heap.size + 1) 6 rfl _ _ (fun w' h=>(kt.b h).rs 6 (Cn p2 q2 r2 p3 q3 r3) rfl) Tryz.underlying30 rfl (by kernel_rfl))
  refine WA.genZ (i:=11) (s:=9) (Pt wx2 (Bx false eB eB) 26) (fun b x hz=>?_)
  simp only [Act.put,List.setIfInBounds_toArray,List.set_cons_zero,List.set_cons_succ]
  revert b x
  refine WA.one 13 254 0 11 rfl rfl bc ?_
  clear bc
  intro b x w' hz bx bc K hK
  clear bx
  simp only [List.getElem_toArray,List.getElem_cons_zero]
  go_simp
  go_fit (HO.out _)
  rintro e wn ⟨rfl,bn⟩
  replace bc:=Ia bc bn
  try go_wp2_with fail
  refine hK.out _ _ bc (fun _=>?_)
  replace hz:=fun h=>(hz h).b bn
  clear hK K bn
  revert b x
  refine WA.one 13 255 8 11 rfl rfl bc ?_
  clear bc
  intro b x w' hz bx bc K hK
  clear bx
  simp only [Jq]
  go_simp
  go_fit (M01.out _ (Ia bb bc))
  rintro e wn ⟨rfl,bn⟩
  replace bc:=Ia bc bn
  try go_wp2_with fail
  refine hK.out _ _ bc (fun _=>?_)
  replace hz:=fun h=>(hz h).b bn
  clear hK K bn
  revert b x
  refine WA.one 13 511 9 11 rfl rfl bc ?_
  clear bc
  intro b x w' hz bx bc K hK
  clear bx
  simp only [Jq]
  go_simp
  go_fit (V01.out _ (Ia bb bc))
  rintro e wn ⟨rfl,bn⟩
  replace bc:=Ia bc bn
  try go_wp2_with fail
  refine hK.out _ _ bc (fun _=>?_)
  replace hz:=fun h=>(hz h).b bn
  clear hK K bn
  revert b x
  refine WA.one 13 1023 10 11 rfl rfl bc ?_
  clear bc
  intro b x w' hz bx bc K hK
  clear bx
  simp only [Jq]
  go_simp
  go_fit (T01.out _)
  rintro e wn ⟨rfl,bn⟩
  replace bc:=Ia bc bn
  try go_wp2_with fail
  refine hK.out _ _ bc (fun _=>?_)
  replace hz:=fun h=>(hz h).b bn
  clear hK K bn
  revert b x
  refine WA.fin 11 rfl bc ?_
  clear bc
  intro x w' hz bx bc
  obtain ⟨g0,rfl,h0,k0⟩:=hz
  clear bx
  refine WA.call 12 rfl (fun K hK=>?_)
  rw [if_pos (by rfl)]
  refine wp_store_row 26 _ _ rfl g0 (Cr m01N m01S m01D) rfl rfl 26 _ k0 (by kernel_rfl) rfl (by kernel_rfl) ?_
  refine hK.out _ _ (below_setRow bc h0 _) (fun _=>?_)
  clear hK K
  replace bc:=below_setRow bc h0 (Cr m01N m01S m01D)
  replace k0 : Be (w'.setRow g0 (Cr m01N m01S m01D)) g0 (Bx m01N m01S m01D) 26:=setRow_heap _ _ _ _ _ _ k0
  generalize w'.setRow g0 (Cr m01N m01S m01D) = wa at *
  refine WA.done (by kernel_rfl) ?_
  go_wp2_with fail
  go_meet
  exact ⟨_,rfl,h0,k0,bc⟩
 case rest =>
 obtain ⟨gm,rfl,hgm,km,b1⟩:=hcut
 clear mk
 have lo:=ko.lt
 replace hgm : w.heap.size + 1 + 1 + 1 < gm:=by omega
 clear lo
 replace kf:=kf.b b1
 replace kt:=kt.b b1
 replace kr:=kr.b b1
 replace ko:=ko.b b1
 replace bb:=Ia bb b1
 clear b1
 go_wp2_with fail
 have bd:=Cd wc
 replace kf:=kf.b bd
 replace kt:=kt.b bd
 replace kr:=kr.b bd
 replace ko:=ko.b bd
 replace km:=km.b bd
 replace bb:=Ia bb bd
 clear bd
 refine Jc (S:=fun w'=>w'.rangeAt (gm) 0 (Bx m01N m01S m01D)∧w'.rangeAt (w.heap.size + 1 + 1 + 1) 0 (Bx a0N a0S a0D)∧w'.rangeAt (w.heap.size + 1 + 1 + 1) 12 (Bx a1N a1S a1D)) (by kernel_rfl) ⟨km.all,ko.rs 0 _ rfl,ko.rs 12 _ rfl⟩ (fun hS=>?_)
 generalize wc.drew = we01 at *
 refine WA.start (n:=18) (by kernel_rfl) ?_
 refine WA.tp 0 rfl ?_
 refine WA.tp 1 rfl ?_
 refine WA.tp 2 rfl ?_ (hy:=Jd (by rfl) 26 _ rfl (gm) 0 rfl _ _ (fun w' h=>h.1) Tryz.underlying26 rfl (by kernel_rfl))
 refine WA.tp 3 rfl ?_
 refine WA.tp 4 rfl ?_
 refine WA.tp 5 rfl ?_
 refine WA.tp 6 rfl ?_
 refine WA.tp 7 rfl ?_ (hy:=Jd (by rfl) 26 _ rfl (w.heap.size + 1 + 1 + 1) 0 rfl _ _ (fun w' h=>h.2.1) Tryz.underlying26 rfl (by kernel_rfl))
 refine WA.tp 9 rfl ?_
 refine WA.tp 10 rfl ?_
 refine WA.tp 11 rfl ?_
 refine WA.tp 12 rfl ?_
 refine WA.tp 13 rfl ?_ (hy:=Jd (by rfl) 26 _ rfl (w.heap.size + 1 + 1 + 1) 12 rfl _ _ (fun w' h=>h.2.2) Tryz.underlying26 rfl (by kernel_rfl))
 refine WA.tp 15 rfl ?_
 clear hS
 refine WA.cal 8 rfl (fun K hK=>?_)
 simp only [Jq]
 go_simp
 go_fit (L01.out _)
 rintro e wm8 ⟨rfl,b1⟩
 replace kf:=kf.b b1
 replace kt:=kt.b b1
 replace kr:=kr.b b1
 replace ko:=ko.b b1
 replace km:=km.b b1
 replace bb:=Ia bb b1
 clear b1
 try go_wp2_with fail
 refine hK.out _ _ ⟨km.all,ko.rs 0 _ rfl,ko.rs 12 _ rfl⟩ (fun hS=>?_)
 clear hK K
 clear hS
 refine WA.cal 14 rfl (fun K hK=>?_)
 simp only [Jq]
 go_simp
 go_fit (K01.out _)
 rintro e wm14 ⟨rfl,b1⟩
 replace kf:=kf.b b1
 replace kt:=kt.b b1
 replace kr:=kr.b b1
 replace ko:=ko.b b1
 replace km:=km.b b1
 replace bb:=Ia bb b1
 clear b1
 try go_wp2_with fail
 refine hK.out _ _ ⟨km.all,ko.rs 0 _ rfl,ko.rs 12 _ rfl⟩ (fun hS=>?_)
 clear hK K
 refine WA.tp 16 rfl ?_
 clear hS
 refine WA.cal 17 rfl (fun K hK=>?_)
 rw [if_pos (by rfl)]
 refine wp_store_mid 26 _ _ rfl (w.heap.size + 1 + 1 + 1) 3 (Cr o01N o01S o01D) rfl rfl (ko.there 3 3 (Nat.le_of_ble_eq_true rfl)) (by kernel_rfl) (by kernel_rfl) ?_
 replace bb:=Ls bb (show _ ≤ w.heap.size + 1 + 1 + 1 from (by omega)) 3 (Bx o01N o01S o01D)
 replace kf:=Be.midO (g':=w.heap.size + 1 + 1 + 1) kf (by omega) 3 (Bx o01N o01S o01D)
 replace kt:=Be.midO (g':=w.heap.size + 1 + 1 + 1) kt (by omega) 3 (Bx o01N o01S o01D)
 replace kr:=Be.midO (g':=w.heap.size + 1 + 1 + 1) kr (by omega) 3 (Bx o01N o01S o01D)
 replace km:=Be.midO (g':=w.heap.size + 1 + 1 + 1) km (by omega) 3 (Bx o01N o01S o01D)
 replace ko : Be (World.setCells _ _ 3 (Bx o01N o01S o01D)) _ (Gw a0N a0S a0D o01N o01S o01D false eB eB false eB eB a1N a1S a1D false eB eB false eB eB false eB eB a2N a2S a2D) 81:=Be.midS ko 3 (Bx o01N o01S o01D)
 refine hK.out _ _ ⟨km.all,ko.rs 0 _ rfl,ko.rs 12 _ rfl⟩ (fun hS=>?_)
 clear hK K
 refine WA.done (by kernel_rfl) ?_
 clear hS
 clear km hgm
 go_wp2_with fail
 generalize World.setCells _ _ 3 _ = wy01 at *
 rw [rounds_succ]
 go_upto_region 12 with fail
 have mk : Hid (∀ w',SB wy01 w'→True):=fun _ _=>trivial
 go_cut [9] from 29 to 43 (fun v wx=>∃ gm,v = .pointer (some ⟨gm,0,none⟩)∧wy01.heap.size ≤ gm∧Be wx gm (Bx m02N m02S m02D) 26∧Below wy01.heap.size wy01 wx)
 case first =>
  clear mk
  refine Jc (S:=SB wy01) (by kernel_rfl) (Cd _) (fun bc=>?_)
  refine WA.start (n:=13) (by kernel_rfl) ?_
  refine WA.tk 1 rfl ?_ (hy:=Jd (by rfl) 28 _ rfl (w.heap.size) 0 rfl _ _ (fun w' h=>(kf.b h).all) Tryz.underlying28 rfl (by kernel_rfl))
  refine WA.tk 2 rfl ?_
  refine WA.tk 3 rfl ?_
  refine WA.tk 4 rfl ?_ (hy:=Jd (by rfl) 30 _ rfl (w.heap.size + 1) 0 rfl _ _ (fun w' h=>(kt.b h).rs 0 (Cn p0 q0 r0 p1 q1 r1) rfl) Tryz.underlying30 rfl (by kernel_rfl))
  refine WA.tk 5 rfl ?_
  refine WA.tk 6 rfl ?_
  refine WA.tk 7 rfl ?_ (hy:=Jd (by rfl) 30 _ rfl (w.heap.size + 1) 12 rfl _ _ (fun w' h=>(kt.b h).rs 12 (Cn p4 q4 r4 p5 q5 r5) rfl) Tryz.underlying30 rfl (by kernel_rfl))
  refine WA.genZ (i:=11) (s:=9) (Pt wy01 (Bx false eB eB) 26) (fun b x hz=>?_)
  simp only [Act.put,List.setIfInBounds_toArray,List.set_cons_zero,List.set_cons_succ]
  revert b x
  refine WA.one 13 254 0 11 rfl rfl bc ?_
  clear bc
  intro b x w' hz bx bc K hK
  clear bx
  simp only [List.getElem_toArray,List.getElem_cons_zero]
  go_simp
  go_fit (HO.out _)
  rintro e wn ⟨rfl,bn⟩
  replace bc:=Ia bc bn
  try go_wp2_with fail
  refine hK.out _ _ bc (fun _=>?_)
  replace hz:=fun h=>(hz h).b bn
  clear hK K bn
  revert b x
  refine WA.one 13 255 8 11 rfl rfl bc ?_
  clear bc
  intro b x w' hz bx bc K hK
  clear bx
  simp only [Jq]
  go_simp
  go_fit (M02.out _ (Ia bb bc))
  rintro e wn ⟨rfl,bn⟩
  replace bc:=Ia bc bn
  try go_wp2_with fail
  refine hK.out _ _ bc (fun _=>?_)
  replace hz:=fun h=>(hz h).b bn
  clear hK K bn
  revert b x
  refine WA.one 13 511 9 11 rfl rfl bc ?_
  clear bc
  intro b x w' hz bx bc K hK
  clear bx
  simp only [Jq]
  go_simp
  go_fit (V02.out _ (Ia bb bc))
  rintro e wn ⟨rfl,bn⟩
  replace bc:=Ia bc bn
  try go_wp2_with fail
  refine hK.out _ _ bc (fun _=>?_)
  replace hz:=fun h=>(hz h).b bn
  clear hK K bn
  revert b x
  refine WA.one 13 1023 10 11 rfl rfl bc ?_
  clear bc
  intro b x w' hz bx bc K hK
  clear bx
  simp only [Jq]
  go_simp
  go_fit (T02.out _)
  rintro e wn ⟨rfl,bn⟩
  replace bc:=Ia bc bn
  try go_wp2_with fail
  refine hK.out _ _ bc (fun _=>?_)
  replace hz:=fun h=>(hz h).b bn
  clear hK K bn
  revert b x
  refine WA.fin 11 rfl bc ?_
  clear bc
  intro x w' hz bx bc
  obtain ⟨g0,rfl,h0,k0⟩:=hz
  clear bx
  refine WA.call 12 rfl (fun K hK=>?_)
  rw [if_pos (by rfl)]
  refine wp_store_row 26 _ _ rfl g0 (Cr m02N m02S m02D) rfl rfl 26 _ k0 (by kernel_rfl) rfl (by kernel_rfl) ?_
  refine hK.out _ _ (below_setRow bc h0 _) (fun _=>?_)
  clear hK K
  replace bc:=below_setRow bc h0 (Cr m02N m02S m02D)
  replace k0 : Be (w'.setRow g0 (Cr m02N m02S m02D)) g0 (Bx m02N m02S m02D) 26:=setRow_heap _ _ _ _ _ _ k0
  generalize w'.setRow g0 (Cr m02N m02S m02D) = wa at *
  refine WA.done (by kernel_rfl) ?_
  go_wp2_with fail
  go_meet
  exact ⟨_,rfl,h0,k0,bc⟩
 case rest =>
 obtain ⟨gm,rfl,hgm,km,b1⟩:=hcut
 clear mk
 have lo:=ko.lt
 replace hgm : w.heap.size + 1 + 1 + 1 < gm:=by omega
 clear lo
 replace kf:=kf.b b1
 replace kt:=kt.b b1
 replace kr:=kr.b b1
 replace ko:=ko.b b1
 replace bb:=Ia bb b1
 clear b1
 go_wp2_with fail
 have bd:=Cd wc
 replace kf:=kf.b bd
 replace kt:=kt.b bd
 replace kr:=kr.b bd
 replace ko:=ko.b bd
 replace km:=km.b bd
 replace bb:=Ia bb bd
 clear bd
 refine Jc (S:=fun w'=>w'.rangeAt (gm) 0 (Bx m02N m02S m02D)∧w'.rangeAt (w.heap.size + 1 + 1 + 1) 0 (Bx a0N a0S a0D)∧w'.rangeAt (w.heap.size + 1 + 1 + 1) 24 (Bx a2N a2S a2D)) (by kernel_rfl) ⟨km.all,ko.rs 0 _ rfl,ko.rs 24 _ rfl⟩ (fun hS=>?_)
 generalize wc.drew = we02 at *
 refine WA.start (n:=18) (by kernel_rfl) ?_
 refine WA.tp 0 rfl ?_
 refine WA.tp 1 rfl ?_
 refine WA.tp 2 rfl ?_ (hy:=Jd (by rfl) 26 _ rfl (gm) 0 rfl _ _ (fun w' h=>h.1) Tryz.underlying26 rfl (by kernel_rfl))
 refine WA.tp 3 rfl ?_
 refine WA.tp 4 rfl ?_
 refine WA.tp 5 rfl ?_
 refine WA.tp 6 rfl ?_
 refine WA.tp 7 rfl ?_ (hy:=Jd (by rfl) 26 _ rfl (w.heap.size + 1 + 1 + 1) 0 rfl _ _ (fun w' h=>h.2.1) Tryz.underlying26 rfl (by kernel_rfl))
 refine WA.tp 9 rfl ?_
 refine WA.tp 10 rfl ?_
 refine WA.tp 11 rfl ?_
 refine WA.tp 12 rfl ?_
 refine WA.tp 13 rfl ?_ (hy:=Jd (by rfl) 26 _ rfl (w.heap.size + 1 + 1 + 1) 24 rfl _ _ (fun w' h=>h.2.2) Tryz.underlying26 rfl (by kernel_rfl))
 refine WA.tp 15 rfl ?_
 clear hS
 refine WA.cal 8 rfl (fun K hK=>?_)
 simp only [Jq]
 go_simp
 go_fit (L02.out _)
 rintro e wm8 ⟨rfl,b1⟩
 replace kf:=kf.b b1
 replace kt:=kt.b b1
 replace kr:=kr.b b1
 replace ko:=ko.b b1
 replace km:=km.b b1
 replace bb:=Ia bb b1
 clear b1
 try go_wp2_with fail
 refine hK.out _ _ ⟨km.all,ko.rs 0 _ rfl,ko.rs 24 _ rfl⟩ (fun hS=>?_)
 clear hK K
 clear hS
 refine WA.cal 14 rfl (fun K hK=>?_)
 simp only [Jq]
 go_simp
 go_fit (K02.out _)
 rintro e wm14 ⟨rfl,b1⟩
 replace kf:=kf.b b1
 replace kt:=kt.b b1
 replace kr:=kr.b b1
 replace ko:=ko.b b1
 replace km:=km.b b1
 replace bb:=Ia bb b1
 clear b1
 try go_wp2_with fail
 refine hK.out _ _ ⟨km.all,ko.rs 0 _ rfl,ko.rs 24 _ rfl⟩ (fun hS=>?_)
 clear hK K
 refine WA.tp 16 rfl ?_
 clear hS
 refine WA.cal 17 rfl (fun K hK=>?_)
 rw [if_pos (by rfl)]
 refine wp_store_mid 26 _ _ rfl (w.heap.size + 1 + 1 + 1) 6 (Cr o02N o02S o02D) rfl rfl (ko.there 6 3 (Nat.le_of_ble_eq_true rfl)) (by kernel_rfl) (by kernel_rfl) ?_
 replace bb:=Ls bb (show _ ≤ w.heap.size + 1 + 1 + 1 from (by omega)) 6 (Bx o02N o02S o02D)
 replace kf:=Be.midO (g':=w.heap.size + 1 + 1 + 1) kf (by omega) 6 (Bx o02N o02S o02D)
 replace kt:=Be.midO (g':=w.heap.size + 1 + 1 + 1) kt (by omega) 6 (Bx o02N o02S o02D)
 replace kr:=Be.midO (g':=w.heap.size + 1 + 1 + 1) kr (by omega) 6 (Bx o02N o02S o02D)
 replace km:=Be.midO (g':=w.heap.size + 1 + 1 + 1) km (by omega) 6 (Bx o02N o02S o02D)
 replace ko : Be (World.setCells _ _ 6 (Bx o02N o02S o02D)) _ (Gw a0N a0S a0D o01N o01S o01D o02N o02S o02D false eB eB a1N a1S a1D false eB eB false eB eB false eB eB a2N a2S a2D) 81:=Be.midS ko 6 (Bx o02N o02S o02D)
 refine hK.out _ _ ⟨km.all,ko.rs 0 _ rfl,ko.rs 24 _ rfl⟩ (fun hS=>?_)
 clear hK K
 refine WA.done (by kernel_rfl) ?_
 clear hS
 clear km hgm
 go_wp2_with fail
 generalize World.setCells _ _ 6 _ = wy02 at *
 rw [rounds_succ]
 go_wp2_with fail
 rw [rounds_succ]
 go_wp2_with fail
 refine wp_loop_rounds 4 ?_
 rw [rounds_succ]
 go_upto_region 12 with fail
 have mk : Hid (∀ w',SB wy02 w'→True):=fun _ _=>trivial
 go_cut [9] from 29 to 43 (fun v wx=>∃ gm,v = .pointer (some ⟨gm,0,none⟩)∧wy02.heap.size ≤ gm∧Be wx gm (Bx m12N m12S m12D) 26∧Below wy02.heap.size wy02 wx)
 case first =>
  clear mk
  refine Jc (S:=SB wy02) (by kernel_rfl) (Cd _) (fun bc=>?_)
  refine WA.start (n:=13) (by kernel_rfl) ?_
  refine WA.tk 1 rfl ?_ (hy:=Jd (by rfl) 28 _ rfl (w.heap.size) 0 rfl _ _ (fun w' h=>(kf.b h).all) Tryz.underlying28 rfl (by kernel_rfl))
  refine WA.tk 2 rfl ?_
  refine WA.tk 3 rfl ?_
  refine WA.tk 4 rfl ?_ (hy:=Jd (by rfl) 30 _ rfl (w.heap.size + 1) 6 rfl _ _ (fun w' h=>(kt.b h).rs 6 (Cn p2 q2 r2 p3 q3 r3) rfl) Tryz.underlying30 rfl (by kernel_rfl))
  refine WA.tk 5 rfl ?_
  refine WA.tk 6 rfl ?_
  refine WA.tk 7 rfl ?_ (hy:=Jd (by rfl) 30 _ rfl (w.heap.size + 1) 12 rfl _ _ (fun w' h=>(kt.b h).rs 12 (Cn p4 q4 r4 p5 q5 r5) rfl) Tryz.underlying30 rfl (by kernel_rfl))
  refine WA.genZ (i:=11) (s:=9) (Pt wy02 (Bx false eB eB) 26) (fun b x hz=>?_)
  simp only [Act.put,List.setIfInBounds_toArray,List.set_cons_zero,List.set_cons_succ]
  revert b x
  refine WA.one 13 254 0 11 rfl rfl bc ?_
  clear bc
  intro b x w' hz bx bc K hK
  clear bx
  simp only [List.getElem_toArray,List.getElem_cons_zero]
  go_simp
  go_fit (HO.out _)
  rintro e wn ⟨rfl,bn⟩
  replace bc:=Ia bc bn
  try go_wp2_with fail
  refine hK.out _ _ bc (fun _=>?_)
  replace hz:=fun h=>(hz h).b bn
  clear hK K bn
  revert b x
  refine WA.one 13 255 8 11 rfl rfl bc ?_
  clear bc
  intro b x w' hz bx bc K hK
  clear bx
  simp only [Jq]
  go_simp
  go_fit (M12.out _ (Ia bb bc))
  rintro e wn ⟨rfl,bn⟩
  replace bc:=Ia bc bn
  try go_wp2_with fail
  refine hK.out _ _ bc (fun _=>?_)
  replace hz:=fun h=>(hz h).b bn
  clear hK K bn
  revert b x
  refine WA.one 13 511 9 11 rfl rfl bc ?_
  clear bc
  intro b x w' hz bx bc K hK
  clear bx
  simp only [Jq]
  go_simp
  go_fit (V12.out _ (Ia bb bc))
  rintro e wn ⟨rfl,bn⟩
  replace bc:=Ia bc bn
  try go_wp2_with fail
  refine hK.out _ _ bc (fun _=>?_)
  replace hz:=fun h=>(hz h).b bn
  clear hK K bn
  revert b x
  refine WA.one 13 1023 10 11 rfl rfl bc ?_
  clear bc
  intro b x w' hz bx bc K hK
  clear bx
  simp only [Jq]
  go_simp
  go_fit (T12.out _)
  rintro e wn ⟨rfl,bn⟩
  replace bc:=Ia bc bn
  try go_wp2_with fail
  refine hK.out _ _ bc (fun _=>?_)
  replace hz:=fun h=>(hz h).b bn
  clear hK K bn
  revert b x
  refine WA.fin 11 rfl bc ?_
  clear bc
  intro x w' hz bx bc
  obtain ⟨g0,rfl,h0,k0⟩:=hz
  clear bx
  refine WA.call 12 rfl (fun K hK=>?_)
  rw [if_pos (by rfl)]
  refine wp_store_row 26 _ _ rfl g0 (Cr m12N m12S m12D) rfl rfl 26 _ k0 (by kernel_rfl) rfl (by kernel_rfl) ?_
  refine hK.out _ _ (below_setRow bc h0 _) (fun _=>?_)
  clear hK K
  replace bc:=below_setRow bc h0 (Cr m12N m12S m12D)
  replace k0 : Be (w'.setRow g0 (Cr m12N m12S m12D)) g0 (Bx m12N m12S m12D) 26:=setRow_heap _ _ _ _ _ _ k0
  generalize w'.setRow g0 (Cr m12N m12S m12D) = wa at *
  refine WA.done (by kernel_rfl) ?_
  go_wp2_with fail
  go_meet
  exact ⟨_,rfl,h0,k0,bc⟩
 case rest =>
 obtain ⟨gm,rfl,hgm,km,b1⟩:=hcut
 clear mk
 have lo:=ko.lt
 replace hgm : w.heap.size + 1 + 1 + 1 < gm:=by omega
 clear lo
 replace kf:=kf.b b1
 replace kt:=kt.b b1
 replace kr:=kr.b b1
 replace ko:=ko.b b1
 replace bb:=Ia bb b1
 clear b1
 go_wp2_with fail
 have bd:=Cd wc
 replace kf:=kf.b bd
 replace kt:=kt.b bd
 replace kr:=kr.b bd
 replace ko:=ko.b bd
 replace km:=km.b bd
 replace bb:=Ia bb bd
 clear bd
 refine Jc (S:=fun w'=>w'.rangeAt (gm) 0 (Bx m12N m12S m12D)∧w'.rangeAt (w.heap.size + 1 + 1 + 1) 12 (Bx a1N a1S a1D)∧w'.rangeAt (w.heap.size + 1 + 1 + 1) 24 (Bx a2N a2S a2D)) (by kernel_rfl) ⟨km.all,ko.rs 12 _ rfl,ko.rs 24 _ rfl⟩ (fun hS=>?_)
 generalize wc.drew = we12 at *
 refine WA.start (n:=18) (by kernel_rfl) ?_
 refine WA.tp 0 rfl ?_
 refine WA.tp 1 rfl ?_
 refine WA.tp 2 rfl ?_ (hy:=Jd (by rfl) 26 _ rfl (gm) 0 rfl _ _ (fun w' h=>h.1) Tryz.underlying26 rfl (by kernel_rfl))
 refine WA.tp 3 rfl ?_
 refine WA.tp 4 rfl ?_
 refine WA.tp 5 rfl ?_
 refine WA.tp 6 rfl ?_
 refine WA.tp 7 rfl ?_ (hy:=Jd (by rfl) 26 _ rfl (w.heap.size + 1 + 1 + 1) 12 rfl _ _ (fun w' h=>h.2.1) Tryz.underlying26 rfl (by kernel_rfl))
 refine WA.tp 9 rfl ?_
 refine WA.tp 10 rfl ?_
 refine WA.tp 11 rfl ?_
 refine WA.tp 12 rfl ?_
 refine WA.tp 13 rfl ?_ (hy:=Jd (by rfl) 26 _ rfl (w.heap.size + 1 + 1 + 1) 24 rfl _ _ (fun w' h=>h.2.2) Tryz.underlying26 rfl (by kernel_rfl))
 refine WA.tp 15 rfl ?_
 clear hS
 refine WA.cal 8 rfl (fun K hK=>?_)
 simp only [Jq]
 go_simp
 go_fit (L12.out _)
 rintro e wm8 ⟨rfl,b1⟩
 replace kf:=kf.b b1
 replace kt:=kt.b b1
 replace kr:=kr.b b1
 replace ko:=ko.b b1
 replace km:=km.b b1
 replace bb:=Ia bb b1
 clear b1
 try go_wp2_with fail
 refine hK.out _ _ ⟨km.all,ko.rs 12 _ rfl,ko.rs 24 _ rfl⟩ (fun hS=>?_)
 clear hK K
 clear hS
 refine WA.cal 14 rfl (fun K hK=>?_)
 simp only [Jq]
 go_simp
 go_fit (K12.out _)
 rintro e wm14 ⟨rfl,b1⟩
 replace kf:=kf.b b1
 replace kt:=kt.b b1
 replace kr:=kr.b b1
 replace ko:=ko.b b1
 replace km:=km.b b1
 replace bb:=Ia bb b1
 clear b1
 try go_wp2_with fail
 refine hK.out _ _ ⟨km.all,ko.rs 12 _ rfl,ko.rs 24 _ rfl⟩ (fun hS=>?_)
 clear hK K
 refine WA.tp 16 rfl ?_
 clear hS
 refine WA.cal 17 rfl (fun K hK=>?_)
 rw [if_pos (by rfl)]
 refine wp_store_mid 26 _ _ rfl (w.heap.size + 1 + 1 + 1) 15 (Cr o12N o12S o12D) rfl rfl (ko.there 15 3 (Nat.le_of_ble_eq_true rfl)) (by kernel_rfl) (by kernel_rfl) ?_
 replace bb:=Ls bb (show _ ≤ w.heap.size + 1 + 1 + 1 from (by omega)) 15 (Bx o12N o12S o12D)
 replace kf:=Be.midO (g':=w.heap.size + 1 + 1 + 1) kf (by omega) 15 (Bx o12N o12S o12D)
 replace kt:=Be.midO (g':=w.heap.size + 1 + 1 + 1) kt (by omega) 15 (Bx o12N o12S o12D)
 replace kr:=Be.midO (g':=w.heap.size + 1 + 1 + 1) kr (by omega) 15 (Bx o12N o12S o12D)
 replace km:=Be.midO (g':=w.heap.size + 1 + 1 + 1) km (by omega) 15 (Bx o12N o12S o12D)
 replace ko : Be (World.setCells _ _ 15 (Bx o12N o12S o12D)) _ (Gw a0N a0S a0D o01N o01S o01D o02N o02S o02D false eB eB a1N a1S a1D o12N o12S o12D false eB eB false eB eB a2N a2S a2D) 81:=Be.midS ko 15 (Bx o12N o12S o12D)
 refine hK.out _ _ ⟨km.all,ko.rs 12 _ rfl,ko.rs 24 _ rfl⟩ (fun hS=>?_)
 clear hK K
 refine WA.done (by kernel_rfl) ?_
 clear hS
 clear km hgm
 go_wp2_with fail
 generalize World.setCells _ _ 15 _ = wy12 at *
 rw [rounds_succ]
 go_wp2_with fail
 rw [rounds_succ]
 go_wp2_with fail
 refine wp_loop_rounds 4 ?_
 rw [rounds_succ]
 go_wp2_with fail
 rw [rounds_succ]
 go_upto_region 14 with fail
 refine wp_region_lit ?_
 refine Je rfl 81 _ rfl _ rfl 81 _ (0,0) _ ko Tryz.underlying81 rfl (by kernel_rfl) ?_
 refine Jk rfl 81 _ _ rfl (w.heap.size + 1 + 1) 0 (qv9 a0N a0S a0D o01N o01S o01D o02N o02S o02D false eB eB a1N a1S a1D o12N o12S o12D false eB eB false eB eB a2N a2S a2D) rfl rfl (kr.there 0 27 (Nat.le_of_ble_eq_true rfl)) (by kernel_rfl) (by kernel_rfl) ?_
 generalize hW : World.setCells _ _ 0 _ = wz
 replace bb : Below w.heap.size w wz:=by rw [← hW]; exact Ls bb (by omega) 0 _
 have hu : upd (Gw false eB eB false eB eB false eB eB false eB eB false eB eB false eB eB false eB eB false eB eB false eB eB) 0 (Gw a0N a0S a0D o01N o01S o01D o02N o02S o02D false eB eB a1N a1S a1D o12N o12S o12D false eB eB false eB eB a2N a2S a2D) = (Gw a0N a0S a0D o01N o01S o01D o02N o02S o02D false eB eB a1N a1S a1D o12N o12S o12D false eB eB false eB eB a2N a2S a2D):=by kernel_rfl
 replace kr : Be wz (w.heap.size + 1 + 1) (upd (Gw false eB eB false eB eB false eB eB false eB eB false eB eB false eB eB false eB eB false eB eB false eB eB) 0 (Gw a0N a0S a0D o01N o01S o01D o02N o02S o02D false eB eB a1N a1S a1D o12N o12S o12D false eB eB false eB eB a2N a2S a2D)) 81:=by rw [← hW]; exact kr.midS 0 (Gw a0N a0S a0D o01N o01S o01D o02N o02S o02D false eB eB a1N a1S a1D o12N o12S o12D false eB eB false eB eB a2N a2S a2D)
 rw [hu] at kr
 clear hu
 clear hW kf kt ko
 simp only [Act.put,List.setIfInBounds_toArray,List.set_cons_zero,List.set_cons_succ]
 refine wpList_nil ?_
 go_step
 go_step
 go_step
 try go_step
 exact Ba7 (p:=4) (by kernel_rfl) rfl rfl kr rfl ⟨rfl,bb⟩
def Ov (D : Int) (M : Nat) (x : Rat) : Prop:=∃ X : Int,((X : Int) : Rat) = ((D : Int) : Rat) * x∧Bd X M
theorem Ov.mono {D : Int} {M N : Nat} {x : Rat} (h : Ov D M x) (hN : M ≤ N) : Ov D N x:=by
 obtain ⟨X,e,b⟩:=h
 exact ⟨X,e,b.mono hN⟩
theorem Ov.add {D : Int} {M : Nat} {x y : Rat} (h : Ov D M x) (k : Ov D M y) : Ov D (M + 1) (x + y):=by
 obtain ⟨X,e,b⟩:=h
 obtain ⟨Y,f,c⟩:=k
 refine ⟨X + Y,?_,b.add c⟩
 rw [Rat.intCast_add,e,f]
 grind
theorem Ov.sub {D : Int} {M : Nat} {x y : Rat} (h : Ov D M x) (k : Ov D M y) : Ov D (M + 1) (x - y):=by
 obtain ⟨X,e,b⟩:=h
 obtain ⟨Y,f,c⟩:=k
 refine ⟨X - Y,?_,b.sub c⟩
 rw [Rat.intCast_sub,e,f]
 grind
theorem Ov.mul {D E : Int} {M N : Nat} {x y : Rat} (h : Ov D M x) (k : Ov E N y) : Ov (D * E) (M + N) (x * y):=by
 obtain ⟨X,e,b⟩:=h
 obtain ⟨Y,f,c⟩:=k
 refine ⟨X * Y,?_,b.mul c⟩
 rw [Rat.intCast_mul,Rat.intCast_mul,e,f]
 grind
theorem Ov.four {D : Int} {M : Nat} {x : Rat} (h : Ov D M x) : Ov D (M + 1) (((4 : Int) : Rat) * x):=by
 obtain ⟨X,e,b⟩:=h
 refine ⟨4 * X,?_,((Bd.one (z:=4) (by omega) (by omega)).mul b).mono (by omega)⟩
 rw [Rat.intCast_mul,e]
 grind
theorem Ov.zero (D : Int) (M : Nat) : Ov D M ((0 : Int) : Rat):=by
 refine ⟨0,?_,Bd.zero M⟩
 have : (((0 : Int) : Rat)) = 0:=rfl
 rw [this]
 grind
theorem Ov.bq {D : Int} {M K K' : Nat} {x : Rat} (h : Ov D M x) (hD : D ≠ 0) (bD : Bd D K) (h1 : M ≤ K') (h2 : K ≤ K') : Bq x K':=by
 obtain ⟨X,e,b⟩:=h
 exact Bcm hD e (b.mono h1) (bD.mono h2)
theorem Ov.sum7 {D : Int} {M : Nat} {x0 x1 x2 x3 x4 x5 : Rat} (h0 : Ov D M x0) (h1 : Ov D M x1) (h2 : Ov D M x2) (h3 : Ov D M x3) (h4 : Ov D M x4) (h5 : Ov D M x5) :
  Ov D (M + 1) (((0 : Int) : Rat) + x0)∧Ov D (M + 1 + 1) (((0 : Int) : Rat) + x0 + x1)∧Ov D (M + 1 + 1 + 1) (((0 : Int) : Rat) + x0 + x1 + x2)∧Ov D (M + 1 + 1 + 1 + 1) (((0 : Int) : Rat) + x0 + x1 + x2 + x3)∧Ov D (M + 1 + 1 + 1 + 1 + 1) (((0 : Int) : Rat) + x0 + x1 + x2 + x3 + x4)∧Ov D (M + 1 + 1 + 1 + 1 + 1 + 1) (((0 : Int) : Rat) + x0 + x1 + x2 + x3 + x4 + x5):=by
 have a0:=(Ov.zero D M).add h0
 have a1:=a0.add (h1.mono (Nat.le_succ M))
 have a2:=a1.add (h2.mono (show M ≤ M + 1 + 1 by omega))
 have a3:=a2.add (h3.mono (show M ≤ M + 1 + 1 + 1 by omega))
 have a4:=a3.add (h4.mono (show M ≤ M + 1 + 1 + 1 + 1 by omega))
 have a5:=a4.add (h5.mono (show M ≤ M + 1 + 1 + 1 + 1 + 1 by omega))
 exact ⟨a0,a1,a2,a3,a4,a5⟩
def dn (r s : Nat→Rat) : Int:=((um r 6 : Nat) : Int) * ((((um s 6 : Nat) : Int) + ((um s 6 : Nat) : Int)) * (((um s 6 : Nat) : Int) + ((um s 6 : Nat) : Int)))
theorem S7 (r s : Nat→Rat) : dn r s ≠ 0:=Bc2 r s
theorem S8 {r s : Nat→Rat} (hr : ∀ k,k < 6→Bq (r k) 30) (hs : ∀ k,k < 6→Bq (s k) 30) : Bd (dn r s) 545:=(Bc3 hr hs).mono (by omega)
theorem Bfj {r s : Nat→Rat} (hr : ∀ k,k < 6→Bq (r k) 30) (hs : ∀ k,k < 6→Bq (s k) 30) (k : Nat) (hk : k < 6) : Ov (dn r s) 651 (Fn r s k):=by
 have c:=Zi.cast (r:=r) (s:=s) k
 rw [← Rat.intCast_mul,← Rat.intCast_mul] at c
 exact ⟨_,c,(Bd1 hr hs hk).mono (by omega)⟩
def ge (F : Nat→Rat) (j : Nat) : Rat:=match j with | 0=>F 0 | 1=>((4 : Int) : Rat) * F 3 - F 0 - F 1 | 2=>((4 : Int) : Rat) * F 5 - F 0 - F 2 | 3=>F 1 | 4=>((4 : Int) : Rat) * F 4 - F 1 - F 2 | _=>F 2
theorem Wz {r s : Nat→Rat} (hr : ∀ k,k < 6→Bq (r k) 30) (hs : ∀ k,k < 6→Bq (s k) 30) (j : Nat) : Ov (dn r s) 654 (ge (Fn r s) j):=by
 have h:=fun k hk=>Bfj hr hs k hk
 unfold ge
 split
 ·exact (h 0 (by omega)).mono (by omega)
 ·exact (((h 3 (by omega)).four.sub ((h 0 (by omega)).mono (by omega))).sub ((h 1 (by omega)).mono (by omega)))
 ·exact (((h 5 (by omega)).four.sub ((h 0 (by omega)).mono (by omega))).sub ((h 2 (by omega)).mono (by omega)))
 ·exact (h 1 (by omega)).mono (by omega)
 ·exact (((h 4 (by omega)).four.sub ((h 1 (by omega)).mono (by omega))).sub ((h 2 (by omega)).mono (by omega)))
 ·exact (h 2 (by omega)).mono (by omega)
abbrev g27 (F : Nat→Rat) : Value:=(Wi (Bs (ge F 0).num) (Bp (ge F 0).num) (Bf (ge F 0).den) (Bs (ge F 1).num) (Bp (ge F 1).num) (Bf (ge F 1).den) (Bs (ge F 2).num) (Bp (ge F 2).num) (Bf (ge F 2).den) false eB eB (Bs (ge F 3).num) (Bp (ge F 3).num) (Bf (ge F 3).den) (Bs (ge F 4).num) (Bp (ge F 4).num) (Bf (ge F 4).den) false eB eB false eB eB (Bs (ge F 5).num) (Bp (ge F 5).num) (Bf (ge F 5).den))
theorem Rb : Bq ((4 : Int) : Rat) 1:=Dm 4 (by omega) (by omega)
theorem Bdi (n : Int) : rq ((n : Int) : Rat) = (Bo (Bs n) (Bp n) ⟨#[1]⟩):=by
 have e : Bf 1 = ⟨#[1]⟩:=by decide +kernel
 simp only [rq,Rat.num_intCast,Rat.den_intCast,e]
theorem Bgg (n : Int) (h1 : -1000 ≤ n) (h2 : n ≤ 1000) (w : World) : Calls Tryz.prog 40 #[.int .i64 n] w (Re w (rq ((n : Int) : Rat))):=by
 have:=Kd n h1 h2 w
 rw [← Bdi] at this
 exact this
theorem U7 {r : Nat→Rat} {x0 z0 x1 z1 x2 z2 : Rat} (hr : ∀ k,k < 6→Bq (r k) 30) (b0 : Bq x0 30) (c0 : Bq z0 30) (b1 : Bq x1 30) (c1 : Bq z1 30) (b2 : Bq x2 30) (c2 : Bq z2 30) (w : World) : Calls Tryz.prog 39 #[Qr r,t18 x0 z0 x1 z1 x2 z2] w (Re w (g27 (Fn r (Cx x0 x1 x2 z0 z1 z2)))):=by
 obtain ⟨f0,f1,f2,f3,f4,f5⟩:=Bh2 r x0 z0 x1 z1 x2 z2
 have hs:=G6 x0 z0 x1 z1 x2 z2 b0 c0 b1 c1 b2 c2
 have bF : ∀ k,k < 6→Bq ((Fn r (Cx x0 x1 x2 z0 z1 z2)) k) 651:=fun k hk=>(Bfj hr hs k hk).bq (S7 _ _) (S8 hr hs) (Jb _) (by omega)
 have hm : ∀ {a b : Rat},Bq a 30→Bq b 30→Bq ((a + b) * Rat.divInt 1 2) 63:=fun ha hb=>Ci (Et (Ld ha hb) Xd) (by omega)
 have E0:=fun w1=>Ma r x0 z0 (K:=30) (K':=30) (by omega) (by omega) hr b0 c0 w1
 have E1:=fun w1=>Ma r x1 z1 (K:=30) (K':=30) (by omega) (by omega) hr b1 c1 w1
 have E2:=fun w1=>Ma r x2 z2 (K:=30) (K':=30) (by omega) (by omega) hr b2 c2 w1
 have E3:=fun w1=>Ma r ((x0 + x1) * Rat.divInt 1 2) ((z0 + z1) * Rat.divInt 1 2) (K:=30) (K':=63) (by omega) (by omega) hr (hm b0 b1) (hm c0 c1) w1
 have E4:=fun w1=>Ma r ((x1 + x2) * Rat.divInt 1 2) ((z1 + z2) * Rat.divInt 1 2) (K:=30) (K':=63) (by omega) (by omega) hr (hm b1 b2) (hm c1 c2) w1
 have E5:=fun w1=>Ma r ((x0 + x2) * Rat.divInt 1 2) ((z0 + z2) * Rat.divInt 1 2) (K:=30) (K':=63) (by omega) (by omega) hr (hm b0 b2) (hm c0 c2) w1
 rw [← f0] at E0
 rw [← f1] at E1
 rw [← f2] at E2
 rw [← f3] at E3
 rw [← f4] at E4
 rw [← f5] at E5
 have M : ∀ (a b c d : Rat),Bq a 30→Bq b 30→Bq c 30→Bq d 30→∀ w1,_:=fun a b c d ha hb hc hd w1=>Bg9 a b c d (K:=30) (by omega) ha hb hc hd w1
 have T : ∀ k,k < 6→∀ w1,_:=fun k hk w1=>C5 ((4 : Int) : Rat) ((Fn r (Cx x0 x1 x2 z0 z1 z2)) k) (K:=651) (by omega) (Ci Rb (by omega)) (bF k hk) w1
 have L : ∀ k i,k < 6→i < 6→∀ w1,_:=fun k i hk hi w1=>Nr (((4 : Int) : Rat) * (Fn r (Cx x0 x1 x2 z0 z1 z2)) k) ((Fn r (Cx x0 x1 x2 z0 z1 z2)) i) (K:=1 + 651) (by omega) (Et Rb (bF k hk)) (Ci (bF i hi) (by omega)) w1
 have K : ∀ k i j,k < 6→i < 6→j < 6→∀ w1,_:=fun k i j hk hi hj w1=>Nr (((4 : Int) : Rat) * (Fn r (Cx x0 x1 x2 z0 z1 z2)) k - (Fn r (Cx x0 x1 x2 z0 z1 z2)) i) ((Fn r (Cx x0 x1 x2 z0 z1 z2)) j) (K:=1 + 651 + 651 + 1) (by omega) (Dw (Et Rb (bF k hk)) (bF i hi)) (Ci (bF j hj) (by omega)) w1
 exact Yw _ _ _ _ _ _ _ _ _ _ _ _ _ _ _ _ _ _ _ _ _ _ _ _ _ _ _ _ _ _ _ _ _ _ _ _ _ _ _ _ _ _ _ _ _ _ _ _ _ _ _ _ _ _ _ _ _ _ _ _ _ _ _ _ _ _ _ _ _ _ _ _ _ _ _ _ _ _ _ _ _ _ _ _ _ _ _ _ _ _ _ _ _ _ _ _ _ _ _ _ _ _ w (fun w1 _=>E0 w1) (fun w1 _=>E1 w1) (fun w1 _=>E2 w1) (fun w1=>Bgg 4 (by omega) (by omega) w1)
  (fun w1 _=>M x0 z0 x1 z1 b0 c0 b1 c1 w1) (fun w1 _=>E3 w1) (fun w1=>T 3 (by omega) w1) (fun w1=>L 3 0 (by omega) (by omega) w1) (fun w1=>K 3 0 1 (by omega) (by omega) (by omega) w1)
  (fun w1 _=>M x0 z0 x2 z2 b0 c0 b2 c2 w1) (fun w1 _=>E5 w1) (fun w1=>T 5 (by omega) w1) (fun w1=>L 5 0 (by omega) (by omega) w1) (fun w1=>K 5 0 2 (by omega) (by omega) (by omega) w1)
  (fun w1 _=>M x1 z1 x2 z2 b1 c1 b2 c2 w1) (fun w1 _=>E4 w1) (fun w1=>T 4 (by omega) w1) (fun w1=>L 4 1 (by omega) (by omega) w1) (fun w1=>K 4 1 2 (by omega) (by omega) (by omega) w1)
def Ej (a b c : Nat) : Rat:=Rat.divInt ((Fh a * Fh b * Fh c : Nat) : Int) ((Fh (a + b + c + 2) : Nat) : Int)
def okF (a b c : Nat) : Bool:=decide (IntKind.i64.wrap (((Fh a : Nat) : Int) * ((Fh b : Nat) : Int)) = ((Fh a * Fh b : Nat) : Int)) && (decide (IntKind.i64.wrap (((Fh a * Fh b : Nat) : Int) * ((Fh c : Nat) : Int)) = ((Fh a * Fh b * Fh c : Nat) : Int)) && (decide (IntKind.i64.wrap ((a : Int) + (b : Int)) = ((a + b : Nat) : Int)) && (decide (IntKind.i64.wrap (((a + b : Nat) : Int) + (c : Int)) = ((a + b + c : Nat) : Int)) && (decide (IntKind.i64.wrap (((a + b + c : Nat) : Int) + 2) = ((a + b + c + 2 : Nat) : Int)) && (decide (0 < Fh (a + b + c + 2)) && (decide (Fh (a + b + c + 2) ≤ 720) && decide (Fh a * Fh b * Fh c ≤ 720)))))))
theorem Bd0 : ((List.range 5).all fun a=>(List.range 5).all fun b=>(List.range 5).all fun c=>!decide (a + b + c ≤ 4) || okF a b c) = true:=by decide +kernel
theorem Gu (a : Nat) (_ha : a ≤ 4) (b : Nat) (_hb : b ≤ 4) (c : Nat) (_hc : c ≤ 4) (h : a + b + c ≤ 4) : IntKind.i64.wrap (((Fh a : Nat) : Int) * ((Fh b : Nat) : Int)) = ((Fh a * Fh b : Nat) : Int)∧IntKind.i64.wrap (((Fh a * Fh b : Nat) : Int) * ((Fh c : Nat) : Int)) = ((Fh a * Fh b * Fh c : Nat) : Int)∧IntKind.i64.wrap ((a : Int) + (b : Int)) = ((a + b : Nat) : Int)∧IntKind.i64.wrap (((a + b : Nat) : Int) + (c : Int)) = ((a + b + c : Nat) : Int)∧IntKind.i64.wrap (((a + b + c : Nat) : Int) + 2) = ((a + b + c + 2 : Nat) : Int)∧0 < Fh (a + b + c + 2)∧Fh (a + b + c + 2) ≤ 720∧Fh a * Fh b * Fh c ≤ 720:=by
 have q:=Bd0
 rw [List.all_eq_true] at q
 have q:=q a (List.mem_range.2 (by omega))
 rw [List.all_eq_true] at q
 have q:=q b (List.mem_range.2 (by omega))
 rw [List.all_eq_true] at q
 have q:=q c (List.mem_range.2 (by omega))
 rw [decide_eq_true h,Bool.not_true,Bool.false_or] at q
 unfold okF at q
 rw [Bool.and_eq_true,Bool.and_eq_true,Bool.and_eq_true,Bool.and_eq_true,Bool.and_eq_true,Bool.and_eq_true,Bool.and_eq_true] at q
 obtain ⟨q1,q2,q3,q4,q5,q6,q7,q8⟩:=q
 exact ⟨of_decide_eq_true q1,of_decide_eq_true q2,of_decide_eq_true q3,of_decide_eq_true q4,of_decide_eq_true q5,of_decide_eq_true q6,of_decide_eq_true q7,of_decide_eq_true q8⟩
theorem Bds (a b c : Nat) (h : a + b + c ≤ 4) (w : World) : Calls Tryz.prog 77 #[.agg #[.int .i64 (a : Int),.int .i64 (b : Int),.int .i64 (c : Int)]] w (Re w (rq (Ej a b c))):=by
 obtain ⟨e1,e2,e3,e4,e5,p1,p2,p3⟩:=Gu a (by omega) b (by omega) c (by omega) h
 exact Sj a b c _ _ _ _ _ _ _ _ _ _ _ _ e1 e2 e3 e4 e5 w (fun w1=>Nc a (by omega) w1) (fun w1=>Nc b (by omega) w1) (fun w1=>Nc c (by omega) w1) (fun w1=>Nc (a + b + c + 2) (by omega) w1) (fun w1=>U6 _ _ (by omega) (by omega) (by omega) (by omega) w1)
theorem Bfg (a b c : Nat) (h : a + b + c ≤ 4) : Ov ((Fh (a + b + c + 2) : Nat) : Int) 2 (Ej a b c):=by
 obtain ⟨-,-,-,-,-,p1,p2,p3⟩:=Gu a (by omega) b (by omega) c (by omega) h
 refine ⟨((Fh a * Fh b * Fh c : Nat) : Int),?_,by unfold Bd; omega⟩
 unfold Ej
 rw [Rat.divInt_eq_div]
 have:=Bgh p1
 have e : ((((Fh (a + b + c + 2) : Nat) : Int)) : Rat) = ((Fh (a + b + c + 2) : Nat) : Rat):=rfl
 rw [e]
 grind
def wg (F : Nat→Rat) (a b c : Nat) : Rat:=(((((((0 : Int) : Rat) + ge F 0 * Ej (a + 1 + 1) (b) (c)) + ge F 1 * Ej (a + 1) (b + 1) (c)) + ge F 2 * Ej (a + 1) (b) (c + 1)) + ge F 3 * Ej (a) (b + 1 + 1) (c)) + ge F 4 * Ej (a) (b + 1) (c + 1)) + ge F 5 * Ej (a) (b) (c + 1 + 1)
theorem Mh {r s : Nat→Rat} (hr : ∀ k,k < 6→Bq (r k) 30) (hs : ∀ k,k < 6→Bq (s k) 30) (a b c : Nat) (h : a + b + c ≤ 2) : Ov (dn r s * ((Fh (a + b + c + 4) : Nat) : Int)) 662 (wg (Fn r s) a b c)∧(∀ j,Bq (ge (Fn r s) j) 654)∧Bd (dn r s * ((Fh (a + b + c + 4) : Nat) : Int)) 547∧dn r s * ((Fh (a + b + c + 4) : Nat) : Int) ≠ 0:=by
 have q : ∀ x y z : Nat,x + y + z = a + b + c + 2→Ov ((Fh (a + b + c + 4) : Nat) : Int) 2 (Ej x y z):=fun x y z e=>by
  have:=Bfg x y z (by omega)
  rw [e] at this
  exact this
 have t : ∀ j x y z,x + y + z = a + b + c + 2→Ov (dn r s * ((Fh (a + b + c + 4) : Nat) : Int)) 656 (ge (Fn r s) j * Ej x y z):=fun j x y z e=>((Wz hr hs j).mul (q x y z e)).mono (by omega)
 obtain ⟨-,-,-,-,-,p1,p2,-⟩:=Gu (a + b + c + 2) (by omega) 0 (by omega) 0 (by omega) (by omega)
 have e4 : a + b + c + 2 + 0 + 0 + 2 = a + b + c + 4:=by omega
 rw [e4] at p1 p2
 have bf : Bd ((Fh (a + b + c + 4) : Nat) : Int) 2:=by unfold Bd; omega
 refine ⟨?_,fun j=>(Wz hr hs j).bq (S7 _ _) (S8 hr hs) (Jb _) (by omega),((S8 hr hs).mul bf).mono (by omega),Int.mul_ne_zero (S7 _ _) (by omega)⟩
 unfold wg
 exact (Ov.sum7 (t _ _ _ _ (by omega)) (t _ _ _ _ (by omega)) (t _ _ _ _ (by omega)) (t _ _ _ _ (by omega)) (t _ _ _ _ (by omega)) (t _ _ _ _ (by omega))).2.2.2.2.2.mono (by omega)
theorem Lc {r : Nat→Rat} {x0 z0 x1 z1 x2 z2 : Rat} (hr : ∀ k,k < 6→Bq (r k) 30) (b0 : Bq x0 30) (c0 : Bq z0 30) (b1 : Bq x1 30) (c1 : Bq z1 30) (b2 : Bq x2 30) (c2 : Bq z2 30) (a b c : Nat) (h : a + b + c ≤ 2) (w : World) : Calls Tryz.prog 38 #[g27 (Fn r (Cx x0 x1 x2 z0 z1 z2)),.agg #[.int .i64 (a : Int),.int .i64 (b : Int),.int .i64 (c : Int)]] w (Re w (rq (wg (Fn r (Cx x0 x1 x2 z0 z1 z2)) a b c))):=by
 have hs:=G6 x0 z0 x1 z1 x2 z2 b0 c0 b1 c1 b2 c2
 obtain ⟨-,bg,bd,hd⟩:=Mh hr hs a b c h
 have q : ∀ x y z : Nat,x + y + z = a + b + c + 2→Ov ((Fh (a + b + c + 4) : Nat) : Int) 2 (Ej x y z):=fun x y z e=>by
  have:=Bfg x y z (by omega)
  rw [e] at this
  exact this
 have t : ∀ j x y z,x + y + z = a + b + c + 2→Ov (dn r (Cx x0 x1 x2 z0 z1 z2) * ((Fh (a + b + c + 4) : Nat) : Int)) 656 (ge (Fn r (Cx x0 x1 x2 z0 z1 z2)) j * Ej x y z):=fun j x y z e=>((Wz hr hs j).mul (q x y z e)).mono (by omega)
 generalize hF : (Fn r (Cx x0 x1 x2 z0 z1 z2)) = F at *
 obtain ⟨o1,o2,o3,o4,o5,o6⟩:=Ov.sum7 (t 0 (a + 1 + 1) (b) (c) (by omega)) (t 1 (a + 1) (b + 1) (c) (by omega)) (t 2 (a + 1) (b) (c + 1) (by omega)) (t 3 (a) (b + 1 + 1) (c) (by omega)) (t 4 (a) (b + 1) (c + 1) (by omega)) (t 5 (a) (b) (c + 1 + 1) (by omega))
 have o0:=Ov.zero (dn r (Cx x0 x1 x2 z0 z1 z2) * ((Fh (a + b + c + 4) : Nat) : Int)) 656
 have bq : ∀ {M : Nat} {x : Rat},Ov (dn r (Cx x0 x1 x2 z0 z1 z2) * ((Fh (a + b + c + 4) : Nat) : Int)) M x→M ≤ 700→Bq x 700:=fun ox hM=>ox.bq hd bd hM (by omega)
 have P : ∀ x y z : Nat,x + y + z ≤ 4→∀ w1,_:=fun x y z e w1=>Bds x y z e w1
 have T : ∀ j x y z,x + y + z = a + b + c + 2→∀ w1,_:=fun j x y z e w1=>C5 (ge F j) (Ej x y z) (K:=700) (by omega) (Ci (bg j) (by omega)) ((q x y z e).bq (show ((Fh (a + b + c + 4) : Nat) : Int) ≠ 0 by
  obtain ⟨-,-,-,-,-,p1,-,-⟩:=Gu (a + b + c + 2) (by omega) 0 (by omega) 0 (by omega) (by omega)
  rw [show a + b + c + 2 + 0 + 0 + 2 = a + b + c + 4 by omega] at p1
  omega) (K:=2) (by
  obtain ⟨-,-,-,-,-,-,p2,-⟩:=Gu (a + b + c + 2) (by omega) 0 (by omega) 0 (by omega) (by omega)
  rw [show a + b + c + 2 + 0 + 0 + 2 = a + b + c + 4 by omega] at p2
  unfold Bd; omega) (by omega) (by omega)) w1
 exact Tl (a : Int) (b : Int) (c : Int) (by omega) (by omega) (by omega) (by omega) (by omega) (by omega) _ _ _ _ _ _ _ _ _ _ _ _ _ _ _ _ _ _ _ _ _ _ _ _ _ _ _ _ _ _ _ _ _ _ _ _ _ _ _ _ _ _ _ _ _ _ _ _ _ _ _ _ _ _ _ _ _ _ _ _ _ _ _ _ _ _ _ _ _ _ _ _ _ _ _ w (fun w1=>Bgg 0 (by omega) (by omega) w1)
  (fun w1=>P (a + 1 + 1) (b) (c) (by omega) w1) (fun w1=>T 0 (a + 1 + 1) (b) (c) (by omega) w1) (fun w1=>F7 ((0 : Int) : Rat) (ge F 0 * Ej (a + 1 + 1) (b) (c)) (K:=700) (by omega) (bq o0 (by omega)) (bq (t 0 (a + 1 + 1) (b) (c) (by omega)) (by omega)) w1)
  (fun w1=>P (a + 1) (b + 1) (c) (by omega) w1) (fun w1=>T 1 (a + 1) (b + 1) (c) (by omega) w1) (fun w1=>F7 (((0 : Int) : Rat) + ge F 0 * Ej (a + 1 + 1) (b) (c)) (ge F 1 * Ej (a + 1) (b + 1) (c)) (K:=700) (by omega) (bq o1 (by omega)) (bq (t 1 (a + 1) (b + 1) (c) (by omega)) (by omega)) w1)
  (fun w1=>P (a + 1) (b) (c + 1) (by omega) w1) (fun w1=>T 2 (a + 1) (b) (c + 1) (by omega) w1) (fun w1=>F7 ((((0 : Int) : Rat) + ge F 0 * Ej (a + 1 + 1) (b) (c)) + ge F 1 * Ej (a + 1) (b + 1) (c)) (ge F 2 * Ej (a + 1) (b) (c + 1)) (K:=700) (by omega) (bq o2 (by omega)) (bq (t 2 (a + 1) (b) (c + 1) (by omega)) (by omega)) w1)
  (fun w1=>P (a) (b + 1 + 1) (c) (by omega) w1) (fun w1=>T 3 (a) (b + 1 + 1) (c) (by omega) w1) (fun w1=>F7 (((((0 : Int) : Rat) + ge F 0 * Ej (a + 1 + 1) (b) (c)) + ge F 1 * Ej (a + 1) (b + 1) (c)) + ge F 2 * Ej (a + 1) (b) (c + 1)) (ge F 3 * Ej (a) (b + 1 + 1) (c)) (K:=700) (by omega) (bq o3 (by omega)) (bq (t 3 (a) (b + 1 + 1) (c) (by omega)) (by omega)) w1)
  (fun w1=>P (a) (b + 1) (c + 1) (by omega) w1) (fun w1=>T 4 (a) (b + 1) (c + 1) (by omega) w1) (fun w1=>F7 ((((((0 : Int) : Rat) + ge F 0 * Ej (a + 1 + 1) (b) (c)) + ge F 1 * Ej (a + 1) (b + 1) (c)) + ge F 2 * Ej (a + 1) (b) (c + 1)) + ge F 3 * Ej (a) (b + 1 + 1) (c)) (ge F 4 * Ej (a) (b + 1) (c + 1)) (K:=700) (by omega) (bq o4 (by omega)) (bq (t 4 (a) (b + 1) (c + 1) (by omega)) (by omega)) w1)
  (fun w1=>P (a) (b) (c + 1 + 1) (by omega) w1) (fun w1=>T 5 (a) (b) (c + 1 + 1) (by omega) w1) (fun w1=>F7 (((((((0 : Int) : Rat) + ge F 0 * Ej (a + 1 + 1) (b) (c)) + ge F 1 * Ej (a + 1) (b + 1) (c)) + ge F 2 * Ej (a + 1) (b) (c + 1)) + ge F 3 * Ej (a) (b + 1 + 1) (c)) + ge F 4 * Ej (a) (b + 1) (c + 1)) (ge F 5 * Ej (a) (b) (c + 1 + 1)) (K:=700) (by omega) (bq o5 (by omega)) (bq (t 5 (a) (b) (c + 1 + 1) (by omega)) (by omega)) w1)
theorem Bf6 (x : Rat) : rq (C7 x) = (Bo false (Bp x.num) (Bf x.den)):=by
 rcases Rat.le_total (a:=0) (b:=x) with h | h
 ·rw [Wf h]
  have : 0 ≤ x.num:=Rat.num_nonneg.2 h
  have e : Bs x.num = false:=by unfold Bs; exact decide_eq_false (by omega)
  simp only [rq,e]
 ·have h' : 0 ≤ -x:=by grind
  rw [← Ba4,Wf h']
  have : 0 ≤ (-x).num:=Rat.num_nonneg.2 h'
  have e : Bs (-x).num = false:=by unfold Bs; exact decide_eq_false (by omega)
  have e2 : Bp (-x).num = Bp x.num:=by unfold Bp; rw [Rat.neg_num,Int.natAbs_neg]
  simp only [rq,e,e2,Rat.neg_den]
theorem Pv {x0 z0 x1 z1 x2 z2 : Rat} (b0 : Bq x0 30) (c0 : Bq z0 30) (b1 : Bq x1 30) (c1 : Bq z1 30) (b2 : Bq x2 30) (c2 : Bq z2 30) (w : World) : Calls Tryz.prog 37 #[t18 x0 z0 x1 z1 x2 z2] w (Re w (rq (C7 ((x1 - x0) * (z2 - z0) - (z1 - z0) * (x2 - x0))))):=by
 rw [Bf6]
 exact To _ _ _ _ _ _ _ _ _ _ _ _ _ _ _ _ _ _ _ _ _ w (fun w1=>Bge x0 z0 x1 z1 x2 z2 (K:=30) (by omega) b0 c0 b1 c1 b2 c2 w1)
theorem pws : Ej 2 0 0 = 1 / 12∧Ej 0 2 0 = 1 / 12∧Ej 0 0 2 = 1 / 12∧Ej 1 1 0 = 1 / 24∧Ej 1 0 1 = 1 / 24∧Ej 0 1 1 = 1 / 24:=by decide +kernel
theorem pw3 : Ej 3 0 0 = 1 / 20∧Ej 0 3 0 = 1 / 20∧Ej 0 0 3 = 1 / 20∧Ej 2 1 0 = 1 / 60∧Ej 2 0 1 = 1 / 60∧Ej 1 2 0 = 1 / 60∧Ej 0 2 1 = 1 / 60∧Ej 1 0 2 = 1 / 60∧Ej 0 1 2 = 1 / 60∧Ej 1 1 1 = 1 / 120:=by decide +kernel
theorem pw4 : Ej 4 0 0 = 1 / 30∧Ej 0 4 0 = 1 / 30∧Ej 0 0 4 = 1 / 30∧Ej 3 1 0 = 1 / 120∧Ej 3 0 1 = 1 / 120∧Ej 1 3 0 = 1 / 120∧Ej 0 3 1 = 1 / 120∧Ej 1 0 3 = 1 / 120∧Ej 0 1 3 = 1 / 120∧Ej 2 2 0 = 1 / 180∧Ej 2 0 2 = 1 / 180∧Ej 0 2 2 = 1 / 180∧Ej 2 1 1 = 1 / 360∧Ej 1 2 1 = 1 / 360∧Ej 1 1 2 = 1 / 360:=by decide +kernel
theorem zr : (((0 : Int) : Rat)) = 0∧(((4 : Int) : Rat)) = 4:=⟨rfl,rfl⟩
theorem Bb8 : Rat.divInt 1 (120 : Nat) = 1 / 120∧Rat.divInt 1 (360 : Nat) = 1 / 360:=by decide +kernel
theorem Zp (F : Nat→Rat) : wg F 0 0 0 = C6 Yu F * Rat.divInt 1 (120 : Nat):=by
 obtain ⟨p1,p2,p3,p4,p5,p6⟩:=pws
 rw [Bgu,Bb8.1]
 unfold wg in6
 simp only [Nat.zero_add,Nat.reduceAdd,p1,p2,p3,p4,p5,p6,ge,zr.1,zr.2]
 grind
def sqr (F : Nat→Rat) : Rat:=((((((((0 : Int) : Rat) + ge F 0 * wg F 2 0 0) + ge F 1 * wg F 1 1 0) + ge F 2 * wg F 1 0 1) + ge F 3 * wg F 0 2 0) + ge F 4 * wg F 0 1 1) + ge F 5 * wg F 0 0 2)
theorem Vy (F : Nat→Rat) : wg F 1 0 0 = C6 (Eh 0) F * Rat.divInt 1 (120 : Nat):=by
 obtain ⟨p1,p2,p3,p4,p5,p6,p7,p8,p9,p10⟩:=pw3
 rw [Bb8.1]
 unfold wg C6
 simp [Eh,ldT,Nat.zero_add,Nat.reduceAdd,p1,p4,p5,p6,p8,p10,ge,zr.1,zr.2]
 grind
theorem Vx (F : Nat→Rat) : wg F 0 1 0 = C6 (Eh 1) F * Rat.divInt 1 (120 : Nat):=by
 obtain ⟨p1,p2,p3,p4,p5,p6,p7,p8,p9,p10⟩:=pw3
 rw [Bb8.1]
 unfold wg C6
 simp [Eh,ldT,Nat.zero_add,Nat.reduceAdd,p2,p4,p6,p7,p9,p10,ge,zr.1,zr.2]
 grind
theorem Vw (F : Nat→Rat) : wg F 0 0 1 = C6 (Eh 2) F * Rat.divInt 1 (120 : Nat):=by
 obtain ⟨p1,p2,p3,p4,p5,p6,p7,p8,p9,p10⟩:=pw3
 rw [Bb8.1]
 unfold wg C6
 simp [Eh,ldT,Nat.zero_add,Nat.reduceAdd,p3,p5,p7,p8,p9,p10,ge,zr.1,zr.2]
 grind
theorem Bfx (F : Nat→Rat) : sqr F = qs F * Rat.divInt 1 (360 : Nat):=by
 obtain ⟨p1,p2,p3,p4,p5,p6,p7,p8,p9,p10,p11,p12,p13,p14,p15⟩:=pw4
 rw [Bhd,Bb8.2]
 unfold sqr wg q6
 simp only [Nat.zero_add,Nat.reduceAdd,p1,p2,p3,p4,p5,p6,p7,p8,p9,p10,p11,p12,p13,p14,p15,ge,zr.1,zr.2]
 generalize F 0 = f0
 generalize F 1 = f1
 generalize F 2 = f2
 generalize F 3 = f3
 generalize F 4 = f4
 generalize F 5 = f5
 grind
theorem Bga {r : Nat→Rat} {x0 z0 x1 z1 x2 z2 : Rat} (hr : ∀ k,k < 6→Bq (r k) 30) (b0 : Bq x0 30) (c0 : Bq z0 30) (b1 : Bq x1 30) (c1 : Bq z1 30) (b2 : Bq x2 30) (c2 : Bq z2 30) (w : World) : Calls Tryz.prog 15 #[Qr r,t18 x0 z0 x1 z1 x2 z2] w (Re w (rq (C7 ((x1 - x0) * (z2 - z0) - (z1 - z0) * (x2 - x0)) * C6 Yu (Fn r (Cx x0 x1 x2 z0 z1 z2)) * Rat.divInt 1 (120 : Nat)))):=by
 have hs:=G6 x0 z0 x1 z1 x2 z2 b0 c0 b1 c1 b2 c2
 have ba:=Qg (Ol x0 z0 x1 z1 x2 z2 b0 c0 b1 c1 b2 c2)
 obtain ⟨ow,-,bd,hd⟩:=Mh hr hs 0 0 0 (by omega)
 have T:=fun w1=>C5 (C7 ((x1 - x0) * (z2 - z0) - (z1 - z0) * (x2 - x0))) (wg (Fn r (Cx x0 x1 x2 z0 z1 z2)) 0 0 0) (K:=700) (by omega) (Ci ba (by omega)) (ow.bq hd bd (by omega) (by omega)) w1
 rw [Zp,← Rat.mul_assoc] at T
 have G:=fun w1=>Lc hr b0 c0 b1 c1 b2 c2 0 0 0 (by omega) w1
 rw [Zp] at G
 exact Ud _ _ _ _ _ _ _ _ _ _ _ _ _ _ _ _ _ _ _ _ _ _ _ _ _ _ _ _ _ _ _ _ _ _ _ _ _ _ _ _ _ _ _ _ _ _ w (fun w1=>Pv b0 c0 b1 c1 b2 c2 w1) (fun w1=>U7 hr b0 c0 b1 c1 b2 c2 w1) (fun w1=>G w1) (fun w1=>T w1)
theorem Bf9 {r : Nat→Rat} {x0 z0 x1 z1 x2 z2 : Rat} (hr : ∀ k,k < 6→Bq (r k) 30) (b0 : Bq x0 30) (c0 : Bq z0 30) (b1 : Bq x1 30) (c1 : Bq z1 30) (b2 : Bq x2 30) (c2 : Bq z2 30) (w : World) : Calls Tryz.prog 16 #[Qr r,t18 x0 z0 x1 z1 x2 z2] w (Re w ((Wj (Bs (C7 ((x1 - x0) * (z2 - z0) - (z1 - z0) * (x2 - x0)) * C6 (Eh 0) (Fn r (Cx x0 x1 x2 z0 z1 z2)) * Rat.divInt 1 (120 : Nat)).num) (Bp (C7 ((x1 - x0) * (z2 - z0) - (z1 - z0) * (x2 - x0)) * C6 (Eh 0) (Fn r (Cx x0 x1 x2 z0 z1 z2)) * Rat.divInt 1 (120 : Nat)).num) (Bf (C7 ((x1 - x0) * (z2 - z0) - (z1 - z0) * (x2 - x0)) * C6 (Eh 0) (Fn r (Cx x0 x1 x2 z0 z1 z2)) * Rat.divInt 1 (120 : Nat)).den) (Bs (C7 ((x1 - x0) * (z2 - z0) - (z1 - z0) * (x2 - x0)) * C6 (Eh 1) (Fn r (Cx x0 x1 x2 z0 z1 z2)) * Rat.divInt 1 (120 : Nat)).num) (Bp (C7 ((x1 - x0) * (z2 - z0) - (z1 - z0) * (x2 - x0)) * C6 (Eh 1) (Fn r (Cx x0 x1 x2 z0 z1 z2)) * Rat.divInt 1 (120 : Nat)).num) (Bf (C7 ((x1 - x0) * (z2 - z0) - (z1 - z0) * (x2 - x0)) * C6 (Eh 1) (Fn r (Cx x0 x1 x2 z0 z1 z2)) * Rat.divInt 1 (120 : Nat)).den) (Bs (C7 ((x1 - x0) * (z2 - z0) - (z1 - z0) * (x2 - x0)) * C6 (Eh 2) (Fn r (Cx x0 x1 x2 z0 z1 z2)) * Rat.divInt 1 (120 : Nat)).num) (Bp (C7 ((x1 - x0) * (z2 - z0) - (z1 - z0) * (x2 - x0)) * C6 (Eh 2) (Fn r (Cx x0 x1 x2 z0 z1 z2)) * Rat.divInt 1 (120 : Nat)).num) (Bf (C7 ((x1 - x0) * (z2 - z0) - (z1 - z0) * (x2 - x0)) * C6 (Eh 2) (Fn r (Cx x0 x1 x2 z0 z1 z2)) * Rat.divInt 1 (120 : Nat)).den)))):=by
 have hs:=G6 x0 z0 x1 z1 x2 z2 b0 c0 b1 c1 b2 c2
 have ba:=Qg (Ol x0 z0 x1 z1 x2 z2 b0 c0 b1 c1 b2 c2)
 obtain ⟨ow0,-,bd0,hd0⟩:=Mh hr hs 1 0 0 (by omega)
 have T0:=fun w1=>C5 (C7 ((x1 - x0) * (z2 - z0) - (z1 - z0) * (x2 - x0))) (wg (Fn r (Cx x0 x1 x2 z0 z1 z2)) 1 0 0) (K:=700) (by omega) (Ci ba (by omega)) (ow0.bq hd0 bd0 (by omega) (by omega)) w1
 rw [Vy,← Rat.mul_assoc] at T0
 have G0:=fun w1=>Lc hr b0 c0 b1 c1 b2 c2 1 0 0 (by omega) w1
 rw [Vy] at G0
 obtain ⟨ow1,-,bd1,hd1⟩:=Mh hr hs 0 1 0 (by omega)
 have T1:=fun w1=>C5 (C7 ((x1 - x0) * (z2 - z0) - (z1 - z0) * (x2 - x0))) (wg (Fn r (Cx x0 x1 x2 z0 z1 z2)) 0 1 0) (K:=700) (by omega) (Ci ba (by omega)) (ow1.bq hd1 bd1 (by omega) (by omega)) w1
 rw [Vx,← Rat.mul_assoc] at T1
 have G1:=fun w1=>Lc hr b0 c0 b1 c1 b2 c2 0 1 0 (by omega) w1
 rw [Vx] at G1
 obtain ⟨ow2,-,bd2,hd2⟩:=Mh hr hs 0 0 1 (by omega)
 have T2:=fun w1=>C5 (C7 ((x1 - x0) * (z2 - z0) - (z1 - z0) * (x2 - x0))) (wg (Fn r (Cx x0 x1 x2 z0 z1 z2)) 0 0 1) (K:=700) (by omega) (Ci ba (by omega)) (ow2.bq hd2 bd2 (by omega) (by omega)) w1
 rw [Vw,← Rat.mul_assoc] at T2
 have G2:=fun w1=>Lc hr b0 c0 b1 c1 b2 c2 0 0 1 (by omega) w1
 rw [Vw] at G2
 exact Ua _ _ _ _ _ _ _ _ _ _ _ _ _ _ _ _ _ _ _ _ _ _ _ _ _ _ _ _ _ _ _ _ _ _ _ _ _ _ _ _ _ _ _ _ _ _ _ _ _ _ _ _ _ _ _ _ _ _ _ _ _ _ _ _ _ _ _ _ _ _ _ _ _ _ _ w (fun w1=>Pv b0 c0 b1 c1 b2 c2 w1) (fun w1=>U7 hr b0 c0 b1 c1 b2 c2 w1) (fun w1=>G0 w1) (fun w1=>T0 w1) (fun w1=>G1 w1) (fun w1=>T1 w1) (fun w1=>G2 w1) (fun w1=>T2 w1)
theorem Bf3 {r : Nat→Rat} {x0 z0 x1 z1 x2 z2 : Rat} (hr : ∀ k,k < 6→Bq (r k) 30) (b0 : Bq x0 30) (c0 : Bq z0 30) (b1 : Bq x1 30) (c1 : Bq z1 30) (b2 : Bq x2 30) (c2 : Bq z2 30) (w : World) : Calls Tryz.prog 17 #[Qr r,t18 x0 z0 x1 z1 x2 z2] w (Re w (rq (C7 ((x1 - x0) * (z2 - z0) - (z1 - z0) * (x2 - x0)) * qs (Fn r (Cx x0 x1 x2 z0 z1 z2)) * Rat.divInt 1 (360 : Nat)))):=by
 have hs:=G6 x0 z0 x1 z1 x2 z2 b0 c0 b1 c1 b2 c2
 have ba:=Qg (Ol x0 z0 x1 z1 x2 z2 b0 c0 b1 c1 b2 c2)
 have bg : ∀ j,Bq (ge (Fn r (Cx x0 x1 x2 z0 z1 z2)) j) 654:=(Mh hr hs 0 0 0 (by omega)).2.1
 have ow : ∀ a b c : Nat,a + b + c = 2→Ov (dn r (Cx x0 x1 x2 z0 z1 z2) * 720) 662 (wg (Fn r (Cx x0 x1 x2 z0 z1 z2)) a b c):=fun a b c e=>by
  have:=(Mh hr hs a b c (by omega)).1
  rw [e] at this
  exact this
 have bw : ∀ a b c : Nat,a + b + c = 2→Bq (wg (Fn r (Cx x0 x1 x2 z0 z1 z2)) a b c) 700:=fun a b c e=>by
  obtain ⟨o',-,bd,hd⟩:=Mh hr hs a b c (by omega)
  exact o'.bq hd bd (by omega) (by omega)
 have hdd : dn r (Cx x0 x1 x2 z0 z1 z2) * (dn r (Cx x0 x1 x2 z0 z1 z2) * 720) ≠ 0:=Int.mul_ne_zero (S7 _ _) (Int.mul_ne_zero (S7 _ _) (by omega))
 have bdd : Bd (dn r (Cx x0 x1 x2 z0 z1 z2) * (dn r (Cx x0 x1 x2 z0 z1 z2) * 720)) (545 + (545 + 2)):=(S8 hr hs).mul ((S8 hr hs).mul (by unfold Bd; omega))
 have t : ∀ j a b c,a + b + c = 2→Ov (dn r (Cx x0 x1 x2 z0 z1 z2) * (dn r (Cx x0 x1 x2 z0 z1 z2) * 720)) (654 + 662) (ge (Fn r (Cx x0 x1 x2 z0 z1 z2)) j * wg (Fn r (Cx x0 x1 x2 z0 z1 z2)) a b c):=fun j a b c e=>(Wz hr hs j).mul (ow a b c e)
 have G : ∀ a b c : Nat,a + b + c ≤ 2→∀ w1,_:=fun a b c e w1=>Lc hr b0 c0 b1 c1 b2 c2 a b c e w1
 have e0:=Bfx (Fn r (Cx x0 x1 x2 z0 z1 z2))
 generalize hF : (Fn r (Cx x0 x1 x2 z0 z1 z2)) = F at *
 obtain ⟨o1,o2,o3,o4,o5,o6⟩:=Ov.sum7 (t 0 2 0 0 (by omega)) (t 1 1 1 0 (by omega)) (t 2 1 0 1 (by omega)) (t 3 0 2 0 (by omega)) (t 4 0 1 1 (by omega)) (t 5 0 0 2 (by omega))
 have o0:=Ov.zero (dn r (Cx x0 x1 x2 z0 z1 z2) * (dn r (Cx x0 x1 x2 z0 z1 z2) * 720)) (654 + 662)
 have bq : ∀ {M : Nat} {x : Rat},Ov (dn r (Cx x0 x1 x2 z0 z1 z2) * (dn r (Cx x0 x1 x2 z0 z1 z2) * 720)) M x→M ≤ 1400→Bq x 1400:=fun ox hM=>ox.bq hdd bdd hM (by omega)
 have R:=fun w1=>C5 (C7 ((x1 - x0) * (z2 - z0) - (z1 - z0) * (x2 - x0))) (sqr F) (K:=1400) (by omega) (Ci ba (by omega)) (bq o6 (by omega)) w1
 rw [show C7 ((x1 - x0) * (z2 - z0) - (z1 - z0) * (x2 - x0)) * sqr F = C7 ((x1 - x0) * (z2 - z0) - (z1 - z0) * (x2 - x0)) * qs F * Rat.divInt 1 (360 : Nat) by rw [e0,Rat.mul_assoc]] at R
 unfold sqr at R
 exact Tz _ _ _ _ _ _ _ _ _ _ _ _ _ _ _ _ _ _ _ _ _ _ _ _ _ _ _ _ _ _ _ _ _ _ _ _ _ _ _ _ _ _ _ _ _ _ _ _ _ _ _ _ _ _ _ _ _ _ _ _ _ _ _ _ _ _ _ _ _ _ _ _ _ _ _ _ _ _ _ _ _ _ _ _ _ _ _ _ _ _ _ _ _ _ _ _ _ _ _ _ _ _ _ _ _ _ _ _ _ _ _ _ _ _ _ _ _ w (fun w1=>Pv b0 c0 b1 c1 b2 c2 w1) (fun w1=>by rw [← hF]; exact U7 hr b0 c0 b1 c1 b2 c2 w1) (fun w1=>Bgg 0 (by omega) (by omega) w1)
  (fun w1=>G 2 0 0 (by omega) w1) (fun w1=>C5 (ge F 0) (wg F 2 0 0) (K:=700) (by omega) (Ci (bg 0) (by omega)) (bw 2 0 0 (by omega)) w1) (fun w1=>F7 ((0 : Int) : Rat) (ge F 0 * wg F 2 0 0) (K:=1400) (by omega) (bq o0 (by omega)) (bq (t 0 2 0 0 (by omega)) (by omega)) w1)
  (fun w1=>G 1 1 0 (by omega) w1) (fun w1=>C5 (ge F 1) (wg F 1 1 0) (K:=700) (by omega) (Ci (bg 1) (by omega)) (bw 1 1 0 (by omega)) w1) (fun w1=>F7 (((0 : Int) : Rat) + ge F 0 * wg F 2 0 0) (ge F 1 * wg F 1 1 0) (K:=1400) (by omega) (bq o1 (by omega)) (bq (t 1 1 1 0 (by omega)) (by omega)) w1)
  (fun w1=>G 1 0 1 (by omega) w1) (fun w1=>C5 (ge F 2) (wg F 1 0 1) (K:=700) (by omega) (Ci (bg 2) (by omega)) (bw 1 0 1 (by omega)) w1) (fun w1=>F7 ((((0 : Int) : Rat) + ge F 0 * wg F 2 0 0) + ge F 1 * wg F 1 1 0) (ge F 2 * wg F 1 0 1) (K:=1400) (by omega) (bq o2 (by omega)) (bq (t 2 1 0 1 (by omega)) (by omega)) w1)
  (fun w1=>G 0 2 0 (by omega) w1) (fun w1=>C5 (ge F 3) (wg F 0 2 0) (K:=700) (by omega) (Ci (bg 3) (by omega)) (bw 0 2 0 (by omega)) w1) (fun w1=>F7 (((((0 : Int) : Rat) + ge F 0 * wg F 2 0 0) + ge F 1 * wg F 1 1 0) + ge F 2 * wg F 1 0 1) (ge F 3 * wg F 0 2 0) (K:=1400) (by omega) (bq o3 (by omega)) (bq (t 3 0 2 0 (by omega)) (by omega)) w1)
  (fun w1=>G 0 1 1 (by omega) w1) (fun w1=>C5 (ge F 4) (wg F 0 1 1) (K:=700) (by omega) (Ci (bg 4) (by omega)) (bw 0 1 1 (by omega)) w1) (fun w1=>F7 ((((((0 : Int) : Rat) + ge F 0 * wg F 2 0 0) + ge F 1 * wg F 1 1 0) + ge F 2 * wg F 1 0 1) + ge F 3 * wg F 0 2 0) (ge F 4 * wg F 0 1 1) (K:=1400) (by omega) (bq o4 (by omega)) (bq (t 4 0 1 1 (by omega)) (by omega)) w1)
  (fun w1=>G 0 0 2 (by omega) w1) (fun w1=>C5 (ge F 5) (wg F 0 0 2) (K:=700) (by omega) (Ci (bg 5) (by omega)) (bw 0 0 2 (by omega)) w1) (fun w1=>F7 (((((((0 : Int) : Rat) + ge F 0 * wg F 2 0 0) + ge F 1 * wg F 1 1 0) + ge F 2 * wg F 1 0 1) + ge F 3 * wg F 0 2 0) + ge F 4 * wg F 0 1 1) (ge F 5 * wg F 0 0 2) (K:=1400) (by omega) (bq o5 (by omega)) (bq (t 5 0 0 2 (by omega)) (by omega)) w1)
  (fun w1=>R w1)
end Go.Proofs.YtnplifkgeeicjaaGreatDoor
