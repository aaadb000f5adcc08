import Derived.ChangeKeysEq
import Derived.Test.YtnplifkgeeicjaaGreatDoorQ49
set_option maxRecDepth 100000
set_option maxHeartbeats 16000000
namespace Go.Proofs.YtnplifkgeeicjaaGreatDoor
open Go.RowKit
theorem Bhw (b0 b1 b2 : Bool) (s0 d0 s1 d1 s2 d2 : ByteArray) (w1 : World) : (Op.equalIn 10000 37 ((Wj b0 s0 d0 b1 s1 d1 b2 s2 d2)) ((Wj b0 s0 d0 b1 s1 d1 b2 s2 d2))).run Tryz.prog w1 = .ok true w1:=by
 have hm : (Tryz.prog.info? 26).isSome = true:=by kernel_rfl
 obtain ⟨i,hi⟩:=Option.isSome_iff_exists.1 hm
 have hc : Tryz.prog.cellsOf 26 = 3:=by kernel_rfl
 rw [show (10000 : Nat) = 9999 + 1 from rfl,run_equalIn_array w1 9999 _ _ Tryz.underlying37 hi,hc,show List.range 3 = [0,1,2] from rfl]
 clear hm hi hc
 simp only [Op.eqItems]
 go_simp
theorem Bgs (n0 n1 n2 n3 n4 n5 p0 p1 p2 p3 p4 p5 : Bool) (s0 d0 s1 d1 s2 d2 s3 d3 s4 d4 s5 d5 q0 r0 q1 r1 q2 r2 q3 r3 q4 r4 q5 r5 : ByteArray) (w : World)
  (HF : Hid (∀ w1,Below w.heap.size w w1→Calls Tryz.prog 9 #[(Cp n0 s0 d0 n1 s1 d1 n2 s2 d2 n3 s3 d3 n4 s4 d4 n5 s5 d5),(Cp p0 q0 r0 p1 q1 r1 p2 q2 r2 p3 q3 r3 p4 q4 r4 p5 q5 r5)] w1 (Re w1 (Iz false))))
  (HL : Hid (∀ w1,Below w.heap.size w w1→Calls Tryz.prog 10 #[] w1 (Re w1 (Iz true)))) :
  Calls Tryz.prog 3 #[(Cp n0 s0 d0 n1 s1 d1 n2 s2 d2 n3 s3 d3 n4 s4 d4 n5 s5 d5),(Cp p0 q0 r0 p1 q1 r1 p2 q2 r2 p3 q3 r3 p4 q4 r4 p5 q5 r5)] w (Re w (Iz true)):=by
 go_enter Tryz.func3,Tryz.ntmps3
 go_upto_region 1 with fail
 obtain ⟨w0,hq,kf,kt,bb⟩:=Gx w (Di n0 s0 d0 n1 s1 d1 n2 s2 d2 n3 s3 d3 n4 s4 d4 n5 s5 d5) (Di p0 q0 r0 p1 q1 r1 p2 q2 r2 p3 q3 r3 p4 q4 r4 p5 q5 r5) 28 31
 rw [← hq]
 clear hq
 go_wp2_with (first | (refine Je rfl 28 _ rfl _ rfl 28 _ (0,0) _ kf Tryz.underlying28 rfl (by kernel_rfl) ?_) | (refine Je rfl 31 _ rfl _ rfl 31 _ (0,0) _ kt Tryz.underlying31 rfl (by kernel_rfl) ?_))
 go_fit (HF.out _ bb)
 rintro e w1 ⟨rfl,b1⟩
 replace kf:=kf.b b1
 replace kt:=kt.b b1
 replace bb:=Ia bb b1
 clear b1
 clear kf kt
 go_wp2_with fail
 go_fit (HL.out _ bb)
 rintro e w9 ⟨rfl,b1⟩
 replace bb:=Ia bb b1
 clear b1
 go_wp2
 go_ret
 exact ⟨rfl,bb⟩
theorem Bbw (n0 n1 n2 n3 n4 n5 p0 p1 p2 p3 p4 p5 : Bool) (s0 d0 s1 d1 s2 d2 s3 d3 s4 d4 s5 d5 q0 r0 q1 r1 q2 r2 q3 r3 q4 r4 q5 r5 : ByteArray) (E : Int) (hE : ¬ E = 0) (w : World)
  (HF : Hid (∀ w1,Below w.heap.size w w1→Calls Tryz.prog 9 #[(Cp n0 s0 d0 n1 s1 d1 n2 s2 d2 n3 s3 d3 n4 s4 d4 n5 s5 d5),(Cp p0 q0 r0 p1 q1 r1 p2 q2 r2 p3 q3 r3 p4 q4 r4 p5 q5 r5)] w1 (Re w1 (Iz true))))
  (HT : Hid (∀ w1,Below w.heap.size w w1→Calls Tryz.prog 14 #[(Cp n0 s0 d0 n1 s1 d1 n2 s2 d2 n3 s3 d3 n4 s4 d4 n5 s5 d5),(Cp p0 q0 r0 p1 q1 r1 p2 q2 r2 p3 q3 r3 p4 q4 r4 p5 q5 r5)] w1 (Re w1 (.int .i64 E))))
  (HL : Hid (∀ w1,Below w.heap.size w w1→Calls Tryz.prog 10 #[] w1 (Re w1 (Iz true))))
  (I1 : Hid (∀ w1,Below w.heap.size w w1→Calls Tryz.prog 11 #[(Cp n0 s0 d0 n1 s1 d1 n2 s2 d2 n3 s3 d3 n4 s4 d4 n5 s5 d5),(B4 p0 q0 r0 p1 q1 r1),(B4 p2 q2 r2 p3 q3 r3),(B4 p4 q4 r4 p5 q5 r5)] w1 (Re w1 (.tuple #[(Bo false eB eB),.int .i64 E]))))
  (L1 : Hid (∀ w1,Below w.heap.size w w1→Calls Tryz.prog 12 #[(Cp n0 s0 d0 n1 s1 d1 n2 s2 d2 n3 s3 d3 n4 s4 d4 n5 s5 d5),(B4 p0 q0 r0 p1 q1 r1),(B4 p2 q2 r2 p3 q3 r3),(B4 p4 q4 r4 p5 q5 r5)] w1 (Re w1 (.tuple #[(Wj false eB eB false eB eB false eB eB),.int .i64 E]))))
  (S1 : Hid (∀ w1,Below w.heap.size w w1→Calls Tryz.prog 13 #[(Cp n0 s0 d0 n1 s1 d1 n2 s2 d2 n3 s3 d3 n4 s4 d4 n5 s5 d5),(B4 p0 q0 r0 p1 q1 r1),(B4 p2 q2 r2 p3 q3 r3),(B4 p4 q4 r4 p5 q5 r5)] w1 (Re w1 (.tuple #[(Bo false eB eB),.int .i64 E])))) :
  Calls Tryz.prog 3 #[(Cp n0 s0 d0 n1 s1 d1 n2 s2 d2 n3 s3 d3 n4 s4 d4 n5 s5 d5),(Cp p0 q0 r0 p1 q1 r1 p2 q2 r2 p3 q3 r3 p4 q4 r4 p5 q5 r5)] w (Re w (Iz true)):=by
 go_enter Tryz.func3,Tryz.ntmps3
 go_upto_region 1 with fail
 obtain ⟨w0,hq,kf,kt,bb⟩:=Gx w (Di n0 s0 d0 n1 s1 d1 n2 s2 d2 n3 s3 d3 n4 s4 d4 n5 s5 d5) (Di p0 q0 r0 p1 q1 r1 p2 q2 r2 p3 q3 r3 p4 q4 r4 p5 q5 r5) 28 31
 rw [← hq]
 clear hq
 go_wp2_with (first | (refine Je rfl 28 _ rfl _ rfl 28 _ (0,0) _ kf Tryz.underlying28 rfl (by kernel_rfl) ?_) | (refine Je rfl 31 _ rfl _ rfl 31 _ (0,0) _ kt Tryz.underlying31 rfl (by kernel_rfl) ?_))
 go_fit (HF.out _ bb)
 rintro e w1 ⟨rfl,b1⟩
 replace kf:=kf.b b1
 replace kt:=kt.b b1
 replace bb:=Ia bb b1
 clear b1
 go_wp2_with (first | (refine Je rfl 28 _ rfl _ rfl 28 _ (0,0) _ kf Tryz.underlying28 rfl (by kernel_rfl) ?_) | (refine wpList_load_mid rfl 30 _ rfl (w.heap.size + 1) 0 rfl (Cn p0 q0 r0 p1 q1 r1) _ (kt.rg 0 (Cn p0 q0 r0 p1 q1 r1) [Iz p2,I q2,I r2,Iz p3,I q3,I r3,Iz p4,I q4,I r4,Iz p5,I q5,I r5] rfl) Tryz.underlying30 rfl (by kernel_rfl) ?_) | (refine wpList_load_mid rfl 30 _ rfl (w.heap.size + 1) 6 rfl (Cn p2 q2 r2 p3 q3 r3) _ (kt.rg 6 (Cn p2 q2 r2 p3 q3 r3) (Cn p4 q4 r4 p5 q5 r5) rfl) Tryz.underlying30 rfl (by kernel_rfl) ?_) | (refine wpList_load_mid rfl 30 _ rfl (w.heap.size + 1) 12 rfl (Cn p4 q4 r4 p5 q5 r5) _ (kt.rg 12 (Cn p4 q4 r4 p5 q5 r5) [] rfl) Tryz.underlying30 rfl (by kernel_rfl) ?_))
 go_fit (I1.out _ bb)
 rintro e w2 ⟨rfl,b1⟩
 replace kf:=kf.b b1
 replace kt:=kt.b b1
 replace bb:=Ia bb b1
 clear b1
 go_upto_region 4 with fail
 obtain ⟨v2,hq,ka,b1⟩:=D7 w2 (Bx false eB eB) 26
 rw [← hq]
 clear hq
 replace kf:=kf.b b1
 replace kt:=kt.b b1
 replace bb:=Ia bb b1
 clear b1
 go_wp2_with (first | (refine Je rfl 28 _ rfl _ rfl 28 _ (0,0) _ kf Tryz.underlying28 rfl (by kernel_rfl) ?_) | (refine wpList_load_mid rfl 30 _ rfl (w.heap.size + 1) 0 rfl (Cn p0 q0 r0 p1 q1 r1) _ (kt.rg 0 (Cn p0 q0 r0 p1 q1 r1) [Iz p2,I q2,I r2,Iz p3,I q3,I r3,Iz p4,I q4,I r4,Iz p5,I q5,I r5] rfl) Tryz.underlying30 rfl (by kernel_rfl) ?_) | (refine wpList_load_mid rfl 30 _ rfl (w.heap.size + 1) 6 rfl (Cn p2 q2 r2 p3 q3 r3) _ (kt.rg 6 (Cn p2 q2 r2 p3 q3 r3) (Cn p4 q4 r4 p5 q5 r5) rfl) Tryz.underlying30 rfl (by kernel_rfl) ?_) | (refine wpList_load_mid rfl 30 _ rfl (w.heap.size + 1) 12 rfl (Cn p4 q4 r4 p5 q5 r5) _ (kt.rg 12 (Cn p4 q4 r4 p5 q5 r5) [] rfl) Tryz.underlying30 rfl (by kernel_rfl) ?_))
 go_fit (L1.out _ bb)
 rintro e w3 ⟨rfl,b1⟩
 replace kf:=kf.b b1
 replace kt:=kt.b b1
 replace ka:=ka.b b1
 replace bb:=Ia bb b1
 clear b1
 go_upto_region 5 with fail
 obtain ⟨v3,hq,kx,b1⟩:=D7 w3 (Oz false eB eB false eB eB false eB eB) 37
 rw [← hq]
 clear hq
 replace kf:=kf.b b1
 replace kt:=kt.b b1
 replace ka:=ka.b b1
 replace bb:=Ia bb b1
 clear b1
 go_wp2_with (first | (refine Je rfl 28 _ rfl _ rfl 28 _ (0,0) _ kf Tryz.underlying28 rfl (by kernel_rfl) ?_) | (refine wpList_load_mid rfl 30 _ rfl (w.heap.size + 1) 0 rfl (Cn p0 q0 r0 p1 q1 r1) _ (kt.rg 0 (Cn p0 q0 r0 p1 q1 r1) [Iz p2,I q2,I r2,Iz p3,I q3,I r3,Iz p4,I q4,I r4,Iz p5,I q5,I r5] rfl) Tryz.underlying30 rfl (by kernel_rfl) ?_) | (refine wpList_load_mid rfl 30 _ rfl (w.heap.size + 1) 6 rfl (Cn p2 q2 r2 p3 q3 r3) _ (kt.rg 6 (Cn p2 q2 r2 p3 q3 r3) (Cn p4 q4 r4 p5 q5 r5) rfl) Tryz.underlying30 rfl (by kernel_rfl) ?_) | (refine wpList_load_mid rfl 30 _ rfl (w.heap.size + 1) 12 rfl (Cn p4 q4 r4 p5 q5 r5) _ (kt.rg 12 (Cn p4 q4 r4 p5 q5 r5) [] rfl) Tryz.underlying30 rfl (by kernel_rfl) ?_))
 go_fit (S1.out _ bb)
 rintro e w4 ⟨rfl,b1⟩
 replace kf:=kf.b b1
 replace kt:=kt.b b1
 replace ka:=ka.b b1
 replace kx:=kx.b b1
 replace bb:=Ia bb b1
 clear b1
 go_upto_region 6 with fail
 obtain ⟨v4,hq,ks,b1⟩:=D7 w4 (Bx false eB eB) 26
 rw [← hq]
 clear hq
 replace kf:=kf.b b1
 replace kt:=kt.b b1
 replace ka:=ka.b b1
 replace kx:=kx.b b1
 replace bb:=Ia bb b1
 clear b1
 go_wp2_with (first | (refine Je rfl 28 _ rfl _ rfl 28 _ (0,0) _ kf Tryz.underlying28 rfl (by kernel_rfl) ?_) | (refine Je rfl 31 _ rfl _ rfl 31 _ (0,0) _ kt Tryz.underlying31 rfl (by kernel_rfl) ?_))
 go_fit (HT.out _ bb)
 rintro e w5 ⟨rfl,b1⟩
 replace kf:=kf.b b1
 replace kt:=kt.b b1
 replace ka:=ka.b b1
 replace kx:=kx.b b1
 replace ks:=ks.b b1
 replace bb:=Ia bb b1
 clear b1
 have he:=Bhw false false false { data:=#[] } { data:=#[] } { data:=#[] } { data:=#[] } { data:=#[] } { data:=#[] }
 clear kf kt
 go_wp2_with (first | (refine Je rfl 26 _ rfl _ rfl 26 _ (0,0) _ ka Tryz.underlying26 rfl (by kernel_rfl) ?_) | (refine Gp (by rfl) 37 _ rfl _ rfl 37 _ (0,0) _ kx Tryz.underlying37 rfl (by kernel_rfl) ?_) | (refine Gp (by rfl) 26 _ rfl _ rfl 26 _ (0,0) _ ks Tryz.underlying26 rfl (by kernel_rfl) ?_))
 go_fit (HL.out _ bb)
 rintro e w9 ⟨rfl,b1⟩
 replace bb:=Ia bb b1
 clear b1 ka kx ks
 go_wp2
 go_ret
 exact ⟨rfl,bb⟩
theorem Bek (n0 n1 n2 n3 n4 n5 p0 p1 p2 p3 p4 p5 : Bool) (s0 d0 s1 d1 s2 d2 s3 d3 s4 d4 s5 d5 q0 r0 q1 r1 q2 r2 q3 r3 q4 r4 q5 r5 : ByteArray) (aN l0N l1N l2N cN : Bool) (aS aD l0S l0D l1S l1D l2S l2D cS cD : ByteArray) (w : World)
  (HF : Hid (∀ w1,Below w.heap.size w w1→Calls Tryz.prog 9 #[(Cp n0 s0 d0 n1 s1 d1 n2 s2 d2 n3 s3 d3 n4 s4 d4 n5 s5 d5),(Cp p0 q0 r0 p1 q1 r1 p2 q2 r2 p3 q3 r3 p4 q4 r4 p5 q5 r5)] w1 (Re w1 (Iz true))))
  (HT : Hid (∀ w1,Below w.heap.size w w1→Calls Tryz.prog 14 #[(Cp n0 s0 d0 n1 s1 d1 n2 s2 d2 n3 s3 d3 n4 s4 d4 n5 s5 d5),(Cp p0 q0 r0 p1 q1 r1 p2 q2 r2 p3 q3 r3 p4 q4 r4 p5 q5 r5)] w1 (Re w1 (.int .i64 0))))
  (HL : Hid (∀ w1,Below w.heap.size w w1→Calls Tryz.prog 10 #[] w1 (Re w1 (Iz true))))
  (I1 : Hid (∀ w1,Below w.heap.size w w1→Calls Tryz.prog 11 #[(Cp n0 s0 d0 n1 s1 d1 n2 s2 d2 n3 s3 d3 n4 s4 d4 n5 s5 d5),(B4 p0 q0 r0 p1 q1 r1),(B4 p2 q2 r2 p3 q3 r3),(B4 p4 q4 r4 p5 q5 r5)] w1 (Re w1 (.tuple #[(Bo aN aS aD),.int .i64 0]))))
  (L1 : Hid (∀ w1,Below w.heap.size w w1→Calls Tryz.prog 12 #[(Cp n0 s0 d0 n1 s1 d1 n2 s2 d2 n3 s3 d3 n4 s4 d4 n5 s5 d5),(B4 p0 q0 r0 p1 q1 r1),(B4 p2 q2 r2 p3 q3 r3),(B4 p4 q4 r4 p5 q5 r5)] w1 (Re w1 (.tuple #[(Wj l0N l0S l0D l1N l1S l1D l2N l2S l2D),.int .i64 0]))))
  (S1 : Hid (∀ w1,Below w.heap.size w w1→Calls Tryz.prog 13 #[(Cp n0 s0 d0 n1 s1 d1 n2 s2 d2 n3 s3 d3 n4 s4 d4 n5 s5 d5),(B4 p0 q0 r0 p1 q1 r1),(B4 p2 q2 r2 p3 q3 r3),(B4 p4 q4 r4 p5 q5 r5)] w1 (Re w1 (.tuple #[(Bo cN cS cD),.int .i64 0]))))
  (J1 : Hid (∀ w1,Calls Tryz.prog 15 #[(Cp n0 s0 d0 n1 s1 d1 n2 s2 d2 n3 s3 d3 n4 s4 d4 n5 s5 d5),(Cp p0 q0 r0 p1 q1 r1 p2 q2 r2 p3 q3 r3 p4 q4 r4 p5 q5 r5)] w1 (Re w1 ((Bo aN aS aD)))))
  (J2 : Hid (∀ w1,Calls Tryz.prog 16 #[(Cp n0 s0 d0 n1 s1 d1 n2 s2 d2 n3 s3 d3 n4 s4 d4 n5 s5 d5),(Cp p0 q0 r0 p1 q1 r1 p2 q2 r2 p3 q3 r3 p4 q4 r4 p5 q5 r5)] w1 (Re w1 ((Wj l0N l0S l0D l1N l1S l1D l2N l2S l2D)))))
  (J3 : Hid (∀ w1,Calls Tryz.prog 17 #[(Cp n0 s0 d0 n1 s1 d1 n2 s2 d2 n3 s3 d3 n4 s4 d4 n5 s5 d5),(Cp p0 q0 r0 p1 q1 r1 p2 q2 r2 p3 q3 r3 p4 q4 r4 p5 q5 r5)] w1 (Re w1 ((Bo cN cS cD))))) :
  Calls Tryz.prog 3 #[(Cp n0 s0 d0 n1 s1 d1 n2 s2 d2 n3 s3 d3 n4 s4 d4 n5 s5 d5),(Cp p0 q0 r0 p1 q1 r1 p2 q2 r2 p3 q3 r3 p4 q4 r4 p5 q5 r5)] w (Re w (Iz true)):=by
 go_enter Tryz.func3,Tryz.ntmps3
 go_upto_region 1 with fail
 obtain ⟨w0,hq,kf,kt,bb⟩:=Gx w (Di n0 s0 d0 n1 s1 d1 n2 s2 d2 n3 s3 d3 n4 s4 d4 n5 s5 d5) (Di p0 q0 r0 p1 q1 r1 p2 q2 r2 p3 q3 r3 p4 q4 r4 p5 q5 r5) 28 31
 rw [← hq]
 clear hq
 go_wp2_with (first | (refine Je rfl 28 _ rfl _ rfl 28 _ (0,0) _ kf Tryz.underlying28 rfl (by kernel_rfl) ?_) | (refine Je rfl 31 _ rfl _ rfl 31 _ (0,0) _ kt Tryz.underlying31 rfl (by kernel_rfl) ?_))
 go_fit (HF.out _ bb)
 rintro e w1 ⟨rfl,b1⟩
 replace kf:=kf.b b1
 replace kt:=kt.b b1
 replace bb:=Ia bb b1
 clear b1
 go_wp2_with (first | (refine Je rfl 28 _ rfl _ rfl 28 _ (0,0) _ kf Tryz.underlying28 rfl (by kernel_rfl) ?_) | (refine wpList_load_mid rfl 30 _ rfl (w.heap.size + 1) 0 rfl (Cn p0 q0 r0 p1 q1 r1) _ (kt.rg 0 (Cn p0 q0 r0 p1 q1 r1) [Iz p2,I q2,I r2,Iz p3,I q3,I r3,Iz p4,I q4,I r4,Iz p5,I q5,I r5] rfl) Tryz.underlying30 rfl (by kernel_rfl) ?_) | (refine wpList_load_mid rfl 30 _ rfl (w.heap.size + 1) 6 rfl (Cn p2 q2 r2 p3 q3 r3) _ (kt.rg 6 (Cn p2 q2 r2 p3 q3 r3) (Cn p4 q4 r4 p5 q5 r5) rfl) Tryz.underlying30 rfl (by kernel_rfl) ?_) | (refine wpList_load_mid rfl 30 _ rfl (w.heap.size + 1) 12 rfl (Cn p4 q4 r4 p5 q5 r5) _ (kt.rg 12 (Cn p4 q4 r4 p5 q5 r5) [] rfl) Tryz.underlying30 rfl (by kernel_rfl) ?_))
 go_fit (I1.out _ bb)
 rintro e w2 ⟨rfl,b1⟩
 replace kf:=kf.b b1
 replace kt:=kt.b b1
 replace bb:=Ia bb b1
 clear b1
 go_upto_region 4 with fail
 obtain ⟨v2,hq,ka,b1⟩:=D7 w2 (Bx aN aS aD) 26
 rw [← hq]
 clear hq
 replace kf:=kf.b b1
 replace kt:=kt.b b1
 replace bb:=Ia bb b1
 clear b1
 go_wp2_with (first | (refine Je rfl 28 _ rfl _ rfl 28 _ (0,0) _ kf Tryz.underlying28 rfl (by kernel_rfl) ?_) | (refine wpList_load_mid rfl 30 _ rfl (w.heap.size + 1) 0 rfl (Cn p0 q0 r0 p1 q1 r1) _ (kt.rg 0 (Cn p0 q0 r0 p1 q1 r1) [Iz p2,I q2,I r2,Iz p3,I q3,I r3,Iz p4,I q4,I r4,Iz p5,I q5,I r5] rfl) Tryz.underlying30 rfl (by kernel_rfl) ?_) | (refine wpList_load_mid rfl 30 _ rfl (w.heap.size + 1) 6 rfl (Cn p2 q2 r2 p3 q3 r3) _ (kt.rg 6 (Cn p2 q2 r2 p3 q3 r3) (Cn p4 q4 r4 p5 q5 r5) rfl) Tryz.underlying30 rfl (by kernel_rfl) ?_) | (refine wpList_load_mid rfl 30 _ rfl (w.heap.size + 1) 12 rfl (Cn p4 q4 r4 p5 q5 r5) _ (kt.rg 12 (Cn p4 q4 r4 p5 q5 r5) [] rfl) Tryz.underlying30 rfl (by kernel_rfl) ?_))
 go_fit (L1.out _ bb)
 rintro e w3 ⟨rfl,b1⟩
 replace kf:=kf.b b1
 replace kt:=kt.b b1
 replace ka:=ka.b b1
 replace bb:=Ia bb b1
 clear b1
 go_upto_region 5 with fail
 obtain ⟨v3,hq,kx,b1⟩:=D7 w3 (Oz l0N l0S l0D l1N l1S l1D l2N l2S l2D) 37
 rw [← hq]
 clear hq
 replace kf:=kf.b b1
 replace kt:=kt.b b1
 replace ka:=ka.b b1
 replace bb:=Ia bb b1
 clear b1
 go_wp2_with (first | (refine Je rfl 28 _ rfl _ rfl 28 _ (0,0) _ kf Tryz.underlying28 rfl (by kernel_rfl) ?_) | (refine wpList_load_mid rfl 30 _ rfl (w.heap.size + 1) 0 rfl (Cn p0 q0 r0 p1 q1 r1) _ (kt.rg 0 (Cn p0 q0 r0 p1 q1 r1) [Iz p2,I q2,I r2,Iz p3,I q3,I r3,Iz p4,I q4,I r4,Iz p5,I q5,I r5] rfl) Tryz.underlying30 rfl (by kernel_rfl) ?_) | (refine wpList_load_mid rfl 30 _ rfl (w.heap.size + 1) 6 rfl (Cn p2 q2 r2 p3 q3 r3) _ (kt.rg 6 (Cn p2 q2 r2 p3 q3 r3) (Cn p4 q4 r4 p5 q5 r5) rfl) Tryz.underlying30 rfl (by kernel_rfl) ?_) | (refine wpList_load_mid rfl 30 _ rfl (w.heap.size + 1) 12 rfl (Cn p4 q4 r4 p5 q5 r5) _ (kt.rg 12 (Cn p4 q4 r4 p5 q5 r5) [] rfl) Tryz.underlying30 rfl (by kernel_rfl) ?_))
 go_fit (S1.out _ bb)
 rintro e w4 ⟨rfl,b1⟩
 replace kf:=kf.b b1
 replace kt:=kt.b b1
 replace ka:=ka.b b1
 replace kx:=kx.b b1
 replace bb:=Ia bb b1
 clear b1
 go_upto_region 6 with fail
 obtain ⟨v4,hq,ks,b1⟩:=D7 w4 (Bx cN cS cD) 26
 rw [← hq]
 clear hq
 replace kf:=kf.b b1
 replace kt:=kt.b b1
 replace ka:=ka.b b1
 replace kx:=kx.b b1
 replace bb:=Ia bb b1
 clear b1
 go_wp2_with (first | (refine Je rfl 28 _ rfl _ rfl 28 _ (0,0) _ kf Tryz.underlying28 rfl (by kernel_rfl) ?_) | (refine Je rfl 31 _ rfl _ rfl 31 _ (0,0) _ kt Tryz.underlying31 rfl (by kernel_rfl) ?_))
 go_fit (HT.out _ bb)
 rintro e w5 ⟨rfl,b1⟩
 replace kf:=kf.b b1
 replace kt:=kt.b b1
 replace ka:=ka.b b1
 replace kx:=kx.b b1
 replace ks:=ks.b b1
 replace bb:=Ia bb b1
 clear b1
 go_upto_region 11 with fail
 have he:=Bhw l0N l1N l2N l0S l0D l1S l1D l2S l2D
 have bd:=Cd w5
 replace kf:=kf.b bd
 replace kt:=kt.b bd
 replace ka:=ka.b bd
 replace kx:=kx.b bd
 replace ks:=ks.b bd
 replace bb:=Ia bb bd
 clear bd
 refine Jc (S:=fun w'=>w'.rangeAt (w2.heap.size) 0 (Bx aN aS aD)∧w'.rangeAt (w3.heap.size) 0 (Oz l0N l0S l0D l1N l1S l1D l2N l2S l2D)∧w'.rangeAt (w4.heap.size) 0 (Bx cN cS cD)∧w'.rangeAt (w.heap.size) 0 (Di n0 s0 d0 n1 s1 d1 n2 s2 d2 n3 s3 d3 n4 s4 d4 n5 s5 d5)∧w'.rangeAt (w.heap.size + 1) 0 (Di p0 q0 r0 p1 q1 r1 p2 q2 r2 p3 q3 r3 p4 q4 r4 p5 q5 r5)) (by kernel_rfl) ⟨ka.all,kx.all,ks.all,kf.all,kt.all⟩ (fun hS=>?_)
 generalize w5.drew = wd at *
 refine WA.start (n:=23) (by kernel_rfl) ?_
 refine WA.tp 0 rfl ?_ (hy:=Jd (by rfl) 26 _ rfl (w2.heap.size) 0 rfl _ _ (fun w' h=>h.1) Tryz.underlying26 rfl (by kernel_rfl))
 refine WA.tp 1 rfl ?_ (hy:=Jd (by rfl) 28 _ rfl (w.heap.size) 0 rfl _ _ (fun w' h=>h.2.2.2.1) Tryz.underlying28 rfl (by kernel_rfl))
 refine WA.tp 2 rfl ?_ (hy:=Jd (by rfl) 31 _ rfl (w.heap.size + 1) 0 rfl _ _ (fun w' h=>h.2.2.2.2) Tryz.underlying31 rfl (by kernel_rfl))
 clear hS
 refine WA.cal 3 rfl (fun K hK=>?_)
 simp only [Jq]
 go_simp
 go_fit (J1.out _)
 rintro e wm3 ⟨rfl,b1⟩
 replace kf:=kf.b b1
 replace kt:=kt.b b1
 replace ka:=ka.b b1
 replace kx:=kx.b b1
 replace ks:=ks.b b1
 replace bb:=Ia bb b1
 clear b1
 try go_wp2_with fail
 refine hK.out _ _ ⟨ka.all,kx.all,ks.all,kf.all,kt.all⟩ (fun hS=>?_)
 clear hK K
 refine WA.tp 4 rfl ?_
 refine WA.tp 5 rfl ?_
 refine WA.tp 6 rfl ?_ (hy:=Jd (by rfl) 37 _ rfl (w3.heap.size) 0 rfl _ _ (fun w' h=>h.2.1) Tryz.underlying37 rfl (by kernel_rfl))
 refine WA.tp 7 rfl ?_ (hy:=Jd (by rfl) 28 _ rfl (w.heap.size) 0 rfl _ _ (fun w' h=>h.2.2.2.1) Tryz.underlying28 rfl (by kernel_rfl))
 refine WA.tp 8 rfl ?_ (hy:=Jd (by rfl) 31 _ rfl (w.heap.size + 1) 0 rfl _ _ (fun w' h=>h.2.2.2.2) Tryz.underlying31 rfl (by kernel_rfl))
 clear hS
 refine WA.cal 9 rfl (fun K hK=>?_)
 simp only [Jq]
 go_simp
 go_fit (J2.out _)
 rintro e wm9 ⟨rfl,b1⟩
 replace kf:=kf.b b1
 replace kt:=kt.b b1
 replace ka:=ka.b b1
 replace kx:=kx.b b1
 replace ks:=ks.b b1
 replace bb:=Ia bb b1
 clear b1
 try go_wp2_with fail
 refine hK.out _ _ ⟨ka.all,kx.all,ks.all,kf.all,kt.all⟩ (fun hS=>?_)
 clear hK K
 refine WA.tp 10 rfl ?_
 refine WA.tp 11 rfl ?_
 refine WA.tp 12 rfl ?_
 refine WA.tp 13 rfl ?_ (hy:=Jd (by rfl) 26 _ rfl (w4.heap.size) 0 rfl _ _ (fun w' h=>h.2.2.1) Tryz.underlying26 rfl (by kernel_rfl))
 refine WA.tp 14 rfl ?_ (hy:=Jd (by rfl) 28 _ rfl (w.heap.size) 0 rfl _ _ (fun w' h=>h.2.2.2.1) Tryz.underlying28 rfl (by kernel_rfl))
 refine WA.tp 15 rfl ?_ (hy:=Jd (by rfl) 31 _ rfl (w.heap.size + 1) 0 rfl _ _ (fun w' h=>h.2.2.2.2) Tryz.underlying31 rfl (by kernel_rfl))
 clear hS
 refine WA.cal 16 rfl (fun K hK=>?_)
 simp only [Jq]
 go_simp
 go_fit (J3.out _)
 rintro e wm16 ⟨rfl,b1⟩
 replace kf:=kf.b b1
 replace kt:=kt.b b1
 replace ka:=ka.b b1
 replace kx:=kx.b b1
 replace ks:=ks.b b1
 replace bb:=Ia bb b1
 clear b1
 try go_wp2_with fail
 refine hK.out _ _ ⟨ka.all,kx.all,ks.all,kf.all,kt.all⟩ (fun hS=>?_)
 clear hK K
 refine WA.tp 17 rfl ?_
 refine WA.tp 18 rfl ?_
 refine WA.tp 19 rfl ?_
 clear hS
 refine WA.cal 20 rfl (fun K hK=>?_)
 simp only [Jq]
 go_simp
 go_fit (HL.out _ bb)
 rintro e wm20 ⟨rfl,b1⟩
 replace kf:=kf.b b1
 replace kt:=kt.b b1
 replace ka:=ka.b b1
 replace kx:=kx.b b1
 replace ks:=ks.b b1
 replace bb:=Ia bb b1
 clear b1
 try go_wp2_with fail
 refine hK.out _ _ ⟨ka.all,kx.all,ks.all,kf.all,kt.all⟩ (fun hS=>?_)
 clear hK K
 refine WA.tp 21 rfl ?_
 refine WA.tp 22 rfl ?_
 refine WA.done (by kernel_rfl) ?_
 clear hS
 clear kf kt ka kx ks
 go_wp2
 go_ret
 exact ⟨rfl,bb⟩
theorem Bg3 (n0 n1 n2 n3 n4 n5 p0 p1 p2 p3 p4 p5 : Bool) (s0 d0 s1 d1 s2 d2 s3 d3 s4 d4 s5 d5 q0 r0 q1 r1 q2 r2 q3 r3 q4 r4 q5 r5 : ByteArray) (h : (Fp (fun k=>He (Cm s0 s1 s2 s3 s4 s5 k) (Cm d0 d1 d2 d3 d4 d5 k)) 6 && Fp (fun k=>He (f4 q0 q2 q4 q4 k) (f4 r0 r2 r4 r4 k) && He (f4 q1 q3 q5 q5 k) (f4 r1 r3 r5 r5 k)) 3) = true) :
  ((Fy (Br (fun k=>Bt (Cm n0 n1 n2 n3 n4 n5 k) (Cm s0 s1 s2 s3 s4 s5 k) (Cm d0 d1 d2 d3 d4 d5 k)) 6) (Br (fun k=>Fy (Bt (f4 p0 p2 p4 p4 k) (f4 q0 q2 q4 q4 k) (f4 r0 r2 r4 r4 k)) (Bt (f4 p1 p3 p5 p5 k) (f4 q1 q3 q5 q5 k) (f4 r1 r3 r5 r5 k))) 3)) ≠ 0∧∀ w1,Calls Tryz.prog 14 #[(Cp n0 s0 d0 n1 s1 d1 n2 s2 d2 n3 s3 d3 n4 s4 d4 n5 s5 d5),(Cp p0 q0 r0 p1 q1 r1 p2 q2 r2 p3 q3 r3 p4 q4 r4 p5 q5 r5)] w1 (Re w1 (.int .i64 ((Fy (Br (fun k=>Bt (Cm n0 n1 n2 n3 n4 n5 k) (Cm s0 s1 s2 s3 s4 s5 k) (Cm d0 d1 d2 d3 d4 d5 k)) 6) (Br (fun k=>Fy (Bt (f4 p0 p2 p4 p4 k) (f4 q0 q2 q4 q4 k) (f4 r0 r2 r4 r4 k)) (Bt (f4 p1 p3 p5 p5 k) (f4 q1 q3 q5 q5 k) (f4 r1 r3 r5 r5 k))) 3) : Nat) : Int)))) ∨
  (∃ y0 y1 y2 y3 y4 y5 x0 z0 x1 z1 x2 z2 : Rat,(Cp n0 s0 d0 n1 s1 d1 n2 s2 d2 n3 s3 d3 n4 s4 d4 n5 s5 d5) = Qr (Cx y0 y1 y2 y3 y4 y5)∧(Cp p0 q0 r0 p1 q1 r1 p2 q2 r2 p3 q3 r3 p4 q4 r4 p5 q5 r5) = t18 x0 z0 x1 z1 x2 z2∧(∀ k,k < 6→Bq ((Cx y0 y1 y2 y3 y4 y5) k) 30)∧(Bq x0 30∧Bq z0 30∧Bq x1 30∧Bq z1 30∧Bq x2 30∧Bq z2 30) ∧
   ((((x1 - x0) * (z2 - z0) - (z1 - z0) * (x2 - x0)) = 0∧∀ w1,Calls Tryz.prog 14 #[Qr (Cx y0 y1 y2 y3 y4 y5),t18 x0 z0 x1 z1 x2 z2] w1 (Re w1 (.int .i64 6))) ∨
    (((x1 - x0) * (z2 - z0) - (z1 - z0) * (x2 - x0)) ≠ 0∧∀ w1,Calls Tryz.prog 14 #[Qr (Cx y0 y1 y2 y3 y4 y5),t18 x0 z0 x1 z1 x2 z2] w1 (Re w1 (.int .i64 0))))):=by
 rw [Bool.and_eq_true] at h
 have zf : ∀ k,k < 6→(Cm s0 s1 s2 s3 s4 s5 k).size ≤ 30∧(Cm d0 d1 d2 d3 d4 d5 k).size ≤ 30:=fun k hk=>L8 (Lv h.1 k hk)
 have zp : ∀ k,k < 3→((f4 q0 q2 q4 q4 k).size ≤ 30∧(f4 r0 r2 r4 r4 k).size ≤ 30)∧((f4 q1 q3 q5 q5 k).size ≤ 30∧(f4 r1 r3 r5 r5 k).size ≤ 30):=fun k hk=>by
  have:=Lv h.2 k hk
  rw [Bool.and_eq_true] at this
  exact ⟨L8 this.1,L8 this.2⟩
 clear h
 have HC : ∀ w1,Calls Tryz.prog 33 #[(Cp n0 s0 d0 n1 s1 d1 n2 s2 d2 n3 s3 d3 n4 s4 d4 n5 s5 d5)] w1 (Re w1 (.int .i64 (Br (fun k=>Bt (Cm n0 n1 n2 n3 n4 n5 k) (Cm s0 s1 s2 s3 s4 s5 k) (Cm d0 d1 d2 d3 d4 d5 k)) 6 : Nat))):=fun w1 =>
  Bdp (Cm n0 n1 n2 n3 n4 n5) (Cm s0 s1 s2 s3 s4 s5) (Cm d0 d1 d2 d3 d4 d5) w1 (fun k hk=>⟨by have:=(zf k hk).1; omega,by have:=(zf k hk).2; omega⟩)
 have HA : ∀ w1 B,Be w1 B (Di p0 q0 r0 p1 q1 r1 p2 q2 r2 p3 q3 r3 p4 q4 r4 p5 q5 r5) 30→Calls Tryz.prog 34 #[.slice (some ⟨B,0,none⟩) 3 3] w1 (Re w1 (.int .i64 (Br (fun k=>Fy (Bt (f4 p0 p2 p4 p4 k) (f4 q0 q2 q4 q4 k) (f4 r0 r2 r4 r4 k)) (Bt (f4 p1 p3 p5 p5 k) (f4 q1 q3 q5 q5 k) (f4 r1 r3 r5 r5 k))) 3 : Nat))):=fun w1 B kl =>
  Bg1 (some ⟨B,0,none⟩) 3 3 (f4 p0 p2 p4 p4) (f4 p1 p3 p5 p5) (f4 q0 q2 q4 q4) (f4 r0 r2 r4 r4) (f4 q1 q3 q5 q5) (f4 r1 r3 r5 r5) w1 (by omega) (Baw (P:=f4 p0 p2 p4 p4) (P':=f4 p1 p3 p5 p5) (Q:=f4 q0 q2 q4 q4) (R:=f4 r0 r2 r4 r4) (Q':=f4 q1 q3 q5 q5) (R':=f4 r1 r3 r5 r5) kl) (fun k hk=>⟨⟨by have:=(zp k hk).1.1; omega,by have:=(zp k hk).1.2; omega⟩,⟨by have:=(zp k hk).2.1; omega,by have:=(zp k hk).2.2; omega⟩⟩)
 by_cases h1 : Br (fun k=>Bt (Cm n0 n1 n2 n3 n4 n5 k) (Cm s0 s1 s2 s3 s4 s5 k) (Cm d0 d1 d2 d3 d4 d5 k)) 6 = 0
 ·rw [h1] at HC
  by_cases h2 : Br (fun k=>Fy (Bt (f4 p0 p2 p4 p4 k) (f4 q0 q2 q4 q4 k) (f4 r0 r2 r4 r4 k)) (Bt (f4 p1 p3 p5 p5 k) (f4 q1 q3 q5 q5 k) (f4 r1 r3 r5 r5 k))) 3 = 0
  ·rw [h2] at HA
   have a:=Hy h1
   have b:=Hy h2
   clear h1 h2
   obtain ⟨y0,c0,rfl,rfl,rfl⟩:=Hh (a 0 (by omega)) (zf 0 (by omega))
   obtain ⟨y1,c1,rfl,rfl,rfl⟩:=Hh (a 1 (by omega)) (zf 1 (by omega))
   obtain ⟨y2,c2,rfl,rfl,rfl⟩:=Hh (a 2 (by omega)) (zf 2 (by omega))
   obtain ⟨y3,c3,rfl,rfl,rfl⟩:=Hh (a 3 (by omega)) (zf 3 (by omega))
   obtain ⟨y4,c4,rfl,rfl,rfl⟩:=Hh (a 4 (by omega)) (zf 4 (by omega))
   obtain ⟨y5,c5,rfl,rfl,rfl⟩:=Hh (a 5 (by omega)) (zf 5 (by omega))
   obtain ⟨x0,bx0,rfl,rfl,rfl⟩:=Hh (Dn.1 (b 0 (by omega))).1 (zp 0 (by omega)).1
   obtain ⟨z0,bz0,rfl,rfl,rfl⟩:=Hh (Dn.1 (b 0 (by omega))).2 (zp 0 (by omega)).2
   obtain ⟨x1,bx1,rfl,rfl,rfl⟩:=Hh (Dn.1 (b 1 (by omega))).1 (zp 1 (by omega)).1
   obtain ⟨z1,bz1,rfl,rfl,rfl⟩:=Hh (Dn.1 (b 1 (by omega))).2 (zp 1 (by omega)).2
   obtain ⟨x2,bx2,rfl,rfl,rfl⟩:=Hh (Dn.1 (b 2 (by omega))).1 (zp 2 (by omega)).1
   obtain ⟨z2,bz2,rfl,rfl,rfl⟩:=Hh (Dn.1 (b 2 (by omega))).2 (zp 2 (by omega)).2
   clear a b zf zp
   have hr : ∀ k,k < 6→Bq (Cx y0 y1 y2 y3 y4 y5 k) 30:=fun k hk=>by
    match k,hk with
    | 0,_=>exact c0
    | 1,_=>exact c1
    | 2,_=>exact c2
    | 3,_=>exact c3
    | 4,_=>exact c4
    | 5,_=>exact c5
   have HO : ∀ w1,Calls Tryz.prog 35 #[pq x0 z0,pq x1 z1,pq x2 z2] w1 (Re w1 (.int .i64 (Gm.sg (Gm.cr x0 z0 x1 z1 x2 z2)))):=fun w1=>Bal x0 z0 x1 z1 x2 z2 (K:=30) (by omega) bx0 bz0 bx1 bz1 bx2 bz2 w1
   by_cases hA : ((x1 - x0) * (z2 - z0) - (z1 - z0) * (x2 - x0)) = 0
   ·refine Or.inr ⟨y0,y1,y2,y3,y4,y5,x0,z0,x1,z1,x2,z2,rfl,rfl,hr,⟨bx0,bz0,bx1,bz1,bx2,bz2⟩,Or.inl ⟨hA,fun w1=>?_⟩⟩
    exact Zy _ _ _ _ _ _ _ _ _ _ _ _ _ _ _ _ _ _ _ _ _ _ _ _ _ _ _ _ _ _ _ _ _ _ _ _ w1 (fun w2 _=>HC w2) (fun w2 B _ kl=>HA w2 B kl) (fun w2 _=>by
     have:=HO w2
     rw [show Gm.sg (Gm.cr x0 z0 x1 z1 x2 z2) = 0 from Gm.sg_eq_zero.2 hA] at this
     exact this)
   ·refine Or.inr ⟨y0,y1,y2,y3,y4,y5,x0,z0,x1,z1,x2,z2,rfl,rfl,hr,⟨bx0,bz0,bx1,bz1,bx2,bz2⟩,Or.inr ⟨hA,fun w1=>?_⟩⟩
    exact Zx _ _ _ _ _ _ _ _ _ _ _ _ _ _ _ _ _ _ _ _ _ _ _ _ _ _ _ _ _ _ _ _ _ _ _ _ (Gm.sg (Gm.cr x0 z0 x1 z1 x2 z2)) (fun q=>hA (Gm.sg_eq_zero.1 q)) w1 (fun w2 _=>HC w2) (fun w2 B _ kl=>HA w2 B kl) (fun w2 _=>HO w2)
  ·have e : Fy (Br (fun k=>Bt (Cm n0 n1 n2 n3 n4 n5 k) (Cm s0 s1 s2 s3 s4 s5 k) (Cm d0 d1 d2 d3 d4 d5 k)) 6) (Br (fun k=>Fy (Bt (f4 p0 p2 p4 p4 k) (f4 q0 q2 q4 q4 k) (f4 r0 r2 r4 r4 k)) (Bt (f4 p1 p3 p5 p5 k) (f4 q1 q3 q5 q5 k) (f4 r1 r3 r5 r5 k))) 3) = Br (fun k=>Fy (Bt (f4 p0 p2 p4 p4 k) (f4 q0 q2 q4 q4 k) (f4 r0 r2 r4 r4 k)) (Bt (f4 p1 p3 p5 p5 k) (f4 q1 q3 q5 q5 k) (f4 r1 r3 r5 r5 k))) 3:=by unfold Fy; rw [if_pos h1]
   rw [e]
   exact Or.inl ⟨h2,fun w1=>Zz _ _ _ _ _ _ _ _ _ _ _ _ _ _ _ _ _ _ _ _ _ _ _ _ _ _ _ _ _ _ _ _ _ _ _ _ _ (fun q=>h2 (by omega)) w1 (fun w2 _=>HC w2) (fun w2 B _ kl=>HA w2 B kl)⟩
 ·have e : Fy (Br (fun k=>Bt (Cm n0 n1 n2 n3 n4 n5 k) (Cm s0 s1 s2 s3 s4 s5 k) (Cm d0 d1 d2 d3 d4 d5 k)) 6) (Br (fun k=>Fy (Bt (f4 p0 p2 p4 p4 k) (f4 q0 q2 q4 q4 k) (f4 r0 r2 r4 r4 k)) (Bt (f4 p1 p3 p5 p5 k) (f4 q1 q3 q5 q5 k) (f4 r1 r3 r5 r5 k))) 3) = Br (fun k=>Bt (Cm n0 n1 n2 n3 n4 n5 k) (Cm s0 s1 s2 s3 s4 s5 k) (Cm d0 d1 d2 d3 d4 d5 k)) 6:=by unfold Fy; rw [if_neg h1]
  rw [e]
  exact Or.inl ⟨h1,fun w1=>Z8 _ _ _ _ _ _ _ _ _ _ _ _ _ _ _ _ _ _ _ _ _ _ _ _ _ _ _ _ _ _ _ _ _ _ _ _ _ (fun q=>h1 (by omega)) w1 (fun w2 _=>HC w2)⟩
theorem D8 {s d : ByteArray} (h : s.size ≤ 30∧d.size ≤ 30) : s.size ≤ 100∧d.size ≤ 100:=⟨by omega,by omega⟩
theorem Yt (n0 n1 n2 n3 n4 n5 p0 p1 p2 p3 p4 p5 : Bool) (s0 d0 s1 d1 s2 d2 s3 d3 s4 d4 s5 d5 q0 r0 q1 r1 q2 r2 q3 r3 q4 r4 q5 r5 : ByteArray) (w : World) (hT : Fi w) (hP : Om w) (hQ : Zj w) :
  Calls Tryz.prog 3 #[(Cp n0 s0 d0 n1 s1 d1 n2 s2 d2 n3 s3 d3 n4 s4 d4 n5 s5 d5),(Cp p0 q0 r0 p1 q1 r1 p2 q2 r2 p3 q3 r3 p4 q4 r4 p5 q5 r5)] w (Re w (Iz true)):=by
 have HL : ∀ w1,Below w.heap.size w w1→Calls Tryz.prog 10 #[] w1 (Re w1 (Iz true)):=fun w1 b=>Yp w1 (hT.b b) (hP.b b)
 cases hb : (Fp (fun k=>He (Cm s0 s1 s2 s3 s4 s5 k) (Cm d0 d1 d2 d3 d4 d5 k)) 6 && Fp (fun k=>He (f4 q0 q2 q4 q4 k) (f4 r0 r2 r4 r4 k) && He (f4 q1 q3 q5 q5 k) (f4 r1 r3 r5 r5 k)) 3) with
 | false =>
  refine Bgs _ _ _ _ _ _ _ _ _ _ _ _ _ _ _ _ _ _ _ _ _ _ _ _ _ _ _ _ _ _ _ _ _ _ _ _ w (fun w1 b=>?_) HL
  have:=Bfk n0 n1 n2 n3 n4 n5 p0 p1 p2 p3 p4 p5 s0 d0 s1 d1 s2 d2 s3 d3 s4 d4 s5 d5 q0 r0 q1 r1 q2 r2 q3 r3 q4 r4 q5 r5 w1
  rw [hb] at this
  exact this
 | true =>
  have HF : ∀ w1,Below w.heap.size w w1→Calls Tryz.prog 9 #[(Cp n0 s0 d0 n1 s1 d1 n2 s2 d2 n3 s3 d3 n4 s4 d4 n5 s5 d5),(Cp p0 q0 r0 p1 q1 r1 p2 q2 r2 p3 q3 r3 p4 q4 r4 p5 q5 r5)] w1 (Re w1 (Iz true)):=fun w1 b=>by
   have:=Bfk n0 n1 n2 n3 n4 n5 p0 p1 p2 p3 p4 p5 s0 d0 s1 d1 s2 d2 s3 d3 s4 d4 s5 d5 q0 r0 q1 r1 q2 r2 q3 r3 q4 r4 q5 r5 w1
   rw [hb] at this
   exact this
  rcases Bg3 n0 n1 n2 n3 n4 n5 p0 p1 p2 p3 p4 p5 s0 d0 s1 d1 s2 d2 s3 d3 s4 d4 s5 d5 q0 r0 q1 r1 q2 r2 q3 r3 q4 r4 q5 r5 hb with ⟨hE,H3⟩ | ⟨y0,y1,y2,y3,y4,y5,x0,z0,x1,z1,x2,z2,hf,ht,hr,⟨b0,c0,b1,c1,b2,c2⟩,hA⟩
  ·rw [Bool.and_eq_true] at hb
   have zf : ∀ k,k < 6→(Cm s0 s1 s2 s3 s4 s5 k).size ≤ 30∧(Cm d0 d1 d2 d3 d4 d5 k).size ≤ 30:=fun k hk=>L8 (Lv hb.1 k hk)
   have zp : ∀ k,k < 3→((f4 q0 q2 q4 q4 k).size ≤ 30∧(f4 r0 r2 r4 r4 k).size ≤ 30)∧((f4 q1 q3 q5 q5 k).size ≤ 30∧(f4 r1 r3 r5 r5 k).size ≤ 30):=fun k hk=>by
    have:=Lv hb.2 k hk
    rw [Bool.and_eq_true] at this
    exact ⟨L8 this.1,L8 this.2⟩
   exact Bbw _ _ _ _ _ _ _ _ _ _ _ _ _ _ _ _ _ _ _ _ _ _ _ _ _ _ _ _ _ _ _ _ _ _ _ _ _ (fun e=>hE (by omega)) w HF (fun w1 _=>H3 w1) HL
    (fun w1 b=>Bgt n0 n1 n2 n3 n4 n5 p0 p1 p2 p3 p4 p5 s0 d0 s1 d1 s2 d2 s3 d3 s4 d4 s5 d5 q0 r0 q1 r1 q2 r2 q3 r3 q4 r4 q5 r5 w1 (hT.b b) hE (D8 (zf 0 (by omega))) (D8 (zf 1 (by omega))) (D8 (zf 2 (by omega))) (D8 (zf 3 (by omega))) (D8 (zf 4 (by omega))) (D8 (zf 5 (by omega))) (D8 (zp 0 (by omega)).1) (D8 (zp 0 (by omega)).2) (D8 (zp 1 (by omega)).1) (D8 (zp 1 (by omega)).2) (D8 (zp 2 (by omega)).1) (D8 (zp 2 (by omega)).2))
    (fun w1 b=>Bgp n0 n1 n2 n3 n4 n5 p0 p1 p2 p3 p4 p5 s0 d0 s1 d1 s2 d2 s3 d3 s4 d4 s5 d5 q0 r0 q1 r1 q2 r2 q3 r3 q4 r4 q5 r5 w1 (hT.b b) hE (D8 (zf 0 (by omega))) (D8 (zf 1 (by omega))) (D8 (zf 2 (by omega))) (D8 (zf 3 (by omega))) (D8 (zf 4 (by omega))) (D8 (zf 5 (by omega))) (D8 (zp 0 (by omega)).1) (D8 (zp 0 (by omega)).2) (D8 (zp 1 (by omega)).1) (D8 (zp 1 (by omega)).2) (D8 (zp 2 (by omega)).1) (D8 (zp 2 (by omega)).2))
    (fun w1 b=>Bfw n0 n1 n2 n3 n4 n5 p0 p1 p2 p3 p4 p5 s0 d0 s1 d1 s2 d2 s3 d3 s4 d4 s5 d5 q0 r0 q1 r1 q2 r2 q3 r3 q4 r4 q5 r5 w1 (hT.b b) hE (D8 (zf 0 (by omega))) (D8 (zf 1 (by omega))) (D8 (zf 2 (by omega))) (D8 (zf 3 (by omega))) (D8 (zf 4 (by omega))) (D8 (zf 5 (by omega))) (D8 (zp 0 (by omega)).1) (D8 (zp 0 (by omega)).2) (D8 (zp 1 (by omega)).1) (D8 (zp 1 (by omega)).2) (D8 (zp 2 (by omega)).1) (D8 (zp 2 (by omega)).2))
  ·rw [hf,ht] at HF ⊢
   clear hf ht hb
   rcases hA with ⟨hA,H3⟩ | ⟨hA,H3⟩
   ·exact Bbw _ _ _ _ _ _ _ _ _ _ _ _ _ _ _ _ _ _ _ _ _ _ _ _ _ _ _ _ _ _ _ _ _ _ _ _ 6 (by omega) w HF (fun w1 _=>H3 w1) HL
     (fun w1 b=>Bbx (Cx y0 y1 y2 y3 y4 y5) x0 z0 x1 z1 x2 z2 (K:=30) (by omega) hr b0 c0 b1 c1 b2 c2 w1 (hT.b b) hA)
     (fun w1 b=>St (Cx y0 y1 y2 y3 y4 y5) x0 z0 x1 z1 x2 z2 (K:=30) (by omega) hr b0 c0 b1 c1 b2 c2 w1 (hT.b b) hA)
     (fun w1 b=>Bae (Cx y0 y1 y2 y3 y4 y5) x0 z0 x1 z1 x2 z2 (K:=30) (by omega) hr b0 c0 b1 c1 b2 c2 w1 (hT.b b) hA)
   ·exact Bek _ _ _ _ _ _ _ _ _ _ _ _ _ _ _ _ _ _ _ _ _ _ _ _ _ _ _ _ _ _ _ _ _ _ _ _ _ _ _ _ _ _ _ _ _ _ _ _ _ _ _ w HF (fun w1 _=>H3 w1) HL
     (fun w1 b=>Bhl (Cx y0 y1 y2 y3 y4 y5) x0 z0 x1 z1 x2 z2 (K:=30) (by omega) hr b0 c0 b1 c1 b2 c2 w1 (hT.b b) (hP.b b) hA (x:=C7 ((x1 - x0) * (z2 - z0) - (z1 - z0) * (x2 - x0)) * C6 Yu (Fn (Cx y0 y1 y2 y3 y4 y5) (Cx x0 x1 x2 z0 z1 z2)) * Rat.divInt 1 (120 : Nat)) rfl)
     (fun w1 b=>Bia (Cx y0 y1 y2 y3 y4 y5) x0 z0 x1 z1 x2 z2 (K:=30) (by omega) hr b0 c0 b1 c1 b2 c2 w1 (hT.b b) (hP.b b) (hQ.b b) hA)
     (fun w1 b=>Bg6 (Cx y0 y1 y2 y3 y4 y5) x0 z0 x1 z1 x2 z2 (K:=30) (by omega) hr b0 c0 b1 c1 b2 c2 w1 (hT.b b) (hP.b b) hA (x:=C7 ((x1 - x0) * (z2 - z0) - (z1 - z0) * (x2 - x0)) * qs (Fn (Cx y0 y1 y2 y3 y4 y5) (Cx x0 x1 x2 z0 z1 z2)) * Rat.divInt 1 (360 : Nat)) rfl)
     (fun w1=>Bga hr b0 c0 b1 c1 b2 c2 w1) (fun w1=>Bf9 hr b0 c0 b1 c1 b2 c2 w1) (fun w1=>Bf3 hr b0 c0 b1 c1 b2 c2 w1)
end Go.Proofs.YtnplifkgeeicjaaGreatDoor
