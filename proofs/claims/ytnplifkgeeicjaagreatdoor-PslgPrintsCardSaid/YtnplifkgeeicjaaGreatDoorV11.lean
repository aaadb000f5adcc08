import Derived.Deep.RegionWith
import Derived.Test.YtnplifkgeeicjaaGreatDoorV10
set_option maxRecDepth 100000
set_option maxHeartbeats 2000000
namespace Go.Proofs.YtnplifkgeeicjaaGreatDoor
open Go.RowKit
theorem Sz (w:World) (a:Option Addr) (n cap:Nat) (xs:List Nat) (hv:Rd w (.slice a n cap) xs) (hl:M.Low Bb xs) (hm:xs.length≤1000000) :
  Calls Tryz.prog 177 #[.slice a n cap] w fun e w'=>e=.returned (.slice a (M.digs Bb (M.val Bb xs)).length (M.digs Bb (M.val Bb xs)).length)∧w'=w:=by
 obtain ⟨a',c',e,hcap,hc⟩:=hv
 simp only [Value.slice.injEq] at e
 obtain ⟨rfl,rfl,rfl⟩:=e
 go_enter Tryz.func177,Tryz.ntmps177
 go_wp2
 go_loop [3] (fun n=>∃ k:Nat,k≤xs.length∧n=.int .i64 k∧∀ j,k≤j→lm xs j=0) (fun n=>(intOf n).toNat)
 case atStart=>exact ⟨xs.length,Jb _,rfl,fun j hj=>Ek hj⟩
 case round =>
  obtain ⟨k,hk,rfl,hz⟩:=hrel
  have HZ:Hid (∀ j,k≤j→lm xs j=0):=hz
  clear hz
  have FIN:Hid ((∀ j,k=j+1→lm xs j≠0)→(M.digs Bb (M.val Bb xs)).length=k):=fun ht=>by
   rw [← M.take_eq_digs Be hl hk HZ.out ht];simp;omega
  match k with
  | 0 =>
   go_wp2
   go_ret
   exact ⟨by rw [FIN.out (fun j hj=>by omega)];rfl,rfl⟩
  | k+1 =>
   obtain ⟨b,off,rfl,hcell⟩:=hc k (by omega)
   clear hc
   by_cases h0:lm xs k=0
   ·go_wp2
    go_round
    case rel=>exact ⟨k,by omega,by go_num,fun j hj=>by
     by_cases e:j=k
     ·subst e;exact h0
     ·exact HZ.out j (by omega)⟩
    case measure=>simp [intOf]
   ·have hcap':((k:Int)+1)≤cap:=by omega
    go_wp2
    go_ret
    exact ⟨by rw [FIN.out (fun j hj=>by have:j=k:=by omega
                                        subst this;exact h0)];rfl,rfl⟩
theorem Bh5 (xs:List Nat):∀ m,(∀ j,m≤j→xs.getD j 0=0)→∃ n,n≤m∧(∀ j,n≤j→xs.getD j 0=0)∧∀ k,n=k+1→xs.getD k 0≠0
 | 0,h=>⟨0,Jb _,h,fun k hk=>by omega⟩
 | m+1,h=>by
  by_cases h0:xs.getD m 0=0
  ·obtain ⟨n,h1,h2,h3⟩:=Bh5 xs m (fun j hj=>by
    by_cases e:j=m
    ·subst e;exact h0
    ·exact h j (by omega))
   exact ⟨n,by omega,h2,h3⟩
  ·exact ⟨m+1,Jb _,h,fun k hk=>by
    have:k=m:=by omega
    subst this;exact h0⟩
theorem Bev {xs:List Nat} (hl:M.Low Bb xs):xs.take (M.digs Bb (M.val Bb xs)).length=M.digs Bb (M.val Bb xs):=by
 obtain ⟨n,h1,h2,h3⟩:=Bh5 xs xs.length (fun j hj=>Ek (xs:=xs) hj)
 have e:=M.take_eq_digs Be hl h1 h2 h3
 have:(M.digs Bb (M.val Bb xs)).length=n:=by rw [← e];simp;omega
 rw [this];exact e
theorem Gj.take {w:World} {a:Option Addr} {n cap g:Nat} {xs:List Nat} (h:Gj w (.slice a n cap) xs g) (k cap':Nat) (hk:k≤xs.length) (hc:k≤cap'):Gj w (.slice a k cap') (xs.take k) g:=by
 obtain ⟨a',c',e,_,h⟩:=h
 simp only [Value.slice.injEq] at e
 obtain ⟨rfl,rfl,rfl⟩:=e
 have e1:(xs.take k).length=k:=by simp;omega
 refine ⟨a,cap',by rw [e1],by rw [e1];exact hc,fun j hj=>?_⟩
 rw [e1] at hj
 obtain ⟨b,off,rfl,hne,hcell⟩:=h j (by omega)
 exact ⟨b,off,rfl,hne,by rw [Ma hj];exact hcell⟩
def Ot (N:Nat):Prop:=∀ (va vb:Value) (xs ys:List Nat) (w:World),Rd w va xs→Rd w vb ys→M.Low Bb xs→M.Low Bb ys→xs.length+ys.length≤N →
 Calls Tryz.prog 180 #[va,vb] w (Wa w (M.val Bb xs) (M.val Bb ys) (xs.length+ys.length))
theorem Bo8 (a0 a1 b0 b1 P:Nat):(a0+P*a1)*(b0+P*b1)=a0*b0+P*((a0+a1)*(b0+b1) - a0*b0 - a1*b1)+P*P*(a1*b1):=by
 have e:(a0+a1)*(b0+b1) - a0*b0 - a1*b1=a0*b1+a1*b0:=by
  rw [Nat.add_mul,Nat.mul_add,Nat.mul_add];omega
 rw [e]
 simp only [Nat.add_mul,Nat.mul_add]
 have e1:P*a1*b0=P*(a1*b0):=Nat.mul_assoc _ _ _
 have e2:a0*(P*b1)=P*(a0*b1):=Nat.mul_left_comm _ _ _
 have e3:P*a1*(P*b1)=P*P*(a1*b1):=by rw [Nat.mul_mul_mul_comm]
 omega
theorem Br.only {g g':Nat} {w w1 w2:World} (h:Br g w w1) (o:Bu g' w1 w2) (hg:w.heap.size≤g'):Br g w w2 :=
 ⟨o.os.trans h.os,o.tape.trans h.tape,o.output.trans h.output,by rw [o.size];exact h.size,fun k hk hn=>(o.block k (by omega)).trans (h.block k hk hn)⟩
theorem Br.drew {g:Nat} {a w:World} (h:Br g a w):Br g a w.drew:=⟨h.os,h.tape,h.output,h.size,h.block⟩
theorem X9 {b half n p s s' c cross XY:Nat} (h:half≤n) (hv:s'+b ^ (n - half)*c=s+cross) (hXY:XY=p+b ^ half*s+b ^ half*cross) (hlt:XY<b ^ n):p+b ^ half*s'=XY:=by
 have e1:b ^ half*(s'+b ^ (n - half)*c)=b ^ half*(s+cross):=by rw [hv]
 have e2:b ^ n=b ^ half*b ^ (n - half):=by rw [← Nat.pow_add];congr 1;omega
 rw [Nat.mul_add,Nat.mul_add,← Nat.mul_assoc,← e2] at e1
 have hc:c=0:=by
  by_cases h0:c=0
  ·exact h0
  ·have:b ^ n*1≤b ^ n*c:=Nat.mul_le_mul_left _ (by omega)
   omega
 subst hc
 omega
theorem S6 (n N:Nat) (hN:2*n≤N+1) (hP:Ot N) (g:Nat) (va vb:Value) (xs ys:List Nat) (w:World) (hx:xs.length=n) (hy:ys.length=n) (h4:40≤n) (hnb:n≤100000)
  (ha:Gj w va xs g) (hb:Gj w vb ys g) (la:M.Low Bb xs) (lb:M.Low Bb ys) (hg:Cm w g (List.replicate (2*n) 0)) :
  Calls Tryz.prog 213 #[.slice (some ⟨g,0,none⟩) (2*n) (2*n),va,vb] w fun e w'=>∃ zs,e=.returned (.tuple #[])∧Cm w' g zs∧zs.length=2*n∧M.Low Bb zs∧M.val Bb zs=M.val Bb xs*M.val Bb ys∧Br g w w':=by
 have HP:=Ba hP
 clear hP
 obtain ⟨half,hh⟩:∃ half,half=(n+1) / 2:=⟨_,rfl⟩
 have hq:((n:Int)+1) / 2=(half:Int):=by omega
 have b1:half<n:=by omega
 have b2:20≤half:=by omega
 have b3:n≤2*half:=by omega
 have b4:2*half≤n+1:=by omega
 clear hh
 have ha0:=ha
 have hb0:=hb
 obtain ⟨a,ca,rfl,hca,hac⟩:=ha
 obtain ⟨b,cb,rfl,hcb,hbc⟩:=hb
 obtain ⟨ab,ao,rfl,hane,_⟩:=hac 0 (by omega)
 obtain ⟨bb,bo,rfl,hbne,_⟩:=hbc 0 (by omega)
 clear hac hbc
 rw [hx] at ha0 hca ⊢
 rw [hy] at hb0 hcb ⊢
 have HX:Hid (xs.length=n):=hx
 have HY:Hid (ys.length=n):=hy
 have hlx:(xs.take half).length=half:=by simp;omega
 have hly:(ys.take half).length=half:=by simp;omega
 have hA:=ha0.rd
 have hB:=hb0.rd
 have q1:Rd w.drew (.slice (some ⟨ab,ao,none⟩) half half) (xs.take half):=hA.take half half (by omega) (Jb _)
 have q2:Rd w.drew (.slice (some ⟨bb,bo,none⟩) half half) (ys.take half):=hB.take half half (by omega) (Jb _)
 have H43:=Ba (HP.out _ _ _ _ _ q1 q2 (la.take half) (lb.take half) (by omega))
 rw [hlx,hly] at H43
 have HLX:Hid ((xs.take half).length=half):=hlx
 have HLY:Hid ((ys.take half).length=half):=hly
 clear q1 q2 hx hy hlx hly
 have i1:(half:Int)≤(ca:Int):=by omega
 have i2:(half:Int)≤(cb:Int):=by omega
 go_enter Tryz.func213,Tryz.ntmps213
 go_wp2
 go_region_held3 (fun _=>True) (trivial) (first | (go_at_call 180;refine H43.out.mono ?_;rintro e w1 ⟨g1,z1,rfl,k1,n1,l1,v1,s1,f1⟩))
 have f1':Below w.heap.size w w1:=⟨f1.os,f1.tape,f1.output,f1.size,f1.block⟩
 have s1':w.heap.size≤g1:=s1
 have hgl:g<w.heap.size:=hg.lt
 have t1:Br g w w1:=Ib f1'
 have ha1:=ha0.grew t1
 have hb1:=hb0.grew t1
 have hg1:=hg.b f1'
 have V1:Hid (M.val Bb z1=M.val Bb (xs.take half)*M.val Bb (ys.take half)):=v1
 have N1:Hid (z1.length=half+half):=n1
 have hdx:(xs.drop half).length=n - half:=by rw [List.length_drop,HX.out]
 have hdy:(ys.drop half).length=n - half:=by rw [List.length_drop,HY.out]
 have q1:Rd w1.drew (.slice (some ⟨ab,ao+half,none⟩) (n - half) (n - half)) (xs.drop half):=ha1.rd.drop half _ _ (by rw [HX.out]) (Jb _)
 have q2:Rd w1.drew (.slice (some ⟨bb,bo+half,none⟩) (n - half) (n - half)) (ys.drop half):=hb1.rd.drop half _ _ (by rw [HY.out]) (Jb _)
 have H43b:=Ba (HP.out _ _ _ _ _ q1 q2 (la.drop half) (lb.drop half) (by omega))
 rw [hdx,hdy] at H43b
 have HDX:Hid ((xs.drop half).length=n - half):=hdx
 have HDY:Hid ((ys.drop half).length=n - half):=hdy
 have i3:(n:Int)≤(ca:Int):=by omega
 have i4:(n:Int)≤(cb:Int):=by omega
 have i5:(half:Int)≤(n:Int):=by omega
 have i6:¬ n=half:=by omega
 clear v1 n1 f1 s1 q1 q2 hdx hdy H43 hA hB
 go_wp2
 go_region_held3 (fun _=>True) (trivial) (first | (go_at_call 180;refine H43b.out.mono ?_;rintro e w2 ⟨g2,z2,rfl,k2,n2,l2,v2,s2,f2⟩))
 have f2':Below w1.heap.size w1 w2:=⟨f2.os,f2.tape,f2.output,f2.size,f2.block⟩
 have s2':w1.heap.size≤g2:=s2
 have t2:Br g w w2:=t1.trans (Ib f2')
 have ha2:=ha1.grew (Ib f2')
 have hb2:=hb1.grew (Ib f2')
 have hg2:=hg1.b f2'
 have hgl1:g1<w1.heap.size:=k1.lt
 have k1':=k1.b f2'
 have V2:Hid (M.val Bb z2=M.val Bb (xs.drop half)*M.val Bb (ys.drop half)):=v2
 have N2:Hid (z2.length=n - half+(n - half)):=n2
 clear v2 n2 f2 s2 H43b ha1 hb1 hg1 k1
 go_wp2_with fail
 refine (Pz _ xs half _ ha2.rd la (by omega) (by rw [HX.out];exact b1) (by rw [HX.out];exact b3) (by rw [HX.out];omega)).mono ?_
 rintro e w3 ⟨g5,z5,rfl,k5,n5,l5,v5,s5,f5⟩
 have t3:Br g w w3:=t2.trans (Ib f5)
 have hb3:=hb2.grew (Ib f5)
 have hg3:=hg2.b f5
 have k1'':=k1'.b f5
 have k2':=k2.b f5
 have hgl2:g2<w2.heap.size:=k2.lt
 have V5:Hid (M.val Bb z5=M.val Bb (xs.take half)+M.val Bb (xs.drop half)):=v5
 have N5:Hid (z5.length=half+1):=n5
 clear v5 n5 ha2 hb2 hg2 k1' k2
 go_wp2_with fail
 refine (Pz _ ys half _ hb3.rd lb (by omega) (by rw [HY.out];exact b1) (by rw [HY.out];exact b3) (by rw [HY.out];omega)).mono ?_
 rintro e w4 ⟨g6,z6,rfl,k6,n6,l6,v6,s6,f6⟩
 have t4:Br g w w4:=t3.trans (Ib f6)
 have hg4:=hg3.b f6
 have k1:=k1''.b f6
 have k2:=k2'.b f6
 have k5':=k5.b f6
 have V6:Hid (M.val Bb z6=M.val Bb (ys.take half)+M.val Bb (ys.drop half)):=v6
 have N6:Hid (z6.length=half+1):=n6
 have H43c:=Ba (HP.out _ _ _ _ _ (k5'.rd0 _ (Jb _)) (k6.rd0 _ (Jb _)) l5 l6 (by rw [N5.out,n6];omega))
 clear v6 n6 hb3 hg3 k1'' k2'
 go_wp2_with fail
 refine H43c.out.mono ?_
 rintro e w5 ⟨g3,z3,rfl,k3,n3,l3,v3,s3,f3⟩
 have t5:Br g w w5:=t4.trans (Ib f3)
 have hg5:=hg4.b f3
 have k1a:=k1.b f3
 have k2a:=k2.b f3
 have e53:=f5.size
 have e64:=f6.size
 have e21:=f2'.size
 have gl4:g2<w4.heap.size:=by omega
 have gl4':g1<w4.heap.size:=by omega
 have gne1:g1≠g3:=by omega
 have gne2:g2≠g3:=by omega
 have gne3:g≠g3:=by have:=f1'.size;omega
 have gne4:g1≠g:=by omega
 have gne5:g2≠g:=by have:=f1'.size;omega
 have hn3:z3.length=half+1+(half+1):=by rw [n3,N5.out,N6.out]
 rw [V5.out,V6.out] at v3
 clear n3 H43c hg4 k1 k2 k5 k6 k5'
 obtain ⟨A0,hA0⟩:∃ A,A=M.val Bb (xs.take half):=⟨_,rfl⟩
 obtain ⟨A1,hA1⟩:∃ A,A=M.val Bb (xs.drop half):=⟨_,rfl⟩
 obtain ⟨B0,hB0⟩:∃ A,A=M.val Bb (ys.take half):=⟨_,rfl⟩
 obtain ⟨B1,hB1⟩:∃ A,A=M.val Bb (ys.drop half):=⟨_,rfl⟩
 have v1:=V1.out
 have v2:=V2.out
 rw [← hA0,← hB0] at v1
 rw [← hA1,← hB1] at v2
 rw [← hA0,← hA1,← hB0,← hB1] at v3
 have le1:A0*B0+A1*B1≤(A0+A1)*(B0+B1):=by
  rw [Nat.add_mul,Nat.mul_add,Nat.mul_add];omega
 have W1:Hid (M.val Bb z1=A0*B0):=v1
 have W2:Hid (M.val Bb z2=A1*B1):=v2
 have W3:Hid (M.val Bb z3=(A0+A1)*(B0+B1)):=v3
 have LE1:Hid (A0*B0+A1*B1≤(A0+A1)*(B0+B1)):=le1
 have HA0:=Ba hA0
 have HA1:=Ba hA1
 have HB0:=Ba hB0
 have HB1:=Ba hB1
 clear v1 v2 v3 V1 V2 V5 V6 le1 hA0 hA1 hB0 hB1
 have rl:Gj w5 (.slice (some ⟨g1,0,none⟩) (half+half) (half+half)) z1 g3:=by
  rw [← N1.out];simpa using k1a.rdX (g:=g3) 0 z1.length z1.length (by omega) (Nat.le_refl _) gne1
 have h59:=Ni g3 [] z3 [] _ z1 z3.length w5 (by simpa using k3) (by rw [N1.out,hn3];omega) rl l3 l1 (by omega) (by have:=LE1.out;rw [W1.out,W3.out];omega)
 simp only [List.length_nil] at h59
 have H59:=Ba h59
 have HN3:Hid (z3.length=half+1+(half+1)):=hn3
 clear hn3 h59 rl
 go_wp2_with fail
 refine H59.out.mono ?_
 rintro e w6 ⟨z3',rfl,k3a,n3a,l3a,v3a,o3a⟩
 have k1b:=o3a.blk k1a gne1
 have k2b:=o3a.blk k2a gne2
 have hg6:=o3a.blk hg5 gne3
 have w56:=o3a.size
 have g3g:w.heap.size≤g3:=by have:=f1'.size;omega
 have V3a:Hid (M.val Bb z3'=(A0+A1)*(B0+B1) - A0*B0):=by show _=_;rw [v3a,W1.out,W3.out]
 have N3a:Hid (z3'.length=z3.length):=n3a
 have rh:Gj w6 (.slice (some ⟨g2,0,none⟩) (n - half+(n - half)) (n - half+(n - half))) z2 g3:=by
  rw [← N2.out];simpa using k2b.rdX (g:=g3) 0 z2.length z2.length (by omega) (Nat.le_refl _) gne2
 have h59:=Ni g3 [] z3' [] _ z2 z3.length w6 (by simpa using k3a) (by rw [N2.out,n3a,HN3.out];omega) rh l3a l2 (by rw [n3a,HN3.out];omega) (by have:=LE1.out;rw [W2.out,V3a.out];omega)
 simp only [List.length_nil] at h59
 rw [n3a] at h59
 have H59b:=Ba h59
 clear h59 rh v3a n3a H59 k1a k2a hg5
 go_wp2_with fail
 refine H59b.out.mono ?_
 rintro e w7 ⟨z4,rfl,k4,n4,l4,v4,o4⟩
 have k1c:=o4.blk k1b gne1
 have k2c:=o4.blk k2b gne2
 have hg7:=o4.blk hg6 gne3
 have w67:=o4.size
 have V4:Hid (M.val Bb z4=(A0+A1)*(B0+B1) - A0*B0 - A1*B1):=by show _=_;rw [v4,V3a.out,W2.out]
 have N4:Hid (z4.length=half+1+(half+1)):=by show _=_;rw [n4,HN3.out]
 clear v4 n4 H59b k1b k2b hg6 k3a V3a N3a l3a
 have rl:Gj w7 (.slice (some ⟨g1,0,none⟩) (half+half) (half+half)) z1 g:=by
  rw [← N1.out];simpa using k1c.rdX (g:=g) 0 z1.length z1.length (by omega) (Nat.le_refl _) gne4
 have hrep:List.replicate (2*n) 0=List.replicate (half+half) 0 ++ List.replicate (2*n - (half+half)) 0:=by
  rw [List.replicate_append_replicate];congr 1;omega
 obtain ⟨w8,hcp1,kg8,o8⟩:=Zj w7 3 g [] (List.replicate (half+half) 0) (List.replicate (2*n - (half+half)) 0) (2*n) (2*n) _ z1 (by rw [List.nil_append,← hrep];exact hg7) rl (by rw [List.length_replicate,N1.out]) (by rw [N1.out];omega) (by rw [N1.out];omega)
 rw [List.length_nil,N1.out] at hcp1
 have k2d:=o8.blk k2c gne5
 have k4d:=o8.blk k4 (Ne.symm gne3)
 have rh:Gj w8 (.slice (some ⟨g2,0,none⟩) (n - half+(n - half)) (n - half+(n - half))) z2 g:=by
  rw [← N2.out];simpa using k2d.rdX (g:=g) 0 z2.length z2.length (by omega) (Nat.le_refl _) gne5
 obtain ⟨w9,hcp2,kg9,o9⟩:=Zj w8 3 g z1 (List.replicate (2*n - (half+half)) 0) [] (2*n - 2*half) (2*n - 2*half) _ z2 (by rw [List.append_nil];simpa using kg8) rh (by rw [List.length_replicate,N2.out];omega) (by rw [N2.out];omega) (by rw [N2.out];omega)
 rw [show z1.length=2*half by rw [N1.out];omega,N2.out] at hcp2
 rw [List.append_nil] at kg9
 have k4e:=o9.blk k4d (Ne.symm gne3)
 have Z:=Ba (show (z1 ++ z2).length=2*n by rw [Ji,N1.out,N2.out];omega)
 have hpl:((z1 ++ z2).take half).length=half:=by rw [List.length_take,Z.out];omega
 have hsl:((z1 ++ z2).drop half).length=2*n - half:=by rw [List.length_drop,Z.out]
 have lz:M.Low Bb (z1 ++ z2):=l1.append l2
 have r4:Rd w9.drew (.slice (some ⟨g3,0,none⟩) z3.length z3.length) z4:=by
  rw [HN3.out,← N4.out]
  have h:=k4e.rd0 _ (Jb _)
  simp only [List.nil_append,List.append_nil] at h
  exact h
 have H32:=Ba (Sz w9.drew _ _ _ z4 r4 l4 (by rw [N4.out];omega))
 obtain ⟨m,hm⟩:∃ m,m=(M.digs Bb (M.val Bb z4)).length:=⟨_,rfl⟩
 rw [← hm] at H32
 have hm4:m≤z4.length:=by rw [hm];exact M.digs_length_le Be l4
 have hcross:M.val Bb z4=A0*B1+A1*B0:=by
  rw [V4.out,Nat.add_mul,Nat.mul_add,Nat.mul_add];omega
 have hmn:m≤n+1:=by
  rw [hm,hcross]
  refine M.digs_len_of_lt Be (M.add_lt_pow Be ?_ ?_)
  ·have e1:=M.val_lt_pow (k:=half) Bm (la.take half) (by rw [HLX.out];exact Jb _)
   have e2:=M.val_lt_pow (k:=n - half) Bm (lb.drop half) (by rw [HDY.out];exact Jb _)
   rw [HA0.out,HB1.out,show n=half+(n - half) by omega,Nat.pow_add]
   exact Nat.mul_lt_mul'' e1 e2
  ·have e1:=M.val_lt_pow (k:=n - half) Bm (la.drop half) (by rw [HDX.out];exact Jb _)
   have e2:=M.val_lt_pow (k:=half) Bm (lb.take half) (by rw [HLY.out];exact Jb _)
   rw [HA1.out,HB0.out,show n=(n - half)+half by omega,Nat.pow_add]
   exact Nat.mul_lt_mul'' e1 e2
 have hv12:M.val Bb (z1 ++ z2)=A0*B0+Bb ^ half*Bb ^ half*(A1*B1):=by
  rw [M.val_append,N1.out,Nat.pow_add,W1.out,W2.out]
 have hps:=C5 Bb (z1 ++ z2) half (by rw [Z.out];omega)
 have hX:M.val Bb xs=A0+Bb ^ half*A1:=by
  rw [C5 Bb xs half (by rw [HX.out];omega),HA0.out,HA1.out]
 have hY:M.val Bb ys=B0+Bb ^ half*B1:=by
  rw [C5 Bb ys half (by rw [HY.out];omega),HB0.out,HB1.out]
 have hXY:M.val Bb xs*M.val Bb ys=M.val Bb ((z1 ++ z2).take half)+Bb ^ half*M.val Bb ((z1 ++ z2).drop half)+Bb ^ half*M.val Bb z4:=by
  rw [← hps,hv12,hX,hY,Bo8,V4.out];omega
 have hlt:M.val Bb xs*M.val Bb ys<Bb ^ (2*n):=by
  rw [show 2*n=n+n by omega,Nat.pow_add]
  exact Nat.mul_lt_mul'' (M.val_lt_pow Bm la (by rw [HX.out];exact Jb _)) (M.val_lt_pow Bm lb (by rw [HY.out];exact Jb _))
 have rx:Gj w9.drew (.slice (some ⟨g3,0,none⟩) m m) (M.digs Bb (M.val Bb z4)) g:=by
  have h:=(k4e.rdX (g:=g) 0 z4.length z4.length (by simp) (Nat.le_refl _) (Ne.symm gne3))
  simp only [List.nil_append,List.append_nil,List.drop_zero,List.take_length] at h
  have h2:=h.take m m hm4 (Jb _)
  rw [hm,Bev l4,← hm] at h2
  exact h2
 have h52:=F5 g ((z1 ++ z2).take half) ((z1 ++ z2).drop half) [] _ (M.digs Bb (M.val Bb z4)) (2*n - half) w9.drew (by rw [List.take_append_drop,List.append_nil];exact kg9) (by rw [hsl,← hm];omega) rx (lz.drop half) (M.Low.digs Be _) (by rw [hsl];omega)
 rw [hpl,hsl,M.val_digs Be] at h52
 have H52:=Ba h52
 have FIN:=Ba (fun (s' c:Nat) (hv:s'+Bb ^ (2*n - half)*c=M.val Bb ((z1 ++ z2).drop half)+M.val Bb z4)=>X9 (by omega) hv hXY hlt)
 have HSL:=Ba hsl
 have HPL:=Ba hpl
 have t9:Br g w w9.drew:=(((t5.only (o3a.trans o4) g3g).trans o8.grew).trans o9.grew).drew
 have i7:(half:Int)≤2*(n:Int):=by omega
 have i8:¬ 2*n=half:=by omega
 clear h52 rx hlt hXY hX hY hps hv12 hcross hsl hpl r4 hm hm4
 go_wp2
 go_region_held3 (fun _=>True) (trivial) (first | (go_at_call 177;refine H32.out.mono ?_;rintro e w10 ⟨rfl,rfl⟩) | (go_at_call 214;refine H52.out.mono ?_;rintro e w10 ⟨s',c,rfl,kk,nn,ll,cc,vv,oo⟩))
 go_wp2
 go_end0
 refine ⟨(z1 ++ z2).take half ++ s',rfl,by simpa using kk,?_,(lz.take half).append ll,?_,t9.trans oo.grew⟩
 ·rw [Ji,HPL.out,nn];omega
 ·rw [M.val_append,HPL.out];exact FIN.out _ _ vv
theorem Baa (N:Nat) (hP:Ot N) (va vb:Value) (xs ys:List Nat) (w:World) (ha:Rd w va xs) (hb:Rd w vb ys) (la:M.Low Bb xs) (lb:M.Low Bb ys) (he:ys.length=xs.length) (h40:40≤xs.length) (hm:xs.length≤100000) (hN:2*xs.length≤N+1) :
  Calls Tryz.prog 180 #[va,vb] w (Wa w (M.val Bb xs) (M.val Bb ys) (xs.length+ys.length)):=by
 have HP:=Ba hP
 have ha0:=ha
 have hb0:=hb
 obtain ⟨a,ca,rfl,hca,-⟩:=ha
 obtain ⟨b,cb,rfl,hcb,-⟩:=hb
 have HE:Hid (ys.length=xs.length):=he
 rw [he] at hb0 hcb ⊢
 have hd40:decide ((xs.length:Int)<40)=false:=by simp;omega
 clear hP he
 go_enter Tryz.func180,Tryz.ntmps180
 go_wp2_with (first
  | (at_make;refine Cn rfl _ _ rfl _ (2*xs.length) rfl rfl (by omega) (by omega) ?_;intro w2 hblk hbel)
  | (go_at_call 213;refine (S6 xs.length N hN HP.out w.heap.size _ _ xs ys _ rfl HE.out h40 hm (ha0.apart hbel (Jb _)) (hb0.apart hbel (Jb _)) la lb hblk).mono ?_;rintro e w3 ⟨zs,rfl,k3,n3,l3,v3,t3⟩))
 have V3:=Ba v3
 have N3:=Ba n3
 clear v3 n3
 go_wp2
 go_ret
 exact ⟨w.heap.size,zs,by rw [N3.out];rfl,k3,by rw [N3.out];omega,l3,V3.out,Jb _,t3.b hbel (Jb _) hbel.size⟩
def CAt (xs ys zs:List Nat) (i:Nat):Prop:=zs.length=xs.length+ys.length∧M.Low Bb zs∧M.val Bb zs=M.val Bb (xs.take i)*M.val Bb ys
theorem CAt.step {xs ys zs s':List Nat} {i e c P:Nat} (la:M.Low Bb xs) (lb:M.Low Bb ys) (h:CAt xs ys zs i) (hi:i≤e) (hex:e≤xs.length) (hs:s'.length=xs.length+ys.length - i) (hl:M.Low Bb s')
  (hP:P=M.val Bb ((xs.drop i).take (e - i))*M.val Bb ys) (hv:M.val Bb s'+Bb ^ (xs.length+ys.length - i)*c=M.val Bb (zs.drop i)+P):CAt xs ys (zs.take i ++ s') e:=by
 obtain ⟨h1,h2,h3⟩:=h
 have ht:(zs.take i).length=i:=by simp;omega
 refine ⟨by rw [Ji,ht,hs];omega,(h2.take i).append hl,?_⟩
 have e1:xs.take e=xs.take i ++ (xs.drop i).take (e - i):=by
  rw [← List.take_append_drop i (xs.take e),List.take_take,Nat.min_eq_left hi,List.drop_take]
 have e2:M.val Bb (xs.take e)*M.val Bb ys=M.val Bb (zs.take i)+Bb ^ i*M.val Bb (zs.drop i)+Bb ^ i*P:=by
  rw [e1,M.val_append,Nat.add_mul,← h3,← C5 Bb zs i (by omega),hP,Nat.mul_assoc,List.length_take,Nat.min_eq_left (by omega)]
 have e3:M.val Bb (xs.take e)*M.val Bb ys<Bb ^ (xs.length+ys.length):=by
  rw [Nat.pow_add]
  exact Nat.mul_lt_mul'' (M.val_lt_pow Bm (la.take e) (by simp;omega)) (M.val_lt_pow Bm lb (Nat.le_refl _))
 rw [M.val_append,ht]
 exact X9 (by omega) hv e2 e3
theorem Nx (N:Nat) (hP:Ot N) (va vb:Value) (xs ys:List Nat) (w:World) (ha:Rd w va xs) (hb:Rd w vb ys) (la:M.Low Bb xs) (lb:M.Low Bb ys) (hlt:ys.length<xs.length) (h40:40≤ys.length) (hm:xs.length≤100000) (hN:2*ys.length≤N) :
  Calls Tryz.prog 180 #[va,vb] w (Wa w (M.val Bb xs) (M.val Bb ys) (xs.length+ys.length))∧Calls Tryz.prog 180 #[vb,va] w (Wa w (M.val Bb xs) (M.val Bb ys) (xs.length+ys.length)):=by
 have HP:=Ba hP
 have ha0:=ha
 have hb0:=hb
 obtain ⟨a,ca,rfl,hca,hac⟩:=ha
 obtain ⟨b,cb,rfl,hcb,hbc⟩:=hb
 obtain ⟨ab,ao,rfl,_⟩:=hac 0 (by omega)
 obtain ⟨bb,bo,rfl,_⟩:=hbc 0 (by omega)
 have hd40:decide ((ys.length:Int)<40)=false:=by simp;omega
 have hde:((ys.length:Int) == (xs.length:Int))=false:=by simp;omega
 obtain ⟨n,hn⟩:∃ n,n=xs.length+ys.length:=⟨_,rfl⟩
 rw [← hn]
 have HN:Hid (n=xs.length+ys.length):=hn
 have hnb:n≤200000:=by omega
 have hnn:xs.length<n:=by omega
 clear hn hP hac hbc
 refine ⟨?_,?_⟩
 ·have hnl:¬ xs.length<ys.length:=by omega
  go_enter Tryz.func180,Tryz.ntmps180
  go_wp2_with (at_make;refine Cn rfl _ _ rfl _ n rfl rfl (by have:=HN.out;omega) (by omega) ?_;intro w2 hblk hbel)
  go_loopw [9] (fun i wr=>∃ (k:Nat) (zs:List Nat),k≤n∧i=.int .i64 k∧CAt xs ys zs k∧Cm wr w.heap.size zs∧Below w.heap.size w wr) (fun i _=>n - (intOf i).toNat)
  case atStart =>
   exact ⟨0,List.replicate n 0,by omega,rfl,⟨by rw [List.length_replicate];exact HN.out,M.Low.replicate _ _ Bm,by simp [M.val,M.val_replicate]⟩,hblk,hbel⟩
  case round =>
   obtain ⟨k,zs,hk,rfl,hat,hblk',hbel'⟩:=hrel
   have ZL:Hid (zs.length=xs.length+ys.length):=hat.1
   by_cases hlt':k<xs.length
   ·have ha1:=ha0.b hbel'
    have hb1:=hb0.b hbel'
    by_cases hend:xs.length<k+ys.length
    ·have htk:xs.take xs.length=xs.take (k+ys.length):=by rw [List.take_length,List.take_of_length_le (by omega)]
     have HTK:=Ba htk
     clear htk
     have hce:((xs.length):Nat)≤xs.length:=by omega
     have q1:Rd wr.drew (.slice (some ⟨ab,ao+k,none⟩) (xs.length - k) (xs.length - k)) ((xs.drop k).take (xs.length - k)):=(ha1.drop k (xs.length - k) (xs.length - k) rfl (Jb _)).take (xs.length - k) (xs.length - k) (by first | (simp;done) | (simp;omega)) (Nat.le_refl _)
     have hql:((xs.drop k).take (xs.length - k)).length=xs.length - k   := by first | (simp;done) | (simp;omega)
     have h43:=HP.out _ _ _ _ _ q1 hb1 ((la.drop k).take _) lb (by rw [hql];omega)
     rw [hql] at h43
     have h52:∀ (g2:Nat) (z2:List Nat) (w3:World),Cm w3 w.heap.size zs→Cm w3 g2 z2→w.heap.size<g2→z2.length=xs.length - k+ys.length→M.Low Bb z2→M.val Bb z2=M.val Bb ((xs.drop k).take (xs.length - k))*M.val Bb ys →
       Calls Tryz.prog 214 #[.slice (some ⟨w.heap.size,k,none⟩) (n - k) (n - k),.slice (some ⟨g2,0,none⟩) z2.length z2.length] w3 fun e w'=>∃ (zs':List Nat) (c:Nat),e=.returned (.int .u64 (c:Nat))∧Cm w' w.heap.size zs'∧CAt xs ys zs' (k+ys.length)∧Bu w.heap.size w3 w':=by
      intro g2 z2 w3 kk1 kk2 hgg hz2 lz2 vz2
      have hpl:(zs.take k).length=k:=by rw [List.length_take,ZL.out];omega
      have hsl:(zs.drop k).length=n - k:=by rw [List.length_drop,ZL.out,HN.out]
      have h:=F5 w.heap.size (zs.take k) (zs.drop k) [] (.slice (some ⟨g2,0,none⟩) z2.length z2.length) z2 (n - k) w3 (by rw [List.take_append_drop,List.append_nil];exact kk1) (by rw [hsl,hz2,HN.out];omega) (by simpa using kk2.rdX (g:=w.heap.size) 0 z2.length z2.length (by omega) (Nat.le_refl _) (by omega)) (hat.2.1.drop k) lz2 (by rw [hsl];omega)
      rw [hpl,hsl] at h
      refine h.mono ?_
      rintro e w' ⟨s',c,rfl,r1,r2,r3,r4,r5,r6⟩
      refine ⟨zs.take k ++ s',c,rfl,by simpa using r1,?_,r6⟩
      rw [vz2,HN.out] at r5
      have h2:=hat.step (e:=xs.length) la lb (by omega) (by omega) (by rw [r2,HN.out]) r3 rfl r5
      exact ⟨h2.1,h2.2.1,by rw [h2.2.2,HTK.out]⟩
     have H43:=Ba h43
     have H52:=Ba h52
     have i1:(k:Int)≤(n:Int):=by omega
     have i2:¬ n=k:=by omega
     have i3:(((xs.length):Nat):Int)≤(ca:Int):=by omega
     have i4:(k:Int)≤(((xs.length):Nat):Int):=by omega
     have i5:¬ (xs.length)=k:=by omega
     clear h43 h52 q1 hql
     go_wp2
     go_region_held3 (fun _=>True) (trivial) (first | (go_at_call 180;refine H43.out.mono ?_;rintro e w3 ⟨g2,z2,rfl,k2,n2,l2,v2,s2,f2⟩;have N2:=Ba n2;have V2:=Ba v2;have K2:=Ba k2;clear n2 v2 k2) | (go_at_call 214;refine (H52.out _ _ _ (hblk'.b ⟨f2.os,f2.tape,f2.output,f2.size,f2.block⟩) K2.out (Jl hblk'.lt s2) N2.out l2 V2.out).mono ?_;rintro e w4 ⟨zs',c,rfl,kk,cat,oo⟩))
     go_wp2
     go_roundw
     case rel =>
      have f2':Below wr.heap.size wr w3:=⟨f2.os,f2.tape,f2.output,f2.size,f2.block⟩
      exact ⟨k+ys.length,zs',by have:=HN.out;omega,by go_num,cat,kk,oo.b (Ia hbel' f2') (Jb _)⟩
     case measure=>simp [intOf];omega
    ·have hend':k+ys.length≤xs.length:=by omega
     clear hend
     have hce:((k+ys.length):Nat)≤xs.length:=by omega
     have q1:Rd wr.drew (.slice (some ⟨ab,ao+k,none⟩) ys.length ys.length) ((xs.drop k).take ys.length):=(ha1.drop k (xs.length - k) (xs.length - k) rfl (Jb _)).take ys.length ys.length (by first | (simp;done) | (simp;omega)) (Nat.le_refl _)
     have hql:((xs.drop k).take ys.length).length=ys.length   := by first | (simp;done) | (simp;omega)
     have h43:=HP.out _ _ _ _ _ q1 hb1 ((la.drop k).take _) lb (by rw [hql];omega)
     rw [hql] at h43
     have h52:∀ (g2:Nat) (z2:List Nat) (w3:World),Cm w3 w.heap.size zs→Cm w3 g2 z2→w.heap.size<g2→z2.length=ys.length+ys.length→M.Low Bb z2→M.val Bb z2=M.val Bb ((xs.drop k).take ys.length)*M.val Bb ys →
       Calls Tryz.prog 214 #[.slice (some ⟨w.heap.size,k,none⟩) (n - k) (n - k),.slice (some ⟨g2,0,none⟩) z2.length z2.length] w3 fun e w'=>∃ (zs':List Nat) (c:Nat),e=.returned (.int .u64 (c:Nat))∧Cm w' w.heap.size zs'∧CAt xs ys zs' (k+ys.length)∧Bu w.heap.size w3 w':=by
      intro g2 z2 w3 kk1 kk2 hgg hz2 lz2 vz2
      have hpl:(zs.take k).length=k:=by rw [List.length_take,ZL.out];omega
      have hsl:(zs.drop k).length=n - k:=by rw [List.length_drop,ZL.out,HN.out]
      have h:=F5 w.heap.size (zs.take k) (zs.drop k) [] (.slice (some ⟨g2,0,none⟩) z2.length z2.length) z2 (n - k) w3 (by rw [List.take_append_drop,List.append_nil];exact kk1) (by rw [hsl,hz2,HN.out];omega) (by simpa using kk2.rdX (g:=w.heap.size) 0 z2.length z2.length (by omega) (Nat.le_refl _) (by omega)) (hat.2.1.drop k) lz2 (by rw [hsl];omega)
      rw [hpl,hsl] at h
      refine h.mono ?_
      rintro e w' ⟨s',c,rfl,r1,r2,r3,r4,r5,r6⟩
      refine ⟨zs.take k ++ s',c,rfl,by simpa using r1,?_,r6⟩
      rw [vz2,HN.out] at r5
      have h2:=hat.step (e:=k+ys.length) la lb (by omega) (by omega) (by rw [r2,HN.out]) r3 (by rw [Nat.add_sub_cancel_left]) r5
      exact h2
     have H43:=Ba h43
     have H52:=Ba h52
     have i1:(k:Int)≤(n:Int):=by omega
     have i2:¬ n=k:=by omega
     have i3:(k:Int)+(ys.length:Int)≤(ca:Int):=by omega
     have i4:(k:Int)≤(k:Int)+(ys.length:Int):=by omega
     have i5:¬ ys.length=0:=by omega
     have i6:((k:Int)+(ys.length:Int)).toNat=k+ys.length:=by omega
     clear h43 h52 q1 hql
     go_wp2
     go_region_held3 (fun _=>True) (trivial) (first | (go_at_call 180;refine H43.out.mono ?_;rintro e w3 ⟨g2,z2,rfl,k2,n2,l2,v2,s2,f2⟩;have N2:=Ba n2;have V2:=Ba v2;have K2:=Ba k2;clear n2 v2 k2) | (go_at_call 214;refine (H52.out _ _ _ (hblk'.b ⟨f2.os,f2.tape,f2.output,f2.size,f2.block⟩) K2.out (Jl hblk'.lt s2) N2.out l2 V2.out).mono ?_;rintro e w4 ⟨zs',c,rfl,kk,cat,oo⟩))
     go_wp2
     go_roundw
     case rel =>
      have f2':Below wr.heap.size wr w3:=⟨f2.os,f2.tape,f2.output,f2.size,f2.block⟩
      exact ⟨k+ys.length,zs',by have:=HN.out;omega,by go_num,cat,kk,oo.b (Ia hbel' f2') (Jb _)⟩
     case measure=>simp [intOf];omega
   ·have h3:=hat.2.2
    rw [M.val_take_all _ _ _ (by omega)] at h3
    have H3:=Ba h3
    have HU:Hid (zs.length=n):=by show _=_;rw [ZL.out,HN.out]
    clear h3 hblk hbel
    go_wp2
    go_ret
    exact ⟨w.heap.size,zs,by rw [HU.out];rfl,hblk',HU.out,hat.2.1,H3.out,Jb _,hbel'⟩
 ·go_enter Tryz.func180,Tryz.ntmps180
  go_wp2_with (at_make;refine Cn rfl _ _ rfl _ n rfl rfl (by have:=HN.out;omega) (by omega) ?_;intro w2 hblk hbel)
  go_loopw [9] (fun i wr=>∃ (k:Nat) (zs:List Nat),k≤n∧i=.int .i64 k∧CAt xs ys zs k∧Cm wr w.heap.size zs∧Below w.heap.size w wr) (fun i _=>n - (intOf i).toNat)
  case atStart =>
   exact ⟨0,List.replicate n 0,by omega,rfl,⟨by rw [List.length_replicate];exact HN.out,M.Low.replicate _ _ Bm,by simp [M.val,M.val_replicate]⟩,hblk,hbel⟩
  case round =>
   obtain ⟨k,zs,hk,rfl,hat,hblk',hbel'⟩:=hrel
   have ZL:Hid (zs.length=xs.length+ys.length):=hat.1
   by_cases hlt':k<xs.length
   ·have ha1:=ha0.b hbel'
    have hb1:=hb0.b hbel'
    by_cases hend:xs.length<k+ys.length
    ·have htk:xs.take xs.length=xs.take (k+ys.length):=by rw [List.take_length,List.take_of_length_le (by omega)]
     have HTK:=Ba htk
     clear htk
     have hce:((xs.length):Nat)≤xs.length:=by omega
     have q1:Rd wr.drew (.slice (some ⟨ab,ao+k,none⟩) (xs.length - k) (xs.length - k)) ((xs.drop k).take (xs.length - k)):=(ha1.drop k (xs.length - k) (xs.length - k) rfl (Jb _)).take (xs.length - k) (xs.length - k) (by first | (simp;done) | (simp;omega)) (Nat.le_refl _)
     have hql:((xs.drop k).take (xs.length - k)).length=xs.length - k   := by first | (simp;done) | (simp;omega)
     have h43:=HP.out _ _ _ _ _ q1 hb1 ((la.drop k).take _) lb (by rw [hql];omega)
     rw [hql] at h43
     have h52:∀ (g2:Nat) (z2:List Nat) (w3:World),Cm w3 w.heap.size zs→Cm w3 g2 z2→w.heap.size<g2→z2.length=xs.length - k+ys.length→M.Low Bb z2→M.val Bb z2=M.val Bb ((xs.drop k).take (xs.length - k))*M.val Bb ys →
       Calls Tryz.prog 214 #[.slice (some ⟨w.heap.size,k,none⟩) (n - k) (n - k),.slice (some ⟨g2,0,none⟩) z2.length z2.length] w3 fun e w'=>∃ (zs':List Nat) (c:Nat),e=.returned (.int .u64 (c:Nat))∧Cm w' w.heap.size zs'∧CAt xs ys zs' (k+ys.length)∧Bu w.heap.size w3 w':=by
      intro g2 z2 w3 kk1 kk2 hgg hz2 lz2 vz2
      have hpl:(zs.take k).length=k:=by rw [List.length_take,ZL.out];omega
      have hsl:(zs.drop k).length=n - k:=by rw [List.length_drop,ZL.out,HN.out]
      have h:=F5 w.heap.size (zs.take k) (zs.drop k) [] (.slice (some ⟨g2,0,none⟩) z2.length z2.length) z2 (n - k) w3 (by rw [List.take_append_drop,List.append_nil];exact kk1) (by rw [hsl,hz2,HN.out];omega) (by simpa using kk2.rdX (g:=w.heap.size) 0 z2.length z2.length (by omega) (Nat.le_refl _) (by omega)) (hat.2.1.drop k) lz2 (by rw [hsl];omega)
      rw [hpl,hsl] at h
      refine h.mono ?_
      rintro e w' ⟨s',c,rfl,r1,r2,r3,r4,r5,r6⟩
      refine ⟨zs.take k ++ s',c,rfl,by simpa using r1,?_,r6⟩
      rw [vz2,HN.out] at r5
      have h2:=hat.step (e:=xs.length) la lb (by omega) (by omega) (by rw [r2,HN.out]) r3 rfl r5
      exact ⟨h2.1,h2.2.1,by rw [h2.2.2,HTK.out]⟩
     have H43:=Ba h43
     have H52:=Ba h52
     have i1:(k:Int)≤(n:Int):=by omega
     have i2:¬ n=k:=by omega
     have i3:(((xs.length):Nat):Int)≤(ca:Int):=by omega
     have i4:(k:Int)≤(((xs.length):Nat):Int):=by omega
     have i5:¬ (xs.length)=k:=by omega
     clear h43 h52 q1 hql
     go_wp2
     go_region_held3 (fun _=>True) (trivial) (first | (go_at_call 180;refine H43.out.mono ?_;rintro e w3 ⟨g2,z2,rfl,k2,n2,l2,v2,s2,f2⟩;have N2:=Ba n2;have V2:=Ba v2;have K2:=Ba k2;clear n2 v2 k2) | (go_at_call 214;refine (H52.out _ _ _ (hblk'.b ⟨f2.os,f2.tape,f2.output,f2.size,f2.block⟩) K2.out (Jl hblk'.lt s2) N2.out l2 V2.out).mono ?_;rintro e w4 ⟨zs',c,rfl,kk,cat,oo⟩))
     go_wp2
     go_roundw
     case rel =>
      have f2':Below wr.heap.size wr w3:=⟨f2.os,f2.tape,f2.output,f2.size,f2.block⟩
      exact ⟨k+ys.length,zs',by have:=HN.out;omega,by go_num,cat,kk,oo.b (Ia hbel' f2') (Jb _)⟩
     case measure=>simp [intOf];omega
    ·have hend':k+ys.length≤xs.length:=by omega
     clear hend
     have hce:((k+ys.length):Nat)≤xs.length:=by omega
     have q1:Rd wr.drew (.slice (some ⟨ab,ao+k,none⟩) ys.length ys.length) ((xs.drop k).take ys.length):=(ha1.drop k (xs.length - k) (xs.length - k) rfl (Jb _)).take ys.length ys.length (by first | (simp;done) | (simp;omega)) (Nat.le_refl _)
     have hql:((xs.drop k).take ys.length).length=ys.length   := by first | (simp;done) | (simp;omega)
     have h43:=HP.out _ _ _ _ _ q1 hb1 ((la.drop k).take _) lb (by rw [hql];omega)
     rw [hql] at h43
     have h52:∀ (g2:Nat) (z2:List Nat) (w3:World),Cm w3 w.heap.size zs→Cm w3 g2 z2→w.heap.size<g2→z2.length=ys.length+ys.length→M.Low Bb z2→M.val Bb z2=M.val Bb ((xs.drop k).take ys.length)*M.val Bb ys →
       Calls Tryz.prog 214 #[.slice (some ⟨w.heap.size,k,none⟩) (n - k) (n - k),.slice (some ⟨g2,0,none⟩) z2.length z2.length] w3 fun e w'=>∃ (zs':List Nat) (c:Nat),e=.returned (.int .u64 (c:Nat))∧Cm w' w.heap.size zs'∧CAt xs ys zs' (k+ys.length)∧Bu w.heap.size w3 w':=by
      intro g2 z2 w3 kk1 kk2 hgg hz2 lz2 vz2
      have hpl:(zs.take k).length=k:=by rw [List.length_take,ZL.out];omega
      have hsl:(zs.drop k).length=n - k:=by rw [List.length_drop,ZL.out,HN.out]
      have h:=F5 w.heap.size (zs.take k) (zs.drop k) [] (.slice (some ⟨g2,0,none⟩) z2.length z2.length) z2 (n - k) w3 (by rw [List.take_append_drop,List.append_nil];exact kk1) (by rw [hsl,hz2,HN.out];omega) (by simpa using kk2.rdX (g:=w.heap.size) 0 z2.length z2.length (by omega) (Nat.le_refl _) (by omega)) (hat.2.1.drop k) lz2 (by rw [hsl];omega)
      rw [hpl,hsl] at h
      refine h.mono ?_
      rintro e w' ⟨s',c,rfl,r1,r2,r3,r4,r5,r6⟩
      refine ⟨zs.take k ++ s',c,rfl,by simpa using r1,?_,r6⟩
      rw [vz2,HN.out] at r5
      have h2:=hat.step (e:=k+ys.length) la lb (by omega) (by omega) (by rw [r2,HN.out]) r3 (by rw [Nat.add_sub_cancel_left]) r5
      exact h2
     have H43:=Ba h43
     have H52:=Ba h52
     have i1:(k:Int)≤(n:Int):=by omega
     have i2:¬ n=k:=by omega
     have i3:(k:Int)+(ys.length:Int)≤(ca:Int):=by omega
     have i4:(k:Int)≤(k:Int)+(ys.length:Int):=by omega
     have i5:¬ ys.length=0:=by omega
     have i6:((k:Int)+(ys.length:Int)).toNat=k+ys.length:=by omega
     clear h43 h52 q1 hql
     go_wp2
     go_region_held3 (fun _=>True) (trivial) (first | (go_at_call 180;refine H43.out.mono ?_;rintro e w3 ⟨g2,z2,rfl,k2,n2,l2,v2,s2,f2⟩;have N2:=Ba n2;have V2:=Ba v2;have K2:=Ba k2;clear n2 v2 k2) | (go_at_call 214;refine (H52.out _ _ _ (hblk'.b ⟨f2.os,f2.tape,f2.output,f2.size,f2.block⟩) K2.out (Jl hblk'.lt s2) N2.out l2 V2.out).mono ?_;rintro e w4 ⟨zs',c,rfl,kk,cat,oo⟩))
     go_wp2
     go_roundw
     case rel =>
      have f2':Below wr.heap.size wr w3:=⟨f2.os,f2.tape,f2.output,f2.size,f2.block⟩
      exact ⟨k+ys.length,zs',by have:=HN.out;omega,by go_num,cat,kk,oo.b (Ia hbel' f2') (Jb _)⟩
     case measure=>simp [intOf];omega
   ·have h3:=hat.2.2
    rw [M.val_take_all _ _ _ (by omega)] at h3
    have H3:=Ba h3
    have HU:Hid (zs.length=n):=by show _=_;rw [ZL.out,HN.out]
    clear h3 hblk hbel
    go_wp2
    go_ret
    exact ⟨w.heap.size,zs,by rw [HU.out];rfl,hblk',HU.out,hat.2.1,H3.out,Jb _,hbel'⟩
theorem Bda (g:Nat) (bs:Nat) (hbs:2≤bs) (w:World) (v:Value) (xs:List Nat) (hv:Gj w v xs g) (hl:M.Low bs xs) (hm:xs.length≤1000000) :
  Calls Tryz.prog 161 #[v] w fun e w'=>∃ v',e=.returned v'∧Gj w v' (M.digs bs (M.val bs xs)) g∧w'=w:=by
 have hv0:=hv
 obtain ⟨a,cap,rfl,hcap,hc⟩:=hv
 go_enter Tryz.func161,Tryz.ntmps161
 go_wp2
 go_loop [3] (fun n=>∃ k:Nat,k≤xs.length∧n=.int .i64 k∧∀ j,k≤j→lm xs j=0) (fun n=>(intOf n).toNat)
 case atStart=>exact ⟨xs.length,Jb _,rfl,fun j hj=>Ek hj⟩
 case round =>
  obtain ⟨k,hk,rfl,hz⟩:=hrel
  have HZ:Hid (∀ j,k≤j→lm xs j=0):=hz
  clear hz
  have fin:(∀ j,k=j+1→lm xs j≠0)→xs.take k=M.digs bs (M.val bs xs):=fun ht=>M.take_eq_digs hbs hl hk HZ.out ht
  have FIN:Hid ((∀ j,k=j+1→lm xs j≠0)→xs.take k=M.digs bs (M.val bs xs)):=fin
  clear fin
  match k with
  | 0 =>
   go_wp2
   go_ret
   exact ⟨_,rfl,by rw [← FIN.out (fun j hj=>by omega)];exact hv0.take 0 _ (by omega) (by omega),rfl⟩
  | k+1 =>
   obtain ⟨b,off,rfl,hne,hcell⟩:=hc k (by omega)
   clear hc
   by_cases h0:lm xs k=0
   ·go_wp2
    go_round
    case rel=>exact ⟨k,by omega,by go_num,fun j hj=>by
     by_cases e:j=k
     ·subst e;exact h0
     ·exact HZ.out j (by omega)⟩
    case measure=>simp [intOf]
   ·have hcap':((k:Int)+1)≤cap:=by omega
    go_wp2
    go_ret
    exact ⟨_,rfl,by rw [← FIN.out (fun j hj=>by have:j=k:=by omega
                                                subst this;exact h0)];exact hv0.take (k+1) _ (by omega) (by omega),rfl⟩
theorem Bfz (g:Nat) (va vb:Value) (xs ys:List Nat) (w:World) (ha:Rd w va xs) (hb:Rd w vb ys) (la:M.Low Bp xs) (lb:M.Low Bp ys) (hx:xs.length≤100000) (hyl:ys.length≤xs.length) (hle:M.val Bp ys≤M.val Bp xs) (hg:g<w.heap.size) :
  Calls Tryz.prog 143 #[va,vb] w fun e w'=>∃ v,e=.returned v∧Gj w' v (M.digs Bp (M.val Bp xs - M.val Bp ys)) g∧Below w.heap.size w w':=by
 have ha0:=ha
 have hb0:=hb
 obtain ⟨a,ca,rfl,hca,-⟩:=ha
 obtain ⟨b,cb,rfl,hcb,-⟩:=hb
 have HLE:Hid (M.val Bp ys≤M.val Bp xs):=hle
 clear hle
 go_enter Tryz.func143,Tryz.ntmps143
 go_wp2_with (at_make;refine Cn rfl _ _ rfl _ xs.length rfl rfl rfl (by omega) ?_;intro w2 hblk hbel)
 go_loopw [6,7] (fun c i wr=>∃ (k cc:Nat) (zs:List Nat),k≤xs.length∧i=.int .i64 k∧c=.int .u64 cc∧RSt xs ys zs k cc∧Cm wr w.heap.size (zs ++ List.replicate (xs.length - k) 0)∧Below w.heap.size w wr) (fun _ i _=>xs.length - (intOf i).toNat)
 case atStart=>exact ⟨0,0,[],by omega,rfl,rfl,⟨rfl,M.Low.nil _,by omega,by simp [M.val]⟩,by simpa using hblk,hbel⟩
 case round =>
  obtain ⟨k,cc,zs,hk,rfl,rfl,hat,hblk',hbel'⟩:=hrel
  have hcc:cc≤1:=hat.2.2.1
  have hzl:zs.length=k:=hat.1
  by_cases hlt:k<xs.length
  ·have hc1:=hblk'.cell (j:=k) (by simp;omega)
   have hf1:=hblk'.o k
   have hst:=hat.step la lb
   have HST:Hid (RSt xs ys (zs ++ [Fh (lm xs k) (lm ys k) cc]) (k+1) (E5 (lm xs k) (lm ys k) cc)):=hst
   have b1:lm xs k<4294967296:=Ci Ca la k
   have b2:lm ys k<4294967296:=Ci Ca lb k
   have hs:=hblk'.set k (Fh (lm xs k) (lm ys k) cc)
   rw [show xs.length - k=(xs.length - (k+1))+1 by omega] at hs
   have e:=M.set_append_replicate zs (xs.length - (k+1)) (Fh (lm xs k) (lm ys k) cc)
   rw [hzl] at e
   rw [e] at hs
   have HSB:Hid (Cm (wr.setCell ⟨w.heap.size,k,none⟩ (.int .u64 (Fh (lm xs k) (lm ys k) cc:Nat))) w.heap.size ((zs ++ [Fh (lm xs k) (lm ys k) cc]) ++ List.replicate (xs.length - (k+1)) 0)):=hs
   clear hst hs e
   obtain ⟨b1',o1,rfl,q1⟩:=ha0.at hbel' hlt
   by_cases h2:k<ys.length
   ·obtain ⟨b2',o2,rfl,q2⟩:=hb0.at hbel' h2
    by_cases h3:lm xs k<cc+lm ys k
    ·go_wp2
     rw [show (lm xs k:Int)+4294967296 - ((cc:Int)+(lm ys k:Int))=((Fh (lm xs k) (lm ys k) cc:Nat):Int) by unfold Fh Bp;omega]
     exact ⟨⟨k+1,E5 (lm xs k) (lm ys k) cc,_,by omega,by go_num,by rw [show E5 (lm xs k) (lm ys k) cc=1 by unfold E5;rw [if_pos h3]];rfl,HST.out,HSB.out,hbel'.setCell (Jb _) _⟩,by simp [intOf];omega⟩
    ·go_wp2
     rw [show (lm xs k:Int) - ((cc:Int)+(lm ys k:Int))=((Fh (lm xs k) (lm ys k) cc:Nat):Int) by unfold Fh Bp;omega]
     exact ⟨⟨k+1,E5 (lm xs k) (lm ys k) cc,_,by omega,by go_num,by rw [show E5 (lm xs k) (lm ys k) cc=0 by unfold E5;rw [if_neg h3]];rfl,HST.out,HSB.out,hbel'.setCell (Jb _) _⟩,by simp [intOf];omega⟩
   ·have Z2:Hid (lm ys k=0):=Ek (by omega)
    by_cases h3:lm xs k<cc
    ·go_wp2
     rw [show (lm xs k:Int)+4294967296 - (cc:Int)=((Fh (lm xs k) (lm ys k) cc:Nat):Int) by unfold Fh Bp;have:=Z2.out;omega]
     exact ⟨⟨k+1,E5 (lm xs k) (lm ys k) cc,_,by omega,by go_num,by rw [show E5 (lm xs k) (lm ys k) cc=1 by unfold E5;rw [if_pos (by omega)]];rfl,HST.out,HSB.out,hbel'.setCell (Jb _) _⟩,by simp [intOf];omega⟩
    ·go_wp2
     rw [show (lm xs k:Int) - (cc:Int)=((Fh (lm xs k) (lm ys k) cc:Nat):Int) by unfold Fh Bp;have:=Z2.out;omega]
     exact ⟨⟨k+1,E5 (lm xs k) (lm ys k) cc,_,by omega,by go_num,by rw [show E5 (lm xs k) (lm ys k) cc=0 by unfold E5;rw [if_neg (by have:=Z2.out;omega)]];rfl,HST.out,HSB.out,hbel'.setCell (Jb _) _⟩,by simp [intOf];omega⟩
  ·have hke:k=xs.length:=by omega
   have hfin:=hat.fin (by omega) (by omega) HLE.out
   have hrd:Gj wr (.slice (some ⟨w.heap.size,0,none⟩) xs.length xs.length) zs g:=by
    rw [hke,Nat.sub_self,List.replicate_zero,List.append_nil] at hblk'
    have:=hblk'.rdX (g:=g) 0 xs.length xs.length (by omega) (Jb _) (by omega)
    rwa [List.drop_zero,List.take_of_length_le (by omega)] at this
   have HF:Hid (M.val Bp zs=M.val Bp xs - M.val Bp ys):=hfin
   have hll:zs.length≤100000:=by omega
   have HKE:Hid (k=xs.length):=hke
   clear hfin hke
   go_wp2_with fail
   refine (Bda g Bp Bl _ _ zs hrd hat.2.1 (by omega)).mono ?_
   rintro e w' ⟨v',rfl,hv',rfl⟩
   go_wp2
   go_ret
   exact ⟨_,rfl,by rw [← HF.out];exact hv',hbel'⟩
theorem Wa.swap {w:World} {X Y n X' Y' n':Nat} {e:Ending} {w':World} (h:Wa w X Y n e w') (h1:X*Y=X'*Y') (h2:n=n'):Wa w X' Y' n' e w':=by
 obtain ⟨g,zs,a,b,c,d,e,f⟩:=h
 exact ⟨g,zs,a,b,by omega,d,by rw [e,h1],f⟩
theorem Rt:∀ N,N≤100000→Ot N
 | 0,_=>fun va vb xs ys w ha hb la lb hN=>(F7 va vb xs ys w ha hb la lb (by omega) (by omega) (by omega)).1
 | N+1,hNN=>fun va vb xs ys w ha hb la lb hN=>by
  have ih:=Rt N (by omega)
  rcases Nat.lt_trichotomy ys.length xs.length with h | h | h
  ·by_cases h40:ys.length<40
   ·exact (F7 va vb xs ys w ha hb la lb (by omega) h40 (by omega)).1
   ·exact (Nx N ih va vb xs ys w ha hb la lb h (by omega) (by omega) (by omega)).1
  ·by_cases h40:ys.length<40
   ·exact (F7 va vb xs ys w ha hb la lb (by omega) h40 (by omega)).1
   ·exact Baa N ih va vb xs ys w ha hb la lb h (by omega) (by omega) (by omega)
  ·by_cases h40:xs.length<40
   ·exact ((F7 vb va ys xs w hb ha lb la (by omega) h40 (by omega)).2 h).mono (fun _ _ r=>r.swap (Nat.mul_comm _ _) (Nat.add_comm _ _))
   ·exact (Nx N ih vb va ys xs w hb ha lb la h (by omega) (by omega) (by omega)).2.mono (fun _ _ r=>r.swap (Nat.mul_comm _ _) (Nat.add_comm _ _))
theorem Bjz (va vb:Value) (xs ys:List Nat) (w:World) (ha:Rd w va xs) (hb:Rd w vb ys) (la:M.Low Bb xs) (lb:M.Low Bb ys) (hx:xs.length≤4000) (hy:ys.length≤4000) :
  Calls Tryz.prog 132 #[va,vb] w fun e w'=>∃ v,e=.returned (.tuple #[v,.int .i64 0])∧Rd w' v (M.digs Bb (M.val Bb xs*M.val Bb ys))∧Below w.heap.size w w':=by
 have ha0:=ha
 have hb0:=hb
 obtain ⟨a,ca,rfl,hca,-⟩:=ha
 obtain ⟨b,cb,rfl,hcb,-⟩:=hb
 have l1:=M.digs_length_le Be la
 have l2:=M.digs_length_le Be lb
 go_enter Tryz.func132,Tryz.ntmps132
 go_wp2_with fail
 refine (Hx a b xs.length ys.length ca cb _ 0 2 _ (by simp [go_sem]) (by simp [go_sem]) hx hy).mono ?_
 rintro e w1 ⟨rfl,rfl⟩
 have hb1:Below w.heap.size w (w.alloc (.cells #[.slice a xs.length ca,.slice b ys.length cb] 64)):=by go_grown
 have ra:=ha0.b hb1
 have rb:=hb0.b hb1
 go_wp2_with fail
 refine (Dg _ _ xs ra la (by omega)).mono ?_
 rintro e w1 ⟨v1,rfl,r1,rfl⟩
 go_wp2_with fail
 refine (Dg _ _ ys rb lb (by omega)).mono ?_
 rintro e w1 ⟨v2,rfl,r2,rfl⟩
 have h43:=Rt 8000 (by omega) v1 v2 _ _ _ r1 r2 (M.Low.digs Be _) (M.Low.digs Be _) (by omega)
 rw [M.val_digs Be,M.val_digs Be] at h43
 have H43:=Ba h43
 generalize w.alloc (.cells #[.slice a xs.length ca,.slice b ys.length cb] 64)=W at *
 clear h43
 go_wp2_with fail
 refine H43.out.mono ?_
 rintro e w2 ⟨g,zs,rfl,k2,n2,lz,v2',s2,f2⟩
 have rz:=k2.rd0 _ (Jb _)
 have V2:=Ba v2'
 have N2:=Ba n2
 clear v2' n2
 go_wp2_with fail
 refine (Dg _ _ zs rz lz (by rw [N2.out];omega)).mono ?_
 rintro e w3 ⟨v3,rfl,r3,rfl⟩
 go_wp2
 go_ret2
 exact ⟨_,rfl,by rw [← V2.out];exact r3,Ia hb1 f2⟩
theorem Be3 (t:Nat):((2 ^ t:Nat):Int)=(2:Int) ^ t:=by rw [Int.natCast_pow];rfl
theorem Gj.set {w:World} {v:Value} {xs:List Nat} {g:Nat} (h:Gj w v xs g) (j:Nat) (u:Value):Rd (w.setCell ⟨g,j,none⟩ u) v xs :=
 (h.only ((Bu.refl g w).setCell j u)).rd
theorem Bgf (va vb:Value) (xs ys:List Nat) (w:World) (ha:Rd w va xs) (hb:Rd w vb ys) (la:M.Low Bp xs) (lb:M.Low Bp ys) (tb:M.Trim ys) (h0:0<ys.length) (hx:xs.length≤50000) (hy:ys.length≤50000) :
  Calls Tryz.prog 112 #[va,vb] w fun e w'=>∃ q r,e=.returned (.tuple #[q,r])∧Rd w' q (M.digs Bp (M.val Bp xs / M.val Bp ys))∧Rd w' r (M.digs Bp (M.val Bp xs % M.val Bp ys))∧Below w.heap.size w w':=by
 have ha0:=ha
 have hb0:=hb
 obtain ⟨a,ca,rfl,hca,-⟩:=ha
 obtain ⟨b,cb,rfl,hcb,-⟩:=hb
 obtain ⟨n,hn⟩:∃ n,n=xs.length:=⟨_,rfl⟩
 obtain ⟨X,hX⟩:∃ X,X=M.val Bp xs:=⟨_,rfl⟩
 obtain ⟨Y,hY⟩:∃ Y,Y=M.val Bp ys:=⟨_,rfl⟩
 have hY0:0<Y:=by rw [hY];exact M.val_pos_of_trim Ca tb (by intro h;subst h;simp at h0)
 have hYn:Y<Bp ^ ys.length:=by rw [hY];exact M.val_lt Ca lb
 have hXn:X<2 ^ (32*n):=by
  have:=M.val_lt Ca la
  rw [hX,hn,Nat.pow_mul];exact this
 rw [← hX,← hY]
 rw [← hn] at ha0 hca hx ⊢
 have HN:=Ba hn
 have HX:=Ba hX
 have HY:=Ba hY
 have HYN:=Ba hYn
 have HXN:=Ba hXn
 clear hn hX hY hYn hXn
 go_enter Tryz.func112,Tryz.ntmps112
 go_wp2_with (at_make;refine Cn rfl _ _ rfl _ n rfl rfl rfl (by omega) ?_;intro w2 hblk hbel)
 go_loopw [7,8] (fun r i wr=>∃ (k:Nat) (qs:List Nat),k≤32*n∧i=.int .i64 ((k:Int) - 1)∧Rd wr r (M.digs Bp (X / 2 ^ k % Y))∧qs.length=n∧M.Low Bp qs∧M.val Bp qs=X / 2 ^ k / Y*2 ^ k∧Cm wr w.heap.size qs∧Below w.heap.size w wr) (fun _ i _=>(intOf i+1).toNat)
 case atStart =>
  refine ⟨32*n,List.replicate n 0,Jb _,rfl,?_,by simp,M.Low.replicate _ _ Ca,?_,hblk,hbel⟩
  ·rw [Nat.div_eq_of_lt HXN.out,Nat.zero_mod,M.digs_zero]
   exact ⟨none,0,rfl,by simp,fun j hj=>by simp at hj⟩
  ·rw [Nat.div_eq_of_lt HXN.out,Nat.zero_div,Nat.zero_mul,M.val_replicate]
 case round =>
  obtain ⟨k,qs,hk,rfl,hr,hql,lq,vq,hblk',hbel'⟩:=hrel
  obtain ⟨ar,cr,rfl,-,-⟩:=id hr
  match k with
  | 0 =>
   rw [Nat.pow_zero,Nat.div_one] at hr vq
   rw [Nat.mul_one] at vq
   have VQ:=Ba vq
   have hrd:Rd wr (.slice (some ⟨w.heap.size,0,none⟩) n n) qs:=by
    have:=hblk'.rd0 n (by omega)
    rwa [hql] at this
   have HR:=Ba hr
   clear vq hr
   go_wp2_with fail
   refine (Fj Bp Bl _ _ qs hrd lq (by omega)).mono ?_
   rintro e w' ⟨v',rfl,hv',rfl⟩
   rw [VQ.out] at hv'
   have HV:=Ba hv'
   clear hv'
   go_wp2
   go_ret2
   exact ⟨_,_,rfl,HV.out,HR.out,hbel'⟩
  | j+1 =>
   have e1:(((j+1:Nat):Int) - 1)=(j:Int):=by omega
   rw [e1]
   obtain ⟨m,hm⟩:∃ m,m=j / 32:=⟨_,rfl⟩
   obtain ⟨t,ht⟩:∃ t,t=j % 32:=⟨_,rfl⟩
   have hj:j=32*m+t:=by omega
   have ht32:t<32:=by omega
   have hmn:m<n:=by omega
   obtain ⟨c,hc⟩:∃ c,c=X / 2 ^ j % 2:=⟨_,rfl⟩
   have hc1:c≤1:=by rw [hc];omega
   have hcd:c=lm xs m / 2 ^ t % 2:=by
    rw [hc,hj,R.bit (D:=Bp) rfl ht32,HX.out,R.digit Ca la m];rfl
   obtain ⟨sA,sB⟩:=R.stepN (X:=X) (j:=j) hY0
   rw [← hc] at sA sB
   have SA:=Ba sA
   have SB:=Ba sB
   have VQ:=Ba vq
   have HJ:=Ba hj
   have hd:lm qs m+2 ^ t<Bp:=by
    have h1:=R.room (Q:=X / 2 ^ (j+1) / Y) (D:=Bp) (m:=m) rfl ht32
    rw [← hj,← vq,R.digit Ca lq m] at h1
    exact h1
   have HD:=Ba hd
   have f1:(j:Int) / 32=(m:Int):=by omega
   have f2:(j:Int) % 32=(t:Int):=by omega
   have f1':Int.tdiv (j:Int) 32=(m:Int):=by rw [Int.tdiv_eq_ediv_of_nonneg (by omega)];exact f1
   have f2':Int.tmod (j:Int) 32=(t:Int):=by rw [Int.tmod_eq_emod_of_nonneg (by omega)];exact f2
   obtain ⟨P,hP⟩:∃ P,P=2 ^ t:=⟨_,rfl⟩
   have f3:(2:Int) ^ t=(P:Int):=by rw [hP,Be3]
   have hPl:P<4294967296:=by
    rw [hP]
    exact Jl (Nat.pow_lt_pow_right (by omega) ht32) (by omega)
   obtain ⟨z,hz⟩:∃ z,z=lm xs m / P:=⟨_,rfl⟩
   have f4:(lm xs m:Int) / (P:Int)=(z:Int):=by rw [hz,Int.natCast_ediv]
   have f5:(z:Int) % 2=(c:Int):=by rw [hcd,hz,hP];omega
   have hzl:z<4294967296:=by
    rw [hz];exact Nat.lt_of_le_of_lt (Nat.div_le_self _ _) (Ci Ca la m)
   obtain ⟨ab,ao,rfl,qa⟩:=ha0.at hbel' (j:=m) (by rw [← HN.out];exact hmn)
   have HP:=Ba hP
   have hmn':(m:Int)<(n:Int):=by omega
   have hdl:(M.digs Bp (X / 2 ^ (j+1) % Y)).length≤ys.length:=M.digs_len_of_lt Bl (Nat.lt_trans (Nat.mod_lt _ hY0) HYN.out)
   have h45:=Xg _ _ c _ hr (M.Low.digs Bl _) hc1 (by omega)
   rw [M.val_digs Bl] at h45
   have H45:=Ba h45
   clear hr h45 hdl hm ht hj hc hcd sA sB vq hd hP hz e1 hblk hbel
   go_wp2_with fail
   refine H45.out.mono ?_
   rintro e w3 ⟨v,rfl,r3,b3⟩
   obtain ⟨N,hN⟩:∃ N,N=2*(X / 2 ^ (j+1) % Y)+c:=⟨_,rfl⟩
   rw [← hN] at r3
   have sA:=SA.out
   have sB:=SB.out
   rw [← hN] at sA sB
   have SA:=Ba sA
   have SB:=Ba sB
   have hNl:N<2*Y:=by
    have:=Nat.mod_lt (X / 2 ^ (j+1)) hY0
    omega
   have hdl:(M.digs Bp N).length≤ys.length+1:=by
    refine M.digs_len_of_lt Bl ?_
    have h1:=HYN.out
    have h2:Bp ^ ys.length*2≤Bp ^ ys.length*Bp:=Nat.mul_le_mul_left _ Bl
    rw [Nat.pow_succ]
    omega
   have b03:=Ia hbel' b3
   have hb3:=hb0.b b03
   have hblk3:=hblk'.b b3
   obtain ⟨av,cv,rfl,-,-⟩:=id r3
   have H23:=Ba (Xi Bp Ca _ _ _ ys _ r3 hb3 (M.Low.digs Bl N) lb (M.trim_digs Bl N) tb (by omega))
   clear hN sA sB H45 b3
   go_wp2_with fail
   refine H23.out.mono ?_
   rintro e w4 ⟨rfl,b4⟩
   rw [M.val_digs Bl,← HY.out]
   have b04:=Ia b03 b4
   have r4:=r3.b b4
   have hb4:=hb3.b b4
   have hblk4:=hblk3.b b4
   have hv2:∀ q,q*2 ^ (j+1)=2*q*2 ^ j:=fun q=>by rw [Nat.pow_succ,← Nat.mul_assoc,Nat.mul_comm (q*2 ^ j),Nat.mul_assoc]
   have HV2:=Ba hv2
   clear H23 hv2 hblk3 hblk' hb3 r3 b4
   by_cases hlt:N<Y
   ·rw [Kw hlt]
    obtain ⟨s1,s2⟩:=SA.out hlt
    have S1:=Ba s1
    have S2:=Ba s2
    clear s1 s2
    go_wp2
    exact ⟨⟨j,qs,by omega,by go_num,by rw [S1.out];exact r4,hql,lq,by rw [S2.out,VQ.out,HV2.out],hblk4,b04⟩,by simp [intOf]⟩
   ·have hge:(0:Int)≤Er N Y:=by unfold Er;rw [if_neg hlt];split <;> omega
    obtain ⟨s1,s2⟩:=SB.out (Nat.not_lt.1 hlt)
    have S1:=Ba s1
    have S2:=Ba s2
    have hlen:ys.length≤(M.digs Bp N).length:=by
     by_cases h:ys.length≤(M.digs Bp N).length
     ·exact h
     ·have:=M.lt_of_length Ca (M.Low.digs Bl N) tb (Nat.not_le.1 h)
      rw [M.val_digs Bl,← HY.out] at this
      omega
    have h25:=Bfz w.heap.size _ _ _ ys _ r4 hb4 (M.Low.digs Bl N) lb (by omega) hlen (by rw [M.val_digs Bl,← HY.out];omega) hblk4.lt
    rw [M.val_digs Bl,← HY.out] at h25
    have H25:=Ba h25
    clear s1 s2 h25 hlen
    go_wp2_with fail
    refine H25.out.mono ?_
    rintro e w5 ⟨v5,rfl,r5,b5⟩
    have hblk5:=hblk4.b b5
    have b05:=Ia b04 b5
    have g1:=hblk5.cell (j:=m) (by rw [hql];exact hmn)
    have g2:=hblk5.o m
    have hd1:=HD.out
    rw [← HP.out] at hd1
    have hset:Cm (w5.setCell ⟨w.heap.size,m,none⟩ (.int .u64 ((lm qs m:Int)+(P:Int)))) w.heap.size (qs.set m (lm qs m+P)):=by
     rw [← Int.natCast_add];exact hblk5.set m (lm qs m+P)
    have hvs:M.val Bp (qs.set m (lm qs m+P))=X / 2 ^ j / Y*2 ^ j:=by
     have h:=R.val_set (b:=Bp) qs m P (by rw [hql];exact hmn)
     have e2:Bp ^ m*P=2 ^ j:=by rw [HP.out,HJ.out,Nat.pow_add,Nat.pow_mul];rfl
     show M.val Bp (qs.set m (qs.getD m 0+P))=_
     rw [h,VQ.out,e2,S2.out,HV2.out,Nat.add_mul,Nat.one_mul]
    have HSET:=Ba hset
    have HVS:=Ba hvs
    have R5:=Ba r5
    have hlow:=R.low_set lq m (lm qs m+P) hd1
    have hqq:(qs.set m (lm qs m+P)).length=n:=by rw [List.length_set];exact hql
    have HQQ:=Ba hqq
    have hd2:lm qs m+P<4294967296:=hd1
    have w1:IntKind.u64.wrap (P:Int)=(P:Int):=Cz P (by omega)
    clear hset hvs r5 hqq hd1 hblk4 r4 hb4
    go_wp2
    exact ⟨⟨j,qs.set m (lm qs m+P),by omega,by go_num,by rw [S1.out];exact R5.out.set _ _,HQQ.out,hlow,HVS.out,HSET.out,b05.setCell (Jb _) _⟩,by simp [intOf]⟩
end Go.Proofs.YtnplifkgeeicjaaGreatDoor
