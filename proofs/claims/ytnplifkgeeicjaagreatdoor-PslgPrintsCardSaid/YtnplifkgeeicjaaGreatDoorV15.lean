import Derived.Test.YtnplifkgeeicjaaGreatDoorV13
import Derived.Test.YtnplifkgeeicjaaGreatDoorV14
namespace Go.Proofs.YtnplifkgeeicjaaGreatDoor
open Go.RowKit
theorem Bg5 (x:Int) (h0:0<x) (hx:x≤18446744073709551615) (w:World):Calls Tryz.prog 227 #[.int .u64 x] w fun e w'=>(∃ s:Nat,e=.returned (.int .i64 (s:Nat))∧s≤63∧9223372036854775808≤x.toNat*2 ^ s∧x.toNat*2 ^ s<18446744073709551616)∧w'=w:=by
 obtain ⟨n,rfl⟩:=Int.eq_ofNat_of_zero_le (Int.le_of_lt h0)
 rw [Int.toNat_natCast]
 exact Li n (by omega) (by unfold Bb;omega) w
theorem Bmt (hi lo y s:Nat) (hhy:hi<y) (hlo:lo<18446744073709551616) (hs:s≤63) :
  lo / 2 ^ (64 - s)<2 ^ s∧hi*2 ^ s+lo / 2 ^ (64 - s)<y*2 ^ s∧(hi*18446744073709551616+lo)*2 ^ s=(hi*2 ^ s+lo / 2 ^ (64 - s))*18446744073709551616+lo*2 ^ s % 18446744073709551616:=by
 have e:2 ^ s*2 ^ (64 - s)=18446744073709551616:=by rw [← Nat.pow_add,show s+(64 - s)=64 by omega]
 have hS:0<2 ^ s:=Nat.pow_pos (by omega)
 have hZ:0<2 ^ (64 - s):=Nat.pow_pos (by omega)
 have h1:lo / 2 ^ (64 - s)<2 ^ s:=by
  rw [Nat.div_lt_iff_lt_mul hZ,e];exact hlo
 refine ⟨h1,?_,?_⟩
 ·have:(hi+1)*2 ^ s≤y*2 ^ s:=Jo _ hhy
  rw [Nat.add_mul,Nat.one_mul] at this
  omega
 ·have h2:lo*2 ^ s / 18446744073709551616=lo / 2 ^ (64 - s):=by
   rw [← e,Nat.mul_comm (2 ^ s),Nat.mul_div_mul_right _ _ hS]
  have h3:=Nat.div_add_mod (lo*2 ^ s) 18446744073709551616
  rw [h2] at h3
  rw [Nat.add_mul,Nat.add_mul,Nat.mul_right_comm]
  omega
theorem Bgu (a b s:Nat) (hb:b<2 ^ s) (hab:a*2 ^ s<18446744073709551616) (hb':b<18446744073709551616):bits .or .u64 ((a*2 ^ s:Nat):Int) (b:Int)=((a*2 ^ s+b:Nat):Int):=by
 rw [bits_or_u64_nat _ _ hab hb']
 rw [← Nat.shiftLeft_eq,← Nat.shiftLeft_add_eq_or_of_lt hb]
theorem De (a s:Nat):((a*2 ^ s:Nat):Int)=(a:Int)*2 ^ s:=by rw [Int.natCast_mul,Int.natCast_pow];rfl
theorem Fo (a s:Nat):((a / 2 ^ s:Nat):Int)=(a:Int) / 2 ^ s:=by rw [Int.natCast_ediv,Int.natCast_pow];rfl
theorem Bmu (hi lo y:Int) (s:Nat) (h0:0≤hi) (hhy:hi<y) (hl0:0≤lo) (hlo:lo≤18446744073709551615) (hs:s≤63) (hY2:y.toNat*2 ^ s<18446744073709551616) :
  ∃ u L:Int,bits .or .u64 (IntKind.u64.wrap (hi*2 ^ s)) (lo / 2 ^ (64 - s))=u∧IntKind.u64.wrap (lo*2 ^ s)=L∧0≤u∧u<y*2 ^ s∧0≤L∧L<18446744073709551616∧(hi*18446744073709551616+lo)*2 ^ s=u*18446744073709551616+L:=by
 obtain ⟨hi,rfl⟩:=Int.eq_ofNat_of_zero_le h0
 obtain ⟨lo,rfl⟩:=Int.eq_ofNat_of_zero_le hl0
 obtain ⟨y,rfl⟩:=Int.eq_ofNat_of_zero_le (show 0≤y by omega)
 rw [Int.toNat_natCast] at hY2
 obtain ⟨g1,g2,g3⟩:=Bmt hi lo y s (by omega) (by omega) hs
 have hh:hi*2 ^ s<18446744073709551616:=Nat.lt_of_le_of_lt (Nat.le_add_right _ _) (Nat.lt_trans g2 hY2)
 have hb':lo / 2 ^ (64 - s)<18446744073709551616:=by omega
 refine ⟨((hi*2 ^ s+lo / 2 ^ (64 - s):Nat):Int),((lo*2 ^ s % 18446744073709551616:Nat):Int),?_,?_,by omega,?_,by omega,by omega,?_⟩
 ·rw [← De,← Fo,Cz _ hh,Bgu hi _ s g1 hh hb']
 ·rw [← De,Nf]
 ·rw [← De];omega
 ·have c:(hi:Int)*18446744073709551616+(lo:Int)=((hi*18446744073709551616+lo:Nat):Int):=by omega
  rw [c,← De,g3,Int.natCast_add,Int.natCast_mul]
  rfl
theorem Boz (a:Int) (h0:0≤a) (h1:a<18446744073709551616):bits .and .u64 a 4294967295=a % 4294967296:=by
 obtain ⟨a,rfl⟩:=Int.eq_ofNat_of_zero_le h0
 rw [Vh a (by omega)];omega
set_option maxRecDepth 100000 in
set_option maxHeartbeats 4000000 in
theorem Beu (hi lo y:Int) (h0:0<hi) (hhy:hi<y) (hy:y≤18446744073709551615) (hl0:0≤lo) (hlo:lo≤18446744073709551615) (w:World) :
  Calls Tryz.prog 264 #[.int .u64 hi,.int .u64 lo,.int .u64 y] w fun e w'=>e=.returned (.tuple #[.int .u64 ((hi*18446744073709551616+lo) / y),.int .u64 ((hi*18446744073709551616+lo) % y)])∧w'=w:=by
 go_enter Tryz.func264,Tryz.ntmps264
 go_wp2_with fail
 refine (Bg5 y (by omega) hy _).mono ?_
 rintro e w' ⟨⟨s,rfl,hs,g1,g2⟩,hw⟩
 have hw:=hw.symm
 subst hw
 have hs':(s:Int)≤63:=by omega
 obtain ⟨u,L,eu,eL,u0,u1,L0,L1,eN⟩:=Bmu hi lo y s (by omega) hhy hl0 hlo hs g2
 obtain ⟨Y,hY⟩:∃ Y:Int,Y=y*2 ^ s:=⟨_,rfl⟩
 have yc:((y.toNat*2 ^ s:Nat):Int)=y*2 ^ s:=by rw [De,Int.toNat_of_nonneg (by omega)]
 have y1:9223372036854775808≤Y:=by rw [hY,← yc];omega
 have y2:Y<18446744073709551616:=by rw [hY,← yc];omega
 rw [← hY] at u1
 have eY:IntKind.u64.wrap (y*2 ^ s)=Y:=by rw [← hY,IntKind.wrap_u64];omega
 have eA:bits .and .u64 Y 4294967295=Y % 4294967296:=Boz Y (by omega) y2
 have eB:bits .and .u64 L 4294967295=L % 4294967296:=Boz L L0 L1
 obtain ⟨d1,hd1⟩:∃ d1:Int,d1=Y / 4294967296:=⟨_,rfl⟩
 obtain ⟨d0,hd0⟩:∃ d0:Int,d0=Y % 4294967296:=⟨_,rfl⟩
 obtain ⟨l1,hl1⟩:∃ l1:Int,l1=L / 4294967296:=⟨_,rfl⟩
 obtain ⟨l0,hl0'⟩:∃ l0:Int,l0=L % 4294967296:=⟨_,rfl⟩
 have S1:K.Set0 u d1 d0 Y l1:=⟨by omega,by omega,by omega,by omega,by omega,u0,u1,by omega,by omega⟩
 have c1:=S1.a1
 have c2:=S1.a2
 have c3:=S1.b1
 have c4:=S1.b2
 have c5:=S1.l1
 have c6:=S1.l2
 have c7:0≤l0:=by omega
 have c8:l0<4294967296:=by omega
 have eD1:=hd1.symm
 have eD0:bits .and .u64 Y 4294967295=d0:=by rw [eA,hd0]
 have eL1:=hl1.symm
 have eL0:bits .and .u64 L 4294967295=l0:=by rw [eB,hl0']
 have st:=K.start S1
 obtain ⟨q0,hq0⟩:∃ q0:Int,q0=u / d1:=⟨_,rfl⟩
 obtain ⟨r0,hr0⟩:∃ r0:Int,r0=u - q0*d1:=⟨_,rfl⟩
 rw [← hq0,← hr0] at st
 have eQ:IntKind.u64.wrap (u.tdiv d1)=q0:=by
  rw [Int.tdiv_eq_ediv_of_nonneg u0,← hq0,IntKind.wrap_u64]
  have:=st.2.2.1;have:=st.2.2.2.1;omega
 have eR:IntKind.u64.wrap (u - IntKind.u64.wrap (q0*d1))=r0:=by
  rw [IntKind.wrap_u64,IntKind.wrap_u64]
  have:=st.2.2.2.2.1;have:=st.2.2.2.2.2;omega
 have ST:Hid (K.Inv u d1 d0 Y l1 q0 r0):=st
 have ENh:Hid ((hi*18446744073709551616+lo)*2 ^ s=u*18446744073709551616+L):=eN
 have HYh:Hid (Y=y*2 ^ s):=hY
 have HL:Hid (L=l1*4294967296+l0):=by show _=_;omega
 have n1:¬ d1=0:=by omega
 have n2:¬ y≤hi:=by omega
 clear g1 g2 hY yc eA eB hd1 hd0 hl1 hl0' st hq0 hr0 eN
 go_wp2
 go_loop [15,16] (fun a b=>∃ q r:Int,a=.int .u64 q∧b=.int .u64 r∧K.Inv u d1 d0 Y l1 q r) (fun _ b=>(4294967296 - intOf b).toNat)
 case atStart=>exact ⟨q0,r0,rfl,rfl,ST.out⟩
 case round =>
  obtain ⟨q,r,rfl,rfl,inv⟩:=hrel
  obtain ⟨i1,i2,i3,i4,i5,i6⟩:=id inv
  have INV:=(show Hid (K.Inv u d1 d0 Y l1 q r) from inv)
  clear inv i1 i2
  by_cases hA:4294967296≤q
  ·have hAd:decide (4294967296≤q)=true:=by simp;omega
   by_cases hC:4294967296≤r+d1
   ·have RT:Hid (K.Right u Y l1 (q - 1)):=K.brk S1 INV.out (Or.inl hA) hC
    obtain ⟨q1,rfl⟩:∃ q1:Int,q=q1+1:=⟨q - 1,by omega⟩
    have rt:=RT.out
    rw [Int.add_sub_cancel] at rt
    obtain ⟨h1,h2,h3,h4⟩:=rt
    obtain ⟨R,hR⟩:∃ R:Int,R=u*4294967296+l1 - q1*Y:=⟨_,rfl⟩
    have R0:0≤R:=by omega
    have R1:R<Y:=by omega
    have eRR:IntKind.u64.wrap (IntKind.u64.wrap (IntKind.u64.wrap (u*4294967296)+l1) - IntKind.u64.wrap (q1*Y))=R:=by
     simp only [IntKind.wrap_u64];omega
    have HR:=(show Hid (R=u*4294967296+l1 - q1*Y) from hR)
    have S2:K.Set0 R d1 d0 Y l0:=⟨S1.hY,c1,c2,c3,c4,R0,R1,c7,c8⟩
    have st:=K.start S2
    obtain ⟨q2,hq2⟩:∃ q2:Int,q2=R / d1:=⟨_,rfl⟩
    obtain ⟨r2,hr2⟩:∃ r2:Int,r2=R - q2*d1:=⟨_,rfl⟩
    rw [← hq2,← hr2] at st
    have eQ2:IntKind.u64.wrap (R.tdiv d1)=q2:=by
     rw [Int.tdiv_eq_ediv_of_nonneg R0,← hq2,IntKind.wrap_u64]
     have:=st.2.2.1;have:=st.2.2.2.1;omega
    have eR2:IntKind.u64.wrap (R - IntKind.u64.wrap (q2*d1))=r2:=by
     rw [IntKind.wrap_u64,IntKind.wrap_u64]
     have:=st.2.2.2.2.1;have:=st.2.2.2.2.2;omega
    have ST2:=(show Hid (K.Inv R d1 d0 Y l0 q2 r2) from st)
    clear st hq2 hr2 hR h3 h4 INV
    go_wp2
    go_loop [18,16] (fun a b=>∃ q r:Int,a=.int .u64 q∧b=.int .u64 r∧K.Inv R d1 d0 Y l0 q r) (fun _ b=>(4294967296 - intOf b).toNat)
    case atStart=>exact ⟨q2,r2,rfl,rfl,ST2.out⟩
    case round =>
     obtain ⟨t,v,rfl,rfl,inv⟩:=hrel
     obtain ⟨k1,k2,k3,k4,k5,k6⟩:=id inv
     have IN2:=(show Hid (K.Inv R d1 d0 Y l0 t v) from inv)
     clear inv k1 k2
     by_cases hA:4294967296≤t
     ·have hAd:decide (4294967296≤t)=true:=by simp;omega
      by_cases hC:4294967296≤v+d1
      ·have RT2:Hid (K.Right R Y l0 (t - 1)):=K.brk S2 IN2.out (Or.inl hA) hC
       obtain ⟨qb,rfl⟩:∃ qb:Int,t=qb+1:=⟨t - 1,by omega⟩
       have rt2:=RT2.out
       rw [Int.add_sub_cancel] at rt2
       obtain ⟨h1,h2,h3,h4⟩:=rt2
       obtain ⟨R2,hR2⟩:∃ R2:Int,R2=R*4294967296+l0 - qb*Y:=⟨_,rfl⟩
       have z0:0≤R2:=by omega
       have z1:R2<Y:=by omega
       have eF:IntKind.u64.wrap (IntKind.u64.wrap (IntKind.u64.wrap (R*4294967296)+l0) - IntKind.u64.wrap (qb*Y))=R2:=by
        simp only [IntKind.wrap_u64];omega
       have FIN:=K.fin (hi:=hi) (lo:=lo) (S:=2 ^ s) (q1:=q1) (q0:=qb) (R:=R) (R2:=R2) (Int.pow_pos (by omega)) (by omega) ENh.out HYh.out HL.out HR.out hR2 z0 z1
       have FINh:=(show Hid _ from FIN)
       clear FIN hR2 h3 h4
       go_wp2
       go_ret2
       exact ⟨by rw [FINh.out.1,FINh.out.2];rfl,rfl⟩
      ·have NX:Hid (K.Inv R d1 d0 Y l0 (t - 1) (v+d1)):=K.yes S2 IN2.out (Or.inl hA) (by omega)
       go_wp2
       go_round
       case rel=>exact ⟨t - 1,v+d1,rfl,rfl,NX.out⟩
       case measure=>simp [intOf];omega
     ·have hAd:decide (4294967296≤t)=false:=by simp;omega
      have p0:0≤t*d0:=Int.mul_nonneg k3 c3
      have p1:t*d0≤4294967295*4294967295:=Int.mul_le_mul (by omega) (by omega) c3 (by omega)
      obtain ⟨P,hP⟩:∃ P:Int,P=t*d0:=⟨_,rfl⟩
      have eP:IntKind.u64.wrap (t*d0)=P:=by rw [← hP,IntKind.wrap_u64];omega
      have HPh:Hid (P=t*d0):=hP
      clear hP p0 p1
      by_cases hB:4294967296*v+l0<P
      ·have hBd:decide (4294967296*v+l0<P)=true:=by simp;omega
       by_cases hC:4294967296≤v+d1
       ·have RT2:Hid (K.Right R Y l0 (t - 1)):=K.brk S2 IN2.out (Or.inr (by rw [← HPh.out];exact hB)) hC
        obtain ⟨qb,rfl⟩:∃ qb:Int,t=qb+1:=⟨t - 1,by omega⟩
        have rt2:=RT2.out
        rw [Int.add_sub_cancel] at rt2
        obtain ⟨h1,h2,h3,h4⟩:=rt2
        obtain ⟨R2,hR2⟩:∃ R2:Int,R2=R*4294967296+l0 - qb*Y:=⟨_,rfl⟩
        have z0:0≤R2:=by omega
        have z1:R2<Y:=by omega
        have eF:IntKind.u64.wrap (IntKind.u64.wrap (IntKind.u64.wrap (R*4294967296)+l0) - IntKind.u64.wrap (qb*Y))=R2:=by
         simp only [IntKind.wrap_u64];omega
        have FIN:=K.fin (hi:=hi) (lo:=lo) (S:=2 ^ s) (q1:=q1) (q0:=qb) (R:=R) (R2:=R2) (Int.pow_pos (by omega)) (by omega) ENh.out HYh.out HL.out HR.out hR2 z0 z1
        have FINh:=(show Hid _ from FIN)
        clear FIN hR2 h3 h4
        go_wp2
        go_ret2
        exact ⟨by rw [FINh.out.1,FINh.out.2];rfl,rfl⟩
       ·have NX:Hid (K.Inv R d1 d0 Y l0 (t - 1) (v+d1)):=K.yes S2 IN2.out (Or.inr (by rw [← HPh.out];exact hB)) (by omega)
        have t1:1≤t:=by have:=NX.out.2.2.1;omega
        go_wp2
        go_round
        case rel=>exact ⟨t - 1,v+d1,rfl,rfl,NX.out⟩
        case measure=>simp [intOf];omega
      ·have hBd:decide (4294967296*v+l0<P)=false:=by simp;omega
       have RT2:Hid (K.Right R Y l0 t):=K.no S2 IN2.out (by rw [← HPh.out];omega)
       obtain ⟨h1,h2,h3,h4⟩:=id RT2.out
       obtain ⟨R2,hR2⟩:∃ R2:Int,R2=R*4294967296+l0 - t*Y:=⟨_,rfl⟩
       have z0:0≤R2:=by omega
       have z1:R2<Y:=by omega
       have eF:IntKind.u64.wrap (IntKind.u64.wrap (IntKind.u64.wrap (R*4294967296)+l0) - IntKind.u64.wrap (t*Y))=R2:=by
        simp only [IntKind.wrap_u64];omega
       have FIN:=K.fin (hi:=hi) (lo:=lo) (S:=2 ^ s) (q1:=q1) (q0:=t) (R:=R) (R2:=R2) (Int.pow_pos (by omega)) (by omega) ENh.out HYh.out HL.out HR.out hR2 z0 z1
       have FINh:=(show Hid _ from FIN)
       clear FIN hR2 h3 h4
       go_wp2
       go_ret2
       exact ⟨by rw [FINh.out.1,FINh.out.2];rfl,rfl⟩
   ·have NX:Hid (K.Inv u d1 d0 Y l1 (q - 1) (r+d1)):=K.yes S1 INV.out (Or.inl hA) (by omega)
    go_wp2
    go_round
    case rel=>exact ⟨q - 1,r+d1,rfl,rfl,NX.out⟩
    case measure=>simp [intOf];omega
  ·have hAd:decide (4294967296≤q)=false:=by simp;omega
   have p0:0≤q*d0:=Int.mul_nonneg i3 c3
   have p1:q*d0≤4294967295*4294967295:=Int.mul_le_mul (by omega) (by omega) c3 (by omega)
   obtain ⟨P,hP⟩:∃ P:Int,P=q*d0:=⟨_,rfl⟩
   have eP:IntKind.u64.wrap (q*d0)=P:=by rw [← hP,IntKind.wrap_u64];omega
   have HPh:Hid (P=q*d0):=hP
   clear hP p0 p1
   by_cases hB:4294967296*r+l1<P
   ·have hBd:decide (4294967296*r+l1<P)=true:=by simp;omega
    by_cases hC:4294967296≤r+d1
    ·have RT:Hid (K.Right u Y l1 (q - 1)):=K.brk S1 INV.out (Or.inr (by rw [← HPh.out];exact hB)) hC
     obtain ⟨q1,rfl⟩:∃ q1:Int,q=q1+1:=⟨q - 1,by omega⟩
     have rt:=RT.out
     rw [Int.add_sub_cancel] at rt
     obtain ⟨h1,h2,h3,h4⟩:=rt
     obtain ⟨R,hR⟩:∃ R:Int,R=u*4294967296+l1 - q1*Y:=⟨_,rfl⟩
     have R0:0≤R:=by omega
     have R1:R<Y:=by omega
     have eRR:IntKind.u64.wrap (IntKind.u64.wrap (IntKind.u64.wrap (u*4294967296)+l1) - IntKind.u64.wrap (q1*Y))=R:=by
      simp only [IntKind.wrap_u64];omega
     have HR:=(show Hid (R=u*4294967296+l1 - q1*Y) from hR)
     have S2:K.Set0 R d1 d0 Y l0:=⟨S1.hY,c1,c2,c3,c4,R0,R1,c7,c8⟩
     have st:=K.start S2
     obtain ⟨q2,hq2⟩:∃ q2:Int,q2=R / d1:=⟨_,rfl⟩
     obtain ⟨r2,hr2⟩:∃ r2:Int,r2=R - q2*d1:=⟨_,rfl⟩
     rw [← hq2,← hr2] at st
     have eQ2:IntKind.u64.wrap (R.tdiv d1)=q2:=by
      rw [Int.tdiv_eq_ediv_of_nonneg R0,← hq2,IntKind.wrap_u64]
      have:=st.2.2.1;have:=st.2.2.2.1;omega
     have eR2:IntKind.u64.wrap (R - IntKind.u64.wrap (q2*d1))=r2:=by
      rw [IntKind.wrap_u64,IntKind.wrap_u64]
      have:=st.2.2.2.2.1;have:=st.2.2.2.2.2;omega
     have ST2:=(show Hid (K.Inv R d1 d0 Y l0 q2 r2) from st)
     clear st hq2 hr2 hR h3 h4 INV
     go_wp2
     go_loop [18,16] (fun a b=>∃ q r:Int,a=.int .u64 q∧b=.int .u64 r∧K.Inv R d1 d0 Y l0 q r) (fun _ b=>(4294967296 - intOf b).toNat)
     case atStart=>exact ⟨q2,r2,rfl,rfl,ST2.out⟩
     case round =>
      obtain ⟨t,v,rfl,rfl,inv⟩:=hrel
      obtain ⟨k1,k2,k3,k4,k5,k6⟩:=id inv
      have IN2:=(show Hid (K.Inv R d1 d0 Y l0 t v) from inv)
      clear inv k1 k2
      by_cases hA:4294967296≤t
      ·have hAd:decide (4294967296≤t)=true:=by simp;omega
       by_cases hC:4294967296≤v+d1
       ·have RT2:Hid (K.Right R Y l0 (t - 1)):=K.brk S2 IN2.out (Or.inl hA) hC
        obtain ⟨qb,rfl⟩:∃ qb:Int,t=qb+1:=⟨t - 1,by omega⟩
        have rt2:=RT2.out
        rw [Int.add_sub_cancel] at rt2
        obtain ⟨h1,h2,h3,h4⟩:=rt2
        obtain ⟨R2,hR2⟩:∃ R2:Int,R2=R*4294967296+l0 - qb*Y:=⟨_,rfl⟩
        have z0:0≤R2:=by omega
        have z1:R2<Y:=by omega
        have eF:IntKind.u64.wrap (IntKind.u64.wrap (IntKind.u64.wrap (R*4294967296)+l0) - IntKind.u64.wrap (qb*Y))=R2:=by
         simp only [IntKind.wrap_u64];omega
        have FIN:=K.fin (hi:=hi) (lo:=lo) (S:=2 ^ s) (q1:=q1) (q0:=qb) (R:=R) (R2:=R2) (Int.pow_pos (by omega)) (by omega) ENh.out HYh.out HL.out HR.out hR2 z0 z1
        have FINh:=(show Hid _ from FIN)
        clear FIN hR2 h3 h4
        go_wp2
        go_ret2
        exact ⟨by rw [FINh.out.1,FINh.out.2];rfl,rfl⟩
       ·have NX:Hid (K.Inv R d1 d0 Y l0 (t - 1) (v+d1)):=K.yes S2 IN2.out (Or.inl hA) (by omega)
        go_wp2
        go_round
        case rel=>exact ⟨t - 1,v+d1,rfl,rfl,NX.out⟩
        case measure=>simp [intOf];omega
      ·have hAd:decide (4294967296≤t)=false:=by simp;omega
       have p0:0≤t*d0:=Int.mul_nonneg k3 c3
       have p1:t*d0≤4294967295*4294967295:=Int.mul_le_mul (by omega) (by omega) c3 (by omega)
       obtain ⟨P,hP⟩:∃ P:Int,P=t*d0:=⟨_,rfl⟩
       have eP:IntKind.u64.wrap (t*d0)=P:=by rw [← hP,IntKind.wrap_u64];omega
       have HPh:Hid (P=t*d0):=hP
       clear hP p0 p1
       by_cases hB:4294967296*v+l0<P
       ·have hBd:decide (4294967296*v+l0<P)=true:=by simp;omega
        by_cases hC:4294967296≤v+d1
        ·have RT2:Hid (K.Right R Y l0 (t - 1)):=K.brk S2 IN2.out (Or.inr (by rw [← HPh.out];exact hB)) hC
         obtain ⟨qb,rfl⟩:∃ qb:Int,t=qb+1:=⟨t - 1,by omega⟩
         have rt2:=RT2.out
         rw [Int.add_sub_cancel] at rt2
         obtain ⟨h1,h2,h3,h4⟩:=rt2
         obtain ⟨R2,hR2⟩:∃ R2:Int,R2=R*4294967296+l0 - qb*Y:=⟨_,rfl⟩
         have z0:0≤R2:=by omega
         have z1:R2<Y:=by omega
         have eF:IntKind.u64.wrap (IntKind.u64.wrap (IntKind.u64.wrap (R*4294967296)+l0) - IntKind.u64.wrap (qb*Y))=R2:=by
          simp only [IntKind.wrap_u64];omega
         have FIN:=K.fin (hi:=hi) (lo:=lo) (S:=2 ^ s) (q1:=q1) (q0:=qb) (R:=R) (R2:=R2) (Int.pow_pos (by omega)) (by omega) ENh.out HYh.out HL.out HR.out hR2 z0 z1
         have FINh:=(show Hid _ from FIN)
         clear FIN hR2 h3 h4
         go_wp2
         go_ret2
         exact ⟨by rw [FINh.out.1,FINh.out.2];rfl,rfl⟩
        ·have NX:Hid (K.Inv R d1 d0 Y l0 (t - 1) (v+d1)):=K.yes S2 IN2.out (Or.inr (by rw [← HPh.out];exact hB)) (by omega)
         have t1:1≤t:=by have:=NX.out.2.2.1;omega
         go_wp2
         go_round
         case rel=>exact ⟨t - 1,v+d1,rfl,rfl,NX.out⟩
         case measure=>simp [intOf];omega
       ·have hBd:decide (4294967296*v+l0<P)=false:=by simp;omega
        have RT2:Hid (K.Right R Y l0 t):=K.no S2 IN2.out (by rw [← HPh.out];omega)
        obtain ⟨h1,h2,h3,h4⟩:=id RT2.out
        obtain ⟨R2,hR2⟩:∃ R2:Int,R2=R*4294967296+l0 - t*Y:=⟨_,rfl⟩
        have z0:0≤R2:=by omega
        have z1:R2<Y:=by omega
        have eF:IntKind.u64.wrap (IntKind.u64.wrap (IntKind.u64.wrap (R*4294967296)+l0) - IntKind.u64.wrap (t*Y))=R2:=by
         simp only [IntKind.wrap_u64];omega
        have FIN:=K.fin (hi:=hi) (lo:=lo) (S:=2 ^ s) (q1:=q1) (q0:=t) (R:=R) (R2:=R2) (Int.pow_pos (by omega)) (by omega) ENh.out HYh.out HL.out HR.out hR2 z0 z1
        have FINh:=(show Hid _ from FIN)
        clear FIN hR2 h3 h4
        go_wp2
        go_ret2
        exact ⟨by rw [FINh.out.1,FINh.out.2];rfl,rfl⟩
    ·have NX:Hid (K.Inv u d1 d0 Y l1 (q - 1) (r+d1)):=K.yes S1 INV.out (Or.inr (by rw [← HPh.out];exact hB)) (by omega)
     have q1p:1≤q:=by have:=NX.out.2.2.1;omega
     go_wp2
     go_round
     case rel=>exact ⟨q - 1,r+d1,rfl,rfl,NX.out⟩
     case measure=>simp [intOf];omega
   ·have hBd:decide (4294967296*r+l1<P)=false:=by simp;omega
    have RT:Hid (K.Right u Y l1 q):=K.no S1 INV.out (by rw [← HPh.out];omega)
    obtain ⟨h1,h2,h3,h4⟩:=id RT.out
    obtain ⟨R,hR⟩:∃ R:Int,R=u*4294967296+l1 - q*Y:=⟨_,rfl⟩
    have R0:0≤R:=by omega
    have R1:R<Y:=by omega
    have eRR:IntKind.u64.wrap (IntKind.u64.wrap (IntKind.u64.wrap (u*4294967296)+l1) - IntKind.u64.wrap (q*Y))=R:=by
     simp only [IntKind.wrap_u64];omega
    have HR:=(show Hid (R=u*4294967296+l1 - q*Y) from hR)
    have S2:K.Set0 R d1 d0 Y l0:=⟨S1.hY,c1,c2,c3,c4,R0,R1,c7,c8⟩
    have st:=K.start S2
    obtain ⟨q2,hq2⟩:∃ q2:Int,q2=R / d1:=⟨_,rfl⟩
    obtain ⟨r2,hr2⟩:∃ r2:Int,r2=R - q2*d1:=⟨_,rfl⟩
    rw [← hq2,← hr2] at st
    have eQ2:IntKind.u64.wrap (R.tdiv d1)=q2:=by
     rw [Int.tdiv_eq_ediv_of_nonneg R0,← hq2,IntKind.wrap_u64]
     have:=st.2.2.1;have:=st.2.2.2.1;omega
    have eR2:IntKind.u64.wrap (R - IntKind.u64.wrap (q2*d1))=r2:=by
     rw [IntKind.wrap_u64,IntKind.wrap_u64]
     have:=st.2.2.2.2.1;have:=st.2.2.2.2.2;omega
    have ST2:=(show Hid (K.Inv R d1 d0 Y l0 q2 r2) from st)
    clear st hq2 hr2 hR h3 h4 INV
    go_wp2
    go_loop [18,16] (fun a b=>∃ q r:Int,a=.int .u64 q∧b=.int .u64 r∧K.Inv R d1 d0 Y l0 q r) (fun _ b=>(4294967296 - intOf b).toNat)
    case atStart=>exact ⟨q2,r2,rfl,rfl,ST2.out⟩
    case round =>
     obtain ⟨t,v,rfl,rfl,inv⟩:=hrel
     obtain ⟨k1,k2,k3,k4,k5,k6⟩:=id inv
     have IN2:=(show Hid (K.Inv R d1 d0 Y l0 t v) from inv)
     clear inv k1 k2
     by_cases hA:4294967296≤t
     ·have hAd:decide (4294967296≤t)=true:=by simp;omega
      by_cases hC:4294967296≤v+d1
      ·have RT2:Hid (K.Right R Y l0 (t - 1)):=K.brk S2 IN2.out (Or.inl hA) hC
       obtain ⟨qb,rfl⟩:∃ qb:Int,t=qb+1:=⟨t - 1,by omega⟩
       have rt2:=RT2.out
       rw [Int.add_sub_cancel] at rt2
       obtain ⟨h1,h2,h3,h4⟩:=rt2
       obtain ⟨R2,hR2⟩:∃ R2:Int,R2=R*4294967296+l0 - qb*Y:=⟨_,rfl⟩
       have z0:0≤R2:=by omega
       have z1:R2<Y:=by omega
       have eF:IntKind.u64.wrap (IntKind.u64.wrap (IntKind.u64.wrap (R*4294967296)+l0) - IntKind.u64.wrap (qb*Y))=R2:=by
        simp only [IntKind.wrap_u64];omega
       have FIN:=K.fin (hi:=hi) (lo:=lo) (S:=2 ^ s) (q1:=q) (q0:=qb) (R:=R) (R2:=R2) (Int.pow_pos (by omega)) (by omega) ENh.out HYh.out HL.out HR.out hR2 z0 z1
       have FINh:=(show Hid _ from FIN)
       clear FIN hR2 h3 h4
       go_wp2
       go_ret2
       exact ⟨by rw [FINh.out.1,FINh.out.2];rfl,rfl⟩
      ·have NX:Hid (K.Inv R d1 d0 Y l0 (t - 1) (v+d1)):=K.yes S2 IN2.out (Or.inl hA) (by omega)
       go_wp2
       go_round
       case rel=>exact ⟨t - 1,v+d1,rfl,rfl,NX.out⟩
       case measure=>simp [intOf];omega
     ·have hAd:decide (4294967296≤t)=false:=by simp;omega
      have p0:0≤t*d0:=Int.mul_nonneg k3 c3
      have p1:t*d0≤4294967295*4294967295:=Int.mul_le_mul (by omega) (by omega) c3 (by omega)
      obtain ⟨P,hP⟩:∃ P:Int,P=t*d0:=⟨_,rfl⟩
      have eP:IntKind.u64.wrap (t*d0)=P:=by rw [← hP,IntKind.wrap_u64];omega
      have HPh:Hid (P=t*d0):=hP
      clear hP p0 p1
      by_cases hB:4294967296*v+l0<P
      ·have hBd:decide (4294967296*v+l0<P)=true:=by simp;omega
       by_cases hC:4294967296≤v+d1
       ·have RT2:Hid (K.Right R Y l0 (t - 1)):=K.brk S2 IN2.out (Or.inr (by rw [← HPh.out];exact hB)) hC
        obtain ⟨qb,rfl⟩:∃ qb:Int,t=qb+1:=⟨t - 1,by omega⟩
        have rt2:=RT2.out
        rw [Int.add_sub_cancel] at rt2
        obtain ⟨h1,h2,h3,h4⟩:=rt2
        obtain ⟨R2,hR2⟩:∃ R2:Int,R2=R*4294967296+l0 - qb*Y:=⟨_,rfl⟩
        have z0:0≤R2:=by omega
        have z1:R2<Y:=by omega
        have eF:IntKind.u64.wrap (IntKind.u64.wrap (IntKind.u64.wrap (R*4294967296)+l0) - IntKind.u64.wrap (qb*Y))=R2:=by
         simp only [IntKind.wrap_u64];omega
        have FIN:=K.fin (hi:=hi) (lo:=lo) (S:=2 ^ s) (q1:=q) (q0:=qb) (R:=R) (R2:=R2) (Int.pow_pos (by omega)) (by omega) ENh.out HYh.out HL.out HR.out hR2 z0 z1
        have FINh:=(show Hid _ from FIN)
        clear FIN hR2 h3 h4
        go_wp2
        go_ret2
        exact ⟨by rw [FINh.out.1,FINh.out.2];rfl,rfl⟩
       ·have NX:Hid (K.Inv R d1 d0 Y l0 (t - 1) (v+d1)):=K.yes S2 IN2.out (Or.inr (by rw [← HPh.out];exact hB)) (by omega)
        have t1:1≤t:=by have:=NX.out.2.2.1;omega
        go_wp2
        go_round
        case rel=>exact ⟨t - 1,v+d1,rfl,rfl,NX.out⟩
        case measure=>simp [intOf];omega
      ·have hBd:decide (4294967296*v+l0<P)=false:=by simp;omega
       have RT2:Hid (K.Right R Y l0 t):=K.no S2 IN2.out (by rw [← HPh.out];omega)
       obtain ⟨h1,h2,h3,h4⟩:=id RT2.out
       obtain ⟨R2,hR2⟩:∃ R2:Int,R2=R*4294967296+l0 - t*Y:=⟨_,rfl⟩
       have z0:0≤R2:=by omega
       have z1:R2<Y:=by omega
       have eF:IntKind.u64.wrap (IntKind.u64.wrap (IntKind.u64.wrap (R*4294967296)+l0) - IntKind.u64.wrap (t*Y))=R2:=by
        simp only [IntKind.wrap_u64];omega
       have FIN:=K.fin (hi:=hi) (lo:=lo) (S:=2 ^ s) (q1:=q) (q0:=t) (R:=R) (R2:=R2) (Int.pow_pos (by omega)) (by omega) ENh.out HYh.out HL.out HR.out hR2 z0 z1
       have FINh:=(show Hid _ from FIN)
       clear FIN hR2 h3 h4
       go_wp2
       go_ret2
       exact ⟨by rw [FINh.out.1,FINh.out.2];rfl,rfl⟩
end Go.Proofs.YtnplifkgeeicjaaGreatDoor
