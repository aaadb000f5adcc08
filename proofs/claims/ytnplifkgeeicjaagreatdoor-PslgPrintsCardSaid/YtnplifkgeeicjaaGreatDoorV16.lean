import Derived.Test.YtnplifkgeeicjaaGreatDoorV10
import Derived.Test.YtnplifkgeeicjaaGreatDoorV15
set_option maxRecDepth 100000
set_option maxHeartbeats 2000000
namespace Go.Proofs.YtnplifkgeeicjaaGreatDoor
open Go.RowKit
theorem Baz {ys zs:List Nat} {n1 s:Nat} (lb:M.Low Bb ys) (hn:ys.length=n1+1) (hn1:1≤n1) (lz:M.Low Bb zs) (nz:zs.length=n1+1+1) (vz:M.val Bb zs=M.val Bb ys*2 ^ s) (hs:s≤63)
  (h1:9223372036854775808≤lm ys n1*2 ^ s) (h2:lm ys n1*2 ^ s<18446744073709551616) :
  ∃ d0 be d1,zs=(d0 ++ [be,d1]) ++ [0]∧d0.length+1=n1∧M.Low Bb d0∧be<Bb∧d1<Bb∧Bb≤2*d1∧M.val Bb (d0 ++ [be,d1])=M.val Bb ys*2 ^ s:=by
 have eB:Bb=2 ^ s*2 ^ (64 - s):=by rw [← Nat.pow_add,show s+(64 - s)=64 by omega];rfl
 have hS:0<2 ^ s:=Nat.pow_pos (by omega)
 have hy:M.val Bb ys=M.val Bb (ys.take n1)+Bb ^ n1*lm ys n1:=by
  have:=M.val_take_succ Bb ys n1
  rw [M.val_take_all _ _ _ (by omega)] at this
  exact this
 have hR:M.val Bb (ys.take n1)<Bb ^ n1:=M.val_lt_pow Bm (lb.take n1) (by simp;omega)
 obtain ⟨z1,e0,rfl⟩:=L.last1 zs (by intro h;subst h;simp at nz)
 have nz1:z1.length=n1+1:=by simp at nz;omega
 have hlt:M.val Bb ys*2 ^ s<Bb ^ n1*Bb:=by rw [hy];exact L.shift_lt eB hR h2 hS
 rw [M.val_snoc,nz1,Nat.pow_succ] at vz
 have he:e0=0:=L.top_zero (by rw [vz];exact hlt)
 subst he
 rw [Nat.mul_zero,Nat.add_zero] at vz
 obtain ⟨d0,be,d1,rfl⟩:=L.last2 z1 (by omega)
 have nd:d0.length+1=n1:=by simp at nz1;omega
 have ld:M.Low Bb d0:=fun x hx=>lz x (by simp [hx])
 have lbe:be<Bb:=lz be (by simp)
 have ld1:d1<Bb:=lz d1 (by simp)
 refine ⟨d0,be,d1,rfl,nd,ld,lbe,ld1,?_,vz⟩
 have hd:9223372036854775808≤d1:=by
  refine L.shift_hi (P:=Bb ^ n1) (Rl:=M.val Bb (d0 ++ [be])) (R:=M.val Bb (ys.take n1)) (T:=lm ys n1) (S:=2 ^ s) (M.val_lt_pow Bm (ld.snoc lbe) (by simp;omega)) h1 ?_
  rw [← hy,← vz,show d0 ++ [be,d1]=(d0 ++ [be]) ++ [d1] by simp,M.val_snoc _ (d0 ++ [be]) d1,Ji,List.length_singleton,nd]
 unfold Bb;omega
theorem Zw {rs hi:List Nat} {j n2 z:Nat} (hj:j<rs.length) (hh:hi.length=n2+2) (lr:M.Low Bb rs) (lh:M.Low Bb hi) :
  ∃ s0 low nx top,s0.length=n2∧M.Low Bb s0∧low<Bb∧nx<Bb∧top<Bb∧rs.take (j+1) ++ hi ++ List.replicate z 0=rs.take j ++ (s0 ++ [low,nx]) ++ (top :: List.replicate z 0) ∧
   M.val Bb (s0 ++ [low,nx,top])=lm rs j+Bb*M.val Bb hi∧M.val Bb (s0 ++ [low,nx,top])=M.val Bb (s0 ++ [low,nx])+Bb ^ (n2+2)*top:=by
 obtain ⟨h0,top,he⟩:=L.last1 (lm rs j :: hi) (by simp)
 have l1:h0.length=n2+2:=by have:=congrArg List.length he;simp at this;omega
 obtain ⟨s0,low,nx,rfl⟩:=L.last2 h0 (by omega)
 have ll:M.Low Bb (s0 ++ [low,nx] ++ [top]):=by rw [← he];exact M.Low.cons (Ci Bm lr j) lh
 refine ⟨s0,low,nx,top,by simp at l1;omega,fun x hx=>ll x (by simp [hx]),ll low (by simp),ll nx (by simp),ll top (by simp),?_,?_,?_⟩
 ·have e1:rs.take (j+1)=rs.take j ++ [lm rs j]:=by
   rw [List.take_succ_eq_append_getElem hj];simp [lm,hj]
  rw [e1,List.append_assoc (rs.take j),List.singleton_append,he]
  simp
 ·rw [← M.val_cons,he];simp
 ·rw [show s0 ++ [low,nx,top]=(s0 ++ [low,nx]) ++ [top] by simp,M.val_snoc,l1]
theorem Oa (p q:List Nat) (x j:Nat) (h:p.length=j):lm (p ++ x :: q) j=x:=by
 subst h
 simp [lm]
def Si (hi lo y:Nat):Nat:=(hi*Bb+lo) / y
def Vv (hi lo y:Nat):Nat:=(hi*Bb+lo) % y
theorem Ba1 (lo y:Int) (h0:0<y) (hy:y≤18446744073709551615) (hl0:0≤lo) (hlo:lo≤18446744073709551615) (w:World) :
  Calls Tryz.prog 264 #[.int .u64 0,.int .u64 lo,.int .u64 y] w (Re w (.tuple #[.int .u64 (lo / y),.int .u64 (lo % y)])):=by
 have n1:¬ y=0:=by omega
 obtain ⟨a,ha⟩:∃ a:Int,a=lo / y:=⟨_,rfl⟩
 have a0:0≤a:=by rw [ha];exact Int.ediv_nonneg hl0 (by omega)
 have a1:a≤lo:=by rw [ha];exact Int.ediv_le_self y hl0
 have e1:IntKind.u64.wrap (lo.tdiv y)=a:=by rw [Int.tdiv_eq_ediv_of_nonneg hl0,← ha,IntKind.wrap_u64];omega
 have e2:lo.tmod y=lo % y:=Int.tmod_eq_emod_of_nonneg hl0
 have m0:=Int.emod_nonneg lo n1
 have m1:=Int.emod_lt_of_pos lo h0
 have HA:=(show Hid (a=lo / y) from ha)
 clear ha
 go_enter Tryz.func264,Tryz.ntmps264
 go_wp2
 go_quiet (fail)
 go_wp2
 go_ret2
 exact ⟨by rw [← HA.out];rfl,below_drewN (Jg _ _) _⟩
theorem Uj (hi lo y:Nat) (hhy:hi<y) (hy:y<Bb) (hlo:lo<Bb) (w:World) :
  Calls Tryz.prog 264 #[.int .u64 (hi:Nat),.int .u64 (lo:Nat),.int .u64 (y:Nat)] w (Re w (.tuple #[.int .u64 (Si hi lo y:Nat),.int .u64 (Vv hi lo y:Nat)])):=by
 have hy':y<18446744073709551616:=hy
 have hlo':lo<18446744073709551616:=hlo
 have c:(hi:Int)*18446744073709551616+(lo:Int)=((hi*Bb+lo:Nat):Int):=by rw [Int.natCast_add,Int.natCast_mul];rfl
 by_cases h0:hi=0
 ·subst h0
  refine (Ba1 (lo:Int) (y:Int) (by omega) (by omega) (by omega) (by omega) w).mono ?_
  rintro e w' ⟨rfl,hb⟩
  refine ⟨?_,hb⟩
  unfold Si Vv
  rw [Nat.zero_mul,Nat.zero_add,Int.natCast_ediv,Int.natCast_emod]
 ·refine (Beu (hi:Int) (lo:Int) (y:Int) (by omega) (by omega) (by omega) (by omega) (by omega) w).mono ?_
  rintro e w' ⟨rfl,rfl⟩
  refine ⟨?_,Jg _ _⟩
  unfold Si Vv
  rw [c,Int.natCast_ediv,Int.natCast_emod]
theorem Pc {hi lo y:Nat} (hhy:hi<y) (hlo:lo<Bb):Si hi lo y<Bb∧Vv hi lo y<y∧Si hi lo y*y+Vv hi lo y=hi*Bb+lo:=by
 refine ⟨?_,Nat.mod_lt _ (by omega),?_⟩
 ·unfold Si
  rw [Nat.div_lt_iff_lt_mul (by omega)]
  have:(hi+1)*Bb≤y*Bb:=Jo _ hhy
  rw [Nat.add_mul,Nat.one_mul,Nat.mul_comm y] at this
  omega
 ·unfold Si Vv
  rw [Nat.mul_comm];exact Nat.div_add_mod _ _
def DAt (xs qs:List Nat) (b k r:Nat):Prop:=qs.length=xs.length - k∧M.Low Bb qs∧r<b∧M.val Bb (xs.drop k)=M.val Bb qs*b+r
theorem DAt.step {xs qs:List Nat} {b k r:Nat} (la:M.Low Bb xs) (hk:k<xs.length) (h:DAt xs qs b (k+1) r):DAt xs (Si r (lm xs k) b :: qs) b k (Vv r (lm xs k) b):=by
 obtain ⟨h1,h2,h3,h4⟩:=h
 obtain ⟨f1,f2,f3⟩:=Pc h3 (Ci Bm la k)
 refine ⟨by simp;omega,M.Low.cons f1 h2,f2,?_⟩
 rw [Eo xs k hk,M.val_cons,M.val_cons,h4,Nat.add_mul,Nat.mul_add,Nat.mul_assoc]
 rw [Nat.mul_comm r] at f3
 omega
theorem Qg (k:Nat) (q:Nat) (qs:List Nat):(List.replicate (k+1) 0 ++ qs).set k q=List.replicate k 0 ++ (q :: qs):=by
 rw [List.replicate_succ',List.append_assoc,List.set_append_right _ _ (by simp)]
 simp
theorem Qc (va:Value) (xs:List Nat) (b:Nat) (w:World) (ha:Rd w va xs) (la:M.Low Bb xs) (hb0:0<b) (hb:b<Bb) (hm:xs.length≤100000) :
  Calls Tryz.prog 240 #[va,.int .u64 (b:Nat)] w fun e w'=>∃ q r qs,e=.returned (.tuple #[q,r])∧Rd w' q qs∧M.Low Bb qs∧qs.length=xs.length∧Rd w' r [M.val Bb xs % b]∧M.val Bb qs=M.val Bb xs / b∧Below w.heap.size w w'∧Ty w' q∧Ty w' r:=by
 have ha0:=ha
 obtain ⟨a,ca,rfl,hca,-⟩:=ha
 go_enter Tryz.func240,Tryz.ntmps240
 go_wp2_with (at_make;refine Cn rfl _ _ rfl _ xs.length rfl rfl rfl (by omega) ?_;intro w2 hblk hbel)
 go_loopw [7,8] (fun r i wr=>∃ (k rr:Nat) (qs:List Nat),k≤xs.length∧i=.int .i64 ((k:Int) - 1)∧r=.int .u64 (rr:Nat)∧DAt xs qs b k rr∧Cm wr w.heap.size (List.replicate k 0 ++ qs)∧Below w.heap.size w wr) (fun _ i _=>(intOf i+1).toNat)
 case atStart=>exact ⟨xs.length,0,[],Jb _,rfl,rfl,⟨by simp,M.Low.nil _,hb0,by simp [M.val]⟩,by simpa using hblk,hbel⟩
 case round =>
  obtain ⟨k,rr,qs,hk,rfl,rfl,hat,hblk',hbel'⟩:=hrel
  match k with
  | 0 =>
   obtain ⟨h1,h2,h3,h4⟩:=hat
   simp only [List.drop_zero] at h4
   have hq:M.val Bb qs=M.val Bb xs / b:=by
    rw [h4,Nat.mul_comm,Nat.mul_add_div hb0,Nat.div_eq_of_lt h3,Nat.add_zero]
   have hr:rr=M.val Bb xs % b:=by
    rw [h4,Nat.mul_comm,Nat.mul_add_mod,Nat.mod_eq_of_lt h3]
   have HQ:=Ba hq
   have HR:=Ba hr
   have H1:=Ba h1
   have hb1:Cm wr w.heap.size qs:=by simpa using hblk'
   have hsz:=hbel'.size
   clear hq hr h4 hblk' h1
   go_wp2
   go_ret2
   have hl:qs.length=xs.length:=by have:=H1.out;omega
   refine ⟨_,_,qs,rfl,?_,h2,hl,?_,HQ.out,hbel'.alloc hsz _,(hb1.alloc _).ty _ _ _,(Qr wr [rr]).ty _ _ _⟩
   ·have:=(hb1.alloc (.cells #[.int .u64 (rr:Nat)] 170)).rd0 xs.length (by omega)
    rwa [hl] at this
   ·rw [← HR.out]
    exact (Qr wr [rr]).rd0 1 (by simp)
  | k+1 =>
   have e1:(((k+1:Nat):Int) - 1)=(k:Int):=by omega
   rw [e1]
   obtain ⟨ab,ao,rfl,qa⟩:=ha0.at hbel' (j:=k) (by omega)
   have hrb:=hat.2.2.1
   have hx:=Ci Bm la k
   have HST:=Ba (hat.step la (by omega))
   go_wp2_with fail
   refine (Uj rr (lm xs k) b hrb hb hx _).mono ?_
   rintro e w3 ⟨rfl,hb3⟩
   have hblk3:=hblk'.b hb3
   have hc1:=hblk3.cell (j:=k) (by simp;omega)
   have hf1:=hblk3.o k
   have hset:=hblk3.set k (Si rr (lm xs k) b)
   rw [Qg] at hset
   have HSET:=Ba hset
   have hbel3:=Ia hbel' hb3
   have hkl:(k:Int)<(xs.length:Int):=by omega
   clear hset hblk' hblk hbel qa
   go_wp2
   exact ⟨⟨k,_,_,by omega,by go_num,rfl,HST.out,HSET.out,hbel3.setCell (Jb _) _⟩,by simp [intOf]⟩
def Bba (U d1 be low q r:Nat):Prop:=q*d1+r=U∧r<Bb∧q<Bb∧U*Bb+low<q*(d1*Bb+be)+(d1*Bb+be)
def GOk (U d1 be low q:Nat):Prop:=q<Bb∧q*(d1*Bb+be)≤U*Bb+low∧U*Bb+low<q*(d1*Bb+be)+(d1*Bb+be)
theorem Bkq {U d1 be q r:Nat} (h:q*d1+r=U):q*(d1*Bb+be)+r*Bb=U*Bb+q*be:=by
 rw [← h,Nat.mul_add,Nat.add_mul,← Nat.mul_assoc];omega
theorem Bkp {top nx d1 be low:Nat} (h:top<d1) (hn:nx<Bb) (hd:d1<Bb) (hl:low<Bb):Bba (top*Bb+nx) d1 be low (Si top nx d1) (Vv top nx d1):=by
 obtain ⟨f1,f2,f3⟩:=Pc h hn
 refine ⟨f3,Nat.lt_trans f2 hd,f1,?_⟩
 have e:=Bkq (be:=be) f3
 have p:Vv top nx d1*Bb+Bb≤d1*Bb:=by
  have:=Jo Bb (Nat.succ_le_of_lt f2)
  rwa [Nat.succ_mul] at this
 omega
theorem Bo9 {U d1 be low q r:Nat} (h:Bba U d1 be low q r) (ht:q*be≤r*Bb+low):GOk U d1 be low q:=by
 obtain ⟨h1,h2,h3,h4⟩:=h
 have e:=Bkq (be:=be) h1
 exact ⟨h3,by omega,h4⟩
theorem Bau {U d1 be low q r:Nat} (h:Bba U d1 be low q r) (hq:0<q) (ht:r*Bb+low<q*be) :
  (q - 1)*d1+(r+d1)=U∧q - 1<Bb∧U*Bb+low<(q - 1)*(d1*Bb+be)+(d1*Bb+be):=by
 obtain ⟨h1,h2,h3,h4⟩:=h
 have e:=Bkq (be:=be) h1
 obtain ⟨p,rfl⟩:∃ p,q=p+1:=⟨q - 1,by omega⟩
 rw [Nat.add_sub_cancel]
 have e2:(p+1)*d1=p*d1+d1:=Nat.succ_mul _ _
 have e3:(p+1)*(d1*Bb+be)=p*(d1*Bb+be)+(d1*Bb+be):=Nat.succ_mul _ _
 refine ⟨by omega,by omega,by omega⟩
theorem Bl8 {U d1 be low q r:Nat} (hb:be<Bb) (h:Bba U d1 be low q r) (hq:0<q) (ht:r*Bb+low<q*be) (hr:Bb≤r+d1):GOk U d1 be low (q - 1):=by
 obtain ⟨g1,g2,g3⟩:=Bau h hq ht
 have e:=Bkq (be:=be) g1
 have p1:(q - 1)*be≤Bb*Bb:=Nat.mul_le_mul (by omega) (by omega)
 have p2:Bb*Bb≤(r+d1)*Bb:=Jo _ hr
 exact ⟨g2,by omega,g3⟩
theorem Bjy {x y r low:Nat} (hl:low<Bb):(r<D9 x y∨(D9 x y=r∧low<Dy x y))↔r*Bb+low<x*y:=by
 have e:18446744073709551616*D9 x y+Dy x y=x*y:=Nat.div_add_mod _ _
 have hlo:Dy x y<18446744073709551616:=Nat.mod_lt _ (by omega)
 unfold Bb at *
 generalize D9 x y=H at *
 generalize Dy x y=L at *
 rw [← e]
 constructor
 ·rintro (h | ⟨rfl,h⟩) <;> omega
 ·intro h
  by_cases h1:r<H
  ·exact Or.inl h1
  ·exact Or.inr ⟨by omega,by omega⟩
theorem Bhl (top nx low d1 be:Nat) (w:World) (ht:top<d1) (hn:nx<Bb) (hl:low<Bb) (hd:d1<Bb) (hb:be<Bb) :
  Calls Tryz.prog 266 #[.int .u64 (top:Nat),.int .u64 (nx:Nat),.int .u64 (low:Nat),.int .u64 (d1:Nat),.int .u64 (be:Nat)] w fun e w'=>∃ q:Nat,e=.returned (.int .u64 (q:Nat))∧GOk (top*Bb+nx) d1 be low q∧Below w.heap.size w w':=by
 have ST:=Ba (Bkp (be:=be) ht hn hd hl)
 obtain ⟨U,hU⟩:∃ U,U=top*Bb+nx:=⟨_,rfl⟩
 rw [← hU] at ST ⊢
 obtain ⟨f1,f2,f3⟩:=Pc ht hn
 have n1:¬ d1≤top:=by omega
 clear hU f3
 go_enter Tryz.func266,Tryz.ntmps266
 go_wp2_with fail
 refine (Uj top nx d1 ht hd hn _).mono ?_
 rintro e w1 ⟨rfl,b1⟩
 go_wp2_with fail
 refine (Gs (Si top nx d1) be f1 hb _).mono ?_
 rintro e w2 ⟨rfl,hw⟩
 have hw:=hw.symm
 subst hw
 go_wp2
 go_loopw [11,12,13,14] (fun a b c d wr=>∃ q r:Nat,a=.int .u64 (q:Nat)∧b=.int .u64 (r:Nat)∧c=.int .u64 (D9 q be:Nat)∧d=.int .u64 (Dy q be:Nat)∧Bba U d1 be low q r∧wr=w1) (fun a _ _ _ _=>(intOf a).toNat)
 case atStart=>exact ⟨_,_,rfl,rfl,rfl,rfl,ST.out,rfl⟩
 case round =>
  obtain ⟨q,r,rfl,rfl,rfl,rfl,inv,hwr⟩:=hrel
  have hwr:=hwr.symm
  subst hwr
  have INV:=Ba inv
  have hq:=inv.2.2.1
  have hr:=inv.2.1
  have hcmp:=Bjy (x:=q) (y:=be) (r:=r) hl
  have HC:=Ba hcmp
  clear inv hcmp
  by_cases hA:r<D9 q be
  ·have HT:=Ba (HC.out.1 (Or.inl hA))
   have q0:0<q:=by
    rcases Nat.eq_zero_or_pos q with h | h
    ·subst h;have:=HT.out;rw [Nat.zero_mul] at this;omega
    ·exact h
   obtain ⟨p,rfl⟩:∃ p,q=p+1:=⟨q - 1,by omega⟩
   have hp:p<Bb:=by omega
   have eWp:IntKind.u64.wrap (p:Int)=(p:Int):=Cz p hp
   by_cases hC:r+d1<Bb
   ·obtain ⟨g1,g2,g3⟩:=Bau INV.out q0 HT.out
    rw [Nat.add_sub_cancel] at g1 g2 g3
    have NX:=Ba (show Bba U d1 be low p (r+d1) from ⟨g1,hC,g2,g3⟩)
    have hC':r+d1<18446744073709551616:=hC
    clear g1 g2 g3
    go_wp2_with fail
    refine (Gs p be hp hb _).mono ?_
    rintro e w2 ⟨rfl,hw⟩
    have hw:=hw.symm
    subst hw
    go_wp2
    go_roundw
    case rel=>exact ⟨p,r+d1,by go_num,by go_num,rfl,rfl,NX.out,(by trivial)⟩
    case measure=>simp [intOf]
   ·have OK:=Ba (Bl8 hb INV.out q0 HT.out (by omega))
    have eW:IntKind.u64.wrap (((r:Nat):Int)+(d1:Int))=((r+d1 - 18446744073709551616:Nat):Int):=by
     rw [IntKind.wrap_u64];unfold Bb at *;omega
    obtain ⟨z,hz⟩:∃ z,z=r+d1 - 18446744073709551616:=⟨_,rfl⟩
    have hzd:z<d1:=by unfold Bb at *;omega
    rw [← hz] at eW
    clear hz
    go_wp2
    go_ret
    refine ⟨p,?_,by have h:=OK.out;rwa [Nat.add_sub_cancel] at h,b1⟩
    first | rfl | exact congrArg (fun t=>Ending.returned (Value.int .u64 t)) (by omega)
  ·by_cases hB:D9 q be=r∧low<Dy q be
   ·have HT:=Ba (HC.out.1 (Or.inr hB))
    obtain ⟨hE,hL⟩:=hB
    subst hE
    have q0:0<q:=by
     rcases Nat.eq_zero_or_pos q with h | h
     ·subst h;have:=HT.out;rw [Nat.zero_mul] at this;omega
     ·exact h
    obtain ⟨p,rfl⟩:∃ p,q=p+1:=⟨q - 1,by omega⟩
    have hp:p<Bb:=by omega
    have eWp:IntKind.u64.wrap (p:Int)=(p:Int):=Cz p hp
    by_cases hC:D9 (p+1) be+d1<Bb
    ·obtain ⟨g1,g2,g3⟩:=Bau INV.out q0 HT.out
     rw [Nat.add_sub_cancel] at g1 g2 g3
     have NX:=Ba (show Bba U d1 be low p (D9 (p+1) be+d1) from ⟨g1,hC,g2,g3⟩)
     have hC':D9 (p+1) be+d1<18446744073709551616:=hC
     clear g1 g2 g3
     go_wp2_with fail
     refine (Gs p be hp hb _).mono ?_
     rintro e w2 ⟨rfl,hw⟩
     have hw:=hw.symm
     subst hw
     go_wp2
     go_roundw
     case rel=>exact ⟨p,D9 (p+1) be+d1,by go_num,by go_num,rfl,rfl,NX.out,(by trivial)⟩
     case measure=>simp [intOf]
    ·have OK:=Ba (Bl8 hb INV.out q0 HT.out (by omega))
     have eW:IntKind.u64.wrap (((D9 (p+1) be:Nat):Int)+(d1:Int))=((D9 (p+1) be+d1 - 18446744073709551616:Nat):Int):=by
      rw [IntKind.wrap_u64];unfold Bb at *;omega
     obtain ⟨z,hz⟩:∃ z,z=D9 (p+1) be+d1 - 18446744073709551616:=⟨_,rfl⟩
     have hzd:z<d1:=by unfold Bb at *;omega
     rw [← hz] at eW
     clear hz
     go_wp2
     go_ret
     refine ⟨p,?_,by have h:=OK.out;rwa [Nat.add_sub_cancel] at h,b1⟩
     first | rfl | exact congrArg (fun t=>Ending.returned (Value.int .u64 t)) (by omega)
   ·have OK:=Ba (Bo9 INV.out (Nat.not_lt.1 (fun h=>hB ((HC.out.2 h).resolve_left hA))))
    by_cases hE:D9 q be=r
    ·have hL:¬ low<Dy q be:=fun h=>hB ⟨hE,h⟩
     subst hE
     clear hB
     go_wp2
     go_ret
     exact ⟨q,rfl,OK.out,b1⟩
    ·clear hB
     go_wp2
     go_ret
     exact ⟨q,rfl,OK.out,b1⟩
theorem Bhm (top nx low d1 be:Nat) (w:World) (ht:d1≤top) :
  Calls Tryz.prog 266 #[.int .u64 (top:Nat),.int .u64 (nx:Nat),.int .u64 (low:Nat),.int .u64 (d1:Nat),.int .u64 (be:Nat)] w fun e w'=>e=.returned (.int .u64 18446744073709551615)∧w'=w:=by
 go_enter Tryz.func266,Tryz.ntmps266
 go_wp2
 go_ret
 exact ⟨rfl,rfl⟩
theorem Bo2 (s0:List Nat) (x y z:Nat):M.val Bb (s0 ++ [x,y,z])=((z*Bb+y)*Bb+x)*Bb ^ s0.length+M.val Bb s0:=by
 rw [M.val_append]
 simp only [M.val_cons,M.val_nil,Nat.mul_zero,Nat.add_zero]
 rw [Nat.mul_comm (Bb ^ s0.length),Nat.add_comm]
 congr 2
 rw [Nat.add_mul,Nat.mul_add,Nat.mul_comm Bb y,Nat.mul_comm Bb z,Nat.mul_comm Bb (z*Bb)]
 omega
theorem Bo3 (s0:List Nat) (x y:Nat):M.val Bb (s0 ++ [x,y])=(y*Bb+x)*Bb ^ s0.length+M.val Bb s0:=by
 rw [M.val_append]
 simp only [M.val_cons,M.val_nil,Nat.mul_zero,Nat.add_zero]
 rw [Nat.mul_comm (Bb ^ s0.length),Nat.add_comm]
 congr 2
 rw [Nat.mul_comm Bb y]
 omega
theorem Bek (s0 d0:List Nat) (low nx top be d1:Nat) (w:World) (ls:M.Low Bb s0) (ld:M.Low Bb d0) (he:s0.length=d0.length) (hl:low<Bb) (hn:nx<Bb) (hb:be<Bb) (hd:d1<Bb) (h2:Bb≤2*d1)
  (hV:M.val Bb (s0 ++ [low,nx,top])<Bb*M.val Bb (d0 ++ [be,d1])) :
  Calls Tryz.prog 266 #[.int .u64 (top:Nat),.int .u64 (nx:Nat),.int .u64 (low:Nat),.int .u64 (d1:Nat),.int .u64 (be:Nat)] w fun e w'=>∃ q:Nat,e=.returned (.int .u64 (q:Nat))∧q<Bb∧L.Near (M.val Bb (s0 ++ [low,nx,top])) (M.val Bb (d0 ++ [be,d1])) q∧Below w.heap.size w w':=by
 rw [Bo2,Bo3,he] at hV ⊢
 have hDl:M.val Bb d0<Bb ^ d0.length:=M.val_lt Bm ld
 have hVl:M.val Bb s0<Bb ^ d0.length:=by have:=M.val_lt Bm ls;rwa [he] at this
 by_cases ht:top<d1
 ·refine (Bhl top nx low d1 be w ht hn hl hd hb).mono ?_
  rintro e w' ⟨q,rfl,⟨g1,g2,g3⟩,hbel⟩
  exact ⟨q,rfl,g1,L.near_three (by omega) hDl hVl g1 g2 g3,hbel⟩
 ·refine (Bhm top nx low d1 be w (by omega)).mono ?_
  rintro e w' ⟨rfl,rfl⟩
  refine ⟨Bb - 1,rfl,by unfold Bb;omega,L.near_top hb hDl h2 (Nat.not_lt.1 ht) ?_ hV,Jg _ _⟩
  have e1:top*(Bb*(Bb*Bb ^ d0.length))=top*Bb*Bb*Bb ^ d0.length:=by simp only [Nat.mul_assoc]
  have e2:top*Bb*Bb*Bb ^ d0.length≤((top*Bb+nx)*Bb+low)*Bb ^ d0.length:=Jo _ (by rw [Nat.add_mul];omega)
  omega
def S8 (x s:Nat):Nat:=x*2 ^ s % 18446744073709551616
def Ka (x s:Nat):Nat:=x / 2 ^ (64 - s)
def Zh (c x s:Nat):Nat:=c+S8 x s
theorem Gb {c x s:Nat} (hs:s≤63) (hx:x<Bb) (hc:c<2 ^ s):Zh c x s<Bb∧Ka x s<2 ^ s∧Zh c x s+Bb*Ka x s=c+x*2 ^ s∧bits .or .u64 (c:Int) ((S8 x s:Nat):Int)=((Zh c x s:Nat):Int)∧c<18446744073709551616:=by
 have e:2 ^ s*2 ^ (64 - s)=18446744073709551616:=by rw [← Nat.pow_add,show s+(64 - s)=64 by omega]
 have hS:0<2 ^ s:=Nat.pow_pos (by omega)
 have hZ:0<2 ^ (64 - s):=Nat.pow_pos (by omega)
 have h2:x*2 ^ s / 18446744073709551616=x / 2 ^ (64 - s):=by
  rw [← e,Nat.mul_comm (2 ^ s),Nat.mul_div_mul_right _ _ hS]
 have h3:=Nat.div_add_mod (x*2 ^ s) 18446744073709551616
 rw [h2] at h3
 have h4:x / 2 ^ (64 - s)<2 ^ s:=by rw [Nat.div_lt_iff_lt_mul hZ,e];exact hx
 have h5:x*2 ^ s % 18446744073709551616=x % 2 ^ (64 - s)*2 ^ s:=by
  rw [← e,Nat.mul_comm (2 ^ s),Nat.mul_mod_mul_right]
 have h6:x % 2 ^ (64 - s)*2 ^ s+2 ^ s≤18446744073709551616:=by
  have:(x % 2 ^ (64 - s)+1)*2 ^ s≤2 ^ (64 - s)*2 ^ s:=Jo _ (Nat.mod_lt _ hZ)
  rw [Nat.mul_comm (2 ^ (64 - s)),e,Nat.add_mul,Nat.one_mul] at this
  exact this
 have hc':c<18446744073709551616:=by
  have:2 ^ s≤18446744073709551616:=by rw [← e];exact Nat.le_mul_of_pos_right _ hZ
  omega
 have hlow:S8 x s<18446744073709551616:=Nat.mod_lt _ (by omega)
 refine ⟨?_,h4,?_,?_,hc'⟩
 ·unfold Zh S8 Bb;rw [h5];omega
 ·unfold Zh S8 Ka Bb;omega
 ·rw [bits_or_u64_nat _ _ hc' hlow]
  unfold Zh S8
  rw [h5,← Nat.shiftLeft_eq,Nat.or_comm,← Nat.shiftLeft_add_eq_or_of_lt hc,Nat.add_comm]
def UAt (xs d:List Nat) (s k c:Nat):Prop:=d.length=k∧M.Low Bb d∧c<2 ^ s∧M.val Bb d+Bb ^ k*c=M.val Bb (xs.take k)*2 ^ s
theorem UAt.step {xs d:List Nat} {s k c:Nat} (la:M.Low Bb xs) (hs:s≤63) (h:UAt xs d s k c):UAt xs (d ++ [Zh c (lm xs k) s]) s (k+1) (Ka (lm xs k) s):=by
 obtain ⟨h1,h2,h3,h4⟩:=h
 obtain ⟨f1,f2,f3,_,_⟩:=Gb hs (Ci Bm la k) h3
 refine ⟨by simp [h1],h2.snoc f1,f2,?_⟩
 rw [M.val_snoc,h1,M.val_take_succ,Nat.pow_succ]
 have e2:Bb ^ k*(Zh c (lm xs k) s+Bb*Ka (lm xs k) s)=Bb ^ k*(c+lm xs k*2 ^ s):=by rw [f3]
 simp only [Nat.mul_add,← Nat.mul_assoc] at e2
 show _=(_+Bb ^ k*lm xs k)*2 ^ s
 rw [Nat.add_mul]
 omega
theorem Mr (va:Value) (xs:List Nat) (s:Nat) (w:World) (ha:Rd w va xs) (la:M.Low Bb xs) (hs:s≤63) (hm:xs.length≤100000) :
  Calls Tryz.prog 265 #[va,.int .i64 (s:Nat)] w fun e w'=>∃ (g:Nat) (zs:List Nat),e=.returned (.slice (some ⟨g,0,none⟩) zs.length zs.length)∧Cm w' g zs∧zs.length=xs.length+1∧M.Low Bb zs∧M.val Bb zs=M.val Bb xs*2 ^ s∧w.heap.size≤g∧Below w.heap.size w w':=by
 have ha0:=ha
 obtain ⟨a,ca,rfl,hca,-⟩:=ha
 have hs1:(s:Int)≤63:=by omega
 go_enter Tryz.func265,Tryz.ntmps265
 go_wp2_with (at_make;refine Cn rfl _ _ rfl _ (xs.length+1) rfl rfl (by omega) (by omega) ?_;intro w2 hblk hbel)
 go_loopw [14] (fun i wr=>∃ (k c:Nat) (d:List Nat),k≤xs.length∧i=.int .i64 k∧UAt xs d s k c∧Cm wr w.heap.size (d ++ (c :: List.replicate (xs.length - k) 0))∧Below w.heap.size w wr) (fun i _=>xs.length - (intOf i).toNat)
 case atStart=>exact ⟨0,0,[],by omega,rfl,⟨rfl,M.Low.nil _,Nat.pow_pos (by omega),by simp [M.val]⟩,by simpa [List.replicate_succ] using hblk,hbel⟩
 case round =>
  obtain ⟨k,c,d,hk,rfl,hat,hblk',hbel'⟩:=hrel
  have hdl:d.length=k:=hat.1
  by_cases hlt:k<xs.length
  ·obtain ⟨ab,ao,rfl,qa⟩:=ha0.at hbel' hlt
   obtain ⟨f1,f2,f3,f4,f5⟩:=Gb hs (Ci Bm la k) hat.2.2.1
   have HR:Hid (xs.length - k=(xs.length - (k+1))+1):=by show _=_;omega
   rw [HR.out,List.replicate_succ] at hblk'
   have hc1:=hblk'.cell (j:=k) (by simp;omega)
   have hc2:=hblk'.cell (j:=k+1) (by simp;omega)
   have hf1:=hblk'.o k
   have hf2:=hblk'.o (k+1)
   have e1:lm (d ++ c :: 0 :: List.replicate (xs.length - (k+1)) 0) k=c:=by
    have:=Gi [] d (0 :: List.replicate (xs.length - (k+1)) 0) [] c
    simpa [hdl] using this
   rw [e1] at hc1
   have hset:=(hblk'.set k (Zh c (lm xs k) s)).set (k+1) (Ka (lm xs k) s)
   have e2:((d ++ c :: 0 :: List.replicate (xs.length - (k+1)) 0).set k (Zh c (lm xs k) s)).set (k+1) (Ka (lm xs k) s)=(d ++ [Zh c (lm xs k) s]) ++ (Ka (lm xs k) s :: List.replicate (xs.length - (k+1)) 0):=by
    rw [← hdl,List.set_append_right _ _ (Jb _),List.set_append_right _ _ (by omega)]
    simp
   rw [e2] at hset
   have HSET:=Ba hset
   have HST:=Ba (hat.step la hs)
   have el:IntKind.u64.wrap ((lm xs k:Int)*2 ^ s)=((S8 (lm xs k) s:Nat):Int):=by rw [← De,Nf];rfl
   have eh:((lm xs k:Int) / 2 ^ (64 - s))=((Ka (lm xs k) s:Nat):Int):=by rw [← Fo];rfl
   have hk1:(k:Int)<(xs.length:Int)+1:=by omega
   have hk2:(k:Int)+1<(xs.length:Int)+1:=by omega
   clear hset e1 e2 f1 f2 f3 f5 hblk hbel
   go_wp2
   go_region
   go_wp2
   exact ⟨⟨k+1,_,_,by omega,by go_num,HST.out,HSET.out.drew,((hbel'.setCell (Jb _) _).setCell (Jb _) _).drew⟩,by simp [intOf];omega⟩
  ·have HKE:Hid (k=xs.length):=by show _=_;omega
   obtain ⟨h1,h2,h3,h4⟩:=hat
   rw [HKE.out,M.val_take_all _ _ _ (Jb _)] at h4
   have hcb:c<Bb:=by
    have:2 ^ s≤2 ^ 63:=Nat.pow_le_pow_right (by omega) hs
    unfold Bb;omega
   have hz:(d ++ [c]).length=xs.length+1:=by rw [Ji,h1,HKE.out];rfl
   have hv:M.val Bb (d ++ [c])=M.val Bb xs*2 ^ s:=by rw [M.val_snoc,h1,HKE.out];exact h4
   have hb4:Cm wr w.heap.size (d ++ [c]):=by
    rw [HKE.out] at hblk'
    simpa using hblk'
   have HZ:=Ba hz
   have HV:=Ba hv
   clear h4 hz hv hblk' h1 hdl hblk hbel
   go_wp2
   go_ret
   exact ⟨w.heap.size,d ++ [c],by rw [HZ.out];rfl,hb4,HZ.out,h2.snoc hcb,HV.out,Jb _,hbel'⟩
/-! ### shiftDown -/
def sdO (x y s:Nat):Nat:=x / 2 ^ s+y % 2 ^ s*2 ^ (64 - s)
theorem W4 {x y s:Nat} (hs:s≤63) (hx:x<Bb) :
  sdO x y s<Bb∧sdO x y s*2 ^ s+x % 2 ^ s=x+Bb*(y % 2 ^ s)∧bits .or .u64 ((x / 2 ^ s:Nat):Int) ((y*2 ^ (64 - s) % 18446744073709551616:Nat):Int)=((sdO x y s:Nat):Int):=by
 have e:2 ^ (64 - s)*2 ^ s=18446744073709551616:=by rw [← Nat.pow_add,show 64 - s+s=64 by omega]
 have hS:0<2 ^ s:=Nat.pow_pos (by omega)
 have hZ:0<2 ^ (64 - s):=Nat.pow_pos (by omega)
 have h4:x / 2 ^ s<2 ^ (64 - s):=by rw [Nat.div_lt_iff_lt_mul hS,e];exact hx
 have h5:y*2 ^ (64 - s) % 18446744073709551616=y % 2 ^ s*2 ^ (64 - s):=by
  rw [← e,Nat.mul_comm (2 ^ (64 - s)),Nat.mul_mod_mul_right]
 have h6:y % 2 ^ s*2 ^ (64 - s)+2 ^ (64 - s)≤18446744073709551616:=by
  have:(y % 2 ^ s+1)*2 ^ (64 - s)≤2 ^ s*2 ^ (64 - s):=Jo _ (Nat.mod_lt _ hS)
  rw [Nat.mul_comm (2 ^ s),e,Nat.add_mul,Nat.one_mul] at this
  exact this
 have hd:x / 2 ^ s<18446744073709551616:=Nat.lt_of_le_of_lt (Nat.div_le_self _ _) hx
 refine ⟨by unfold sdO Bb;omega,?_,?_⟩
 ·unfold sdO
  rw [Nat.add_mul,Nat.mul_assoc,e]
  have:=Nat.div_add_mod x (2 ^ s)
  rw [Nat.mul_comm] at this
  unfold Bb
  omega
 ·rw [bits_or_u64_nat _ _ hd (Nat.mod_lt _ (by omega))]
  unfold sdO
  rw [h5,← Nat.shiftLeft_eq,Nat.or_comm,← Nat.shiftLeft_add_eq_or_of_lt h4,Nat.add_comm]
def WAt (xs d:List Nat) (s k:Nat):Prop:=d.length=k∧M.Low Bb d∧M.val Bb d*2 ^ s+lm xs 0 % 2 ^ s=M.val Bb (xs.take k)+Bb ^ k*(lm xs k % 2 ^ s)
theorem WAt.step {xs d:List Nat} {s k:Nat} (la:M.Low Bb xs) (hs:s≤63) (h:WAt xs d s k):WAt xs (d ++ [sdO (lm xs k) (lm xs (k+1)) s]) s (k+1):=by
 obtain ⟨h1,h2,h4⟩:=h
 obtain ⟨f1,f3,_⟩:=W4 (y:=lm xs (k+1)) hs (Ci Bm la k)
 refine ⟨by simp [h1],h2.snoc f1,?_⟩
 rw [M.val_snoc,h1,M.val_take_succ,Nat.pow_succ,Nat.add_mul,Nat.mul_assoc]
 have e2:Bb ^ k*(sdO (lm xs k) (lm xs (k+1)) s*2 ^ s+lm xs k % 2 ^ s)=Bb ^ k*(lm xs k+Bb*(lm xs (k+1) % 2 ^ s)):=by rw [f3]
 simp only [Nat.mul_add,← Nat.mul_assoc] at e2
 show _=_+Bb ^ k*lm xs k+_
 simp only [← Nat.mul_assoc]
 omega
theorem S7 (g:Nat) (xs:List Nat) (s:Nat) (w:World) (hb:Cm w g xs) (la:M.Low Bb xs) (hs:s≤63) (hm:xs.length≤100000) :
  Calls Tryz.prog 268 #[.slice (some ⟨g,0,none⟩) xs.length xs.length,.int .i64 (s:Nat)] w fun e w'=>∃ (zs:List Nat),e=.returned (.tuple #[])∧Cm w' g zs∧zs.length=xs.length∧M.Low Bb zs∧M.val Bb zs=M.val Bb xs / 2 ^ s∧Bu g w w':=by
 have hs1:(s:Int)≤63:=by omega
 have hS:0<2 ^ s:=Nat.pow_pos (by omega)
 go_enter Tryz.func268,Tryz.ntmps268
 go_wp2
 go_loopw [7] (fun i wr=>∃ (k:Nat) (d:List Nat),k≤xs.length∧i=.int .i64 k∧WAt xs d s k∧Cm wr g (d ++ xs.drop k)∧Bu g w wr) (fun i _=>xs.length - (intOf i).toNat)
 case atStart =>
  refine ⟨0,[],by omega,rfl,⟨rfl,M.Low.nil _,by simp [M.val]⟩,by simpa using hb,Bu.refl _ _⟩
 case round =>
  obtain ⟨k,d,hk,rfl,hat,hblk',hon⟩:=hrel
  have hdl:d.length=k:=hat.1
  by_cases hlt:k<xs.length
  ·obtain ⟨f1,f3,f4⟩:=W4 (y:=lm xs (k+1)) hs (Ci Bm la k)
   have HST:=Ba (hat.step la hs)
   rw [Eo xs k hlt] at hblk'
   have hc1:=hblk'.cell (j:=k) (by simp;omega)
   have hf1:=hblk'.o k
   have e1:lm (d ++ lm xs k :: xs.drop (k+1)) k=lm xs k:=by
    have:=Gi [] d (xs.drop (k+1)) [] (lm xs k)
    simpa [hdl] using this
   rw [e1] at hc1
   have eh:((lm xs k:Int) / 2 ^ s)=((lm xs k / 2 ^ s:Nat):Int):=by rw [← Fo]
   obtain ⟨A,hA⟩:∃ A,A=lm xs k / 2 ^ s:=⟨_,rfl⟩
   rw [← hA] at eh f4
   have e2:∀ u v,(d ++ u :: xs.drop (k+1)).set k v=d ++ v :: xs.drop (k+1):=fun u v=>by
    rw [← hdl,List.set_append_right _ _ (Jb _)];simp
   have hA1:A<18446744073709551616:=by rw [hA];exact Nat.lt_of_le_of_lt (Nat.div_le_self _ _) (Ci Bm la k)
   by_cases hlt2:k+1<xs.length
   ·have hc2:=hblk'.cell (j:=k+1) (by simp;omega)
    have e3:lm (d ++ lm xs k :: xs.drop (k+1)) (k+1)=lm xs (k+1):=by
     unfold lm
     rw [Jh,List.getElem?_append_right (by omega),hdl,show k+1 - k=0+1 by omega,Jm,List.getElem?_drop,Jh]
    rw [e3] at hc2
    have hset:=(hblk'.set k A).set k (sdO (lm xs k) (lm xs (k+1)) s)
    rw [e2,e2] at hset
    have HSET:Hid (Cm ((wr.setCell ⟨g,k,none⟩ (.int .u64 (A:Nat))).setCell ⟨g,k,none⟩ (.int .u64 (sdO (lm xs k) (lm xs (k+1)) s:Nat))) g ((d ++ [sdO (lm xs k) (lm xs (k+1)) s]) ++ xs.drop (k+1))):=by
     rw [List.append_assoc];exact hset
    have el:IntKind.u64.wrap ((lm xs (k+1):Int)*2 ^ (64 - s))=((lm xs (k+1)*2 ^ (64 - s) % 18446744073709551616:Nat):Int):=by rw [← De,Nf]
    obtain ⟨Cc,hCc⟩:∃ Cc,Cc=lm xs (k+1)*2 ^ (64 - s) % 18446744073709551616:=⟨_,rfl⟩
    rw [← hCc] at el f4
    have hi1:(k:Int)<(xs.length:Int):=by omega
    have hi2:(k:Int)+1<(xs.length:Int):=by omega
    clear hset e1 e2 e3 f1 f3 hA hCc hb hblk'
    go_wp2
    go_region
    go_wp2
    exact ⟨⟨k+1,_,by omega,by go_num,HST.out,HSET.out.drew,((hon.setCell _ _).setCell _ _).drew⟩,by simp [intOf];omega⟩
   ·have hst:=HST.out
    rw [Ek (xs:=xs) (j:=k+1) (by omega)] at hst
    have e4:sdO (lm xs k) 0 s=A:=by unfold sdO;rw [Nat.zero_mod,Nat.zero_mul,Nat.add_zero,hA]
    rw [e4] at hst
    have hset:=hblk'.set k A
    rw [e2] at hset
    have HSET:Hid (Cm (wr.setCell ⟨g,k,none⟩ (.int .u64 (A:Nat))) g ((d ++ [A]) ++ xs.drop (k+1))):=by
     rw [List.append_assoc];exact hset
    have HST2:=Ba hst
    have hi1:(k:Int)<(xs.length:Int):=by omega
    clear hset e1 e2 e4 f1 f3 f4 hA hb hblk' hst HST
    go_wp2
    exact ⟨⟨k+1,_,by omega,by go_num,HST2.out,HSET.out,hon.setCell _ _⟩,by simp [intOf];omega⟩
  ·have HKE:Hid (k=xs.length):=by show _=_;omega
   obtain ⟨h1,h2,h4⟩:=hat
   rw [HKE.out,M.val_take_all _ _ _ (Jb _),Ek (Jb _),Nat.zero_mod,Nat.mul_zero,Nat.add_zero] at h4
   have hv:M.val Bb d=M.val Bb xs / 2 ^ s:=by
    rw [← h4,Nat.mul_comm,Nat.mul_add_div hS,Nat.div_eq_of_lt (Nat.mod_lt _ hS),Nat.add_zero]
   have hb4:Cm wr g d:=by
    rw [HKE.out] at hblk'
    simpa using hblk'
   have HV:=Ba hv
   have H1:Hid (d.length=xs.length):=by show _=_;rw [h1,HKE.out]
   clear h4 hv hblk' h1 hdl hb
   go_wp2
   go_end0
   exact ⟨d,rfl,hb4,H1.out,h2,HV.out,hon⟩
end Go.Proofs.YtnplifkgeeicjaaGreatDoor
