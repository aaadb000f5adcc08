import Derived.Deep.RegionWith
import Derived.Test.YtnplifkgeeicjaaGreatDoorV16
namespace Go.Proofs.YtnplifkgeeicjaaGreatDoor
open Go.RowKit
set_option maxRecDepth 100000 in
set_option maxHeartbeats 2000000 in
theorem Sh (va vb:Value) (xs ys:List Nat) (w:World) (ha:Rd w va xs) (hb:Rd w vb ys) (la:M.Low Bb xs) (lb:M.Low Bb ys) (h2:2≤ys.length) (hle:ys.length≤xs.length) (htop:0<lm ys (ys.length - 1)) (hm:xs.length≤50000) :
  Calls Tryz.prog 241 #[va,vb] w fun e w'=>∃ q r qs rs,e=.returned (.tuple #[q,r])∧Rd w' q qs∧M.Low Bb qs∧qs.length≤xs.length∧M.val Bb qs=M.val Bb xs / M.val Bb ys ∧
   Rd w' r rs∧M.Low Bb rs∧rs.length=xs.length+1∧M.val Bb rs=M.val Bb xs % M.val Bb ys∧Below w.heap.size w w'∧Ty w' q∧Ty w' r:=by
 obtain ⟨n,hn⟩:∃ n,n=ys.length:=⟨_,rfl⟩
 obtain ⟨m,hmm⟩:∃ m,m=xs.length:=⟨_,rfl⟩
 obtain ⟨n1,hn1⟩:∃ n1,n=n1+1:=⟨n - 1,by omega⟩
 obtain ⟨n2,hn2⟩:∃ n2,n1=n2+1:=⟨n1 - 1,by omega⟩
 obtain ⟨t,ht⟩:∃ t,m+1=n+t:=⟨m+1 - n,by omega⟩
 rw [show ys.length - 1=n1 by omega] at htop
 have ha0:=ha
 have hb0:=hb
 obtain ⟨a,ca,rfl,hca,-⟩:=ha
 obtain ⟨b,cb,rfl,hcb,-⟩:=hb
 obtain ⟨bb,bo,rfl,qb⟩:=hb0.at (Jg _ _) (j:=n1) (by omega)
 have hTl:=Ci Bm lb n1
 have HXL:=Ba hmm
 have HYL:=Ba hn
 rw [← hn] at hb0 hcb h2 hle ⊢
 rw [← hmm] at ha0 hca hle hm ⊢
 have i1:(n:Int) - 1=(n1:Int):=by omega
 have i2:(n:Int) - 2=(n2:Int):=by omega
 have i3:(m:Int) - (n:Int)=(t:Int) - 1:=by omega
 have i4:(n:Int)≤(n:Int)+1:=by omega
 have i5:(n1:Int)<(n:Int):=by omega
 have i6:¬ n=0:=by omega
 have i7:n2<n1:=by omega
 have i8:n1<n:=by omega
 have i9:1≤t:=by omega
 have i10:t≤m:=by omega
 have HN1:=Ba hn1
 have HN2:=Ba hn2
 have HT:=Ba ht
 clear hn hmm hn1 hn2 ht
 go_enter Tryz.func241,Tryz.ntmps241
 go_wp2_with fail
 refine (Li (lm ys n1) htop hTl _).mono ?_
 rintro e w0 ⟨⟨s,rfl,hs,hs1,hs2⟩,hw⟩
 have hw:=hw.symm
 subst hw
 go_wp2_with fail
 refine (Mr _ ys s _ hb0 lb hs (by rw [← HYL.out];omega)).mono ?_
 rintro e w1 ⟨gd,zs,rfl,kd,nd,ld,vd,sd,fd⟩
 rw [← HYL.out] at nd
 rw [nd]
 obtain ⟨d0,be,d1,rfl,e1,ld0,lbe,ld1,hd2,vdv⟩:=Baz lb (by rw [← HYL.out];exact HN1.out) (by omega) ld (by rw [nd,HN1.out]) vd hs hs1 hs2
 have ND:=Ba nd
 have VDV:=Ba vdv
 have ha1:=ha0.b fd
 have E1:Hid (d0.length=n2):=by
  show _=_
  have:=HN2.out
  omega
 clear nd vdv vd ld hs1 hs2 e1
 go_wp2_with fail
 refine (Mr _ xs s _ ha1 la hs (by rw [← HXL.out];omega)).mono ?_
 rintro e w2 ⟨gr,rs,rfl,kr,nr,lr,vr,sr,fr⟩
 rw [← HXL.out] at nr
 rw [nr]
 have kd2:=kd.b fr
 have gdl:gd<w1.heap.size:=kd.lt
 have f2:=Ia fd fr
 have s21:=fd.size
 have sr':w.heap.size≤gr:=by omega
 have NR:=Ba nr
 have VR:=Ba vr
 clear nr vr ha1 kd
 go_wp2_with (at_make;refine Cn rfl _ _ rfl _ t rfl rfl (by omega) (by omega) ?_;intro w3 hblk hbel)
 have k3r:=kr.b hbel
 have k3d:=kd2.b hbel
 have gq3:=hblk
 have f3:=Ia f2 hbel
 have e2s:=fr.size
 have grl:gr<w2.heap.size:=kr.lt
 have sq':w.heap.size≤w2.heap.size:=by omega
 have Ue:gd≠gr:=by omega
 have ne2:gd≠w2.heap.size:=by omega
 have ne3:gr≠w2.heap.size:=by omega
 obtain ⟨gq,hgq⟩:∃ gq,gq=w2.heap.size:=⟨_,rfl⟩
 rw [← hgq] at hblk sq' ne2 ne3 ⊢
 have D0:Hid (M.val Bb (rs.drop t)<M.val Bb (d0 ++ [be,d1])):=by
  show _<_
  rw [VDV.out]
  have hS:0<2 ^ s:=Nat.pow_pos (by omega)
  have hX:M.val Bb xs<Bb ^ (n1+t):=M.val_lt_pow Bm la (by have:=HXL.out;have:=HT.out;have:=HN1.out;omega)
  have hY:Bb ^ n1≤M.val Bb ys:=by
   have e:=M.val_take_succ Bb ys n1
   rw [M.val_take_all _ _ _ (by have:=HYL.out;have:=HN1.out;omega)] at e
   have:Bb ^ n1*1≤Bb ^ n1*lm ys n1:=Nat.mul_le_mul_left _ htop
   rw [Nat.mul_one] at this
   show _≤_
   unfold lm at this
   omega
  exact L.top_lt hY hX (by rw [← VR.out];exact C5 Bb rs t (by rw [NR.out];have:=HT.out;omega)) hS
 have K3:=Ba k3r
 have KD:=Ba k3d
 have KQ:=Ba hblk
 clear hgq kr kd2 hbel fd fr gdl grl s21 sr e2s hblk gq3 k3r k3d sd f2
 go_loopw [11] (fun i wr=>∃ (k:Nat) (hi qs:List Nat),k≤t∧i=.int .i64 ((k:Int) - 1)∧L.LAt Bb rs hi qs n (M.val Bb (d0 ++ [be,d1])) t k∧Cm wr gr (rs.take k ++ hi ++ List.replicate (t - k) 0)∧Cm wr gq (List.replicate k 0 ++ qs)∧Cm wr gd (d0 ++ [be,d1] ++ [0])∧Below w.heap.size w wr) (fun i _=>(intOf i+1).toNat)
 case atStart =>
  refine ⟨t,rs.drop t,[],Jb _,rfl,⟨by rw [List.length_drop,NR.out];have:=HT.out;omega,lr.drop t,M.Low.nil _,by simp,D0.out,by simp [M.val]⟩,?_,by simpa using KQ.out,KD.out,f3⟩
  rw [List.take_append_drop,Nat.sub_self]
  simpa using K3.out
 case round =>
  obtain ⟨k,hi,qs,hk,rfl,hat,kr,kq,kd,hbel⟩:=hrel
  have KR:=Ba kr
  have KQ:=Ba kq
  have KD:=Ba kd
  have HAT:=Ba hat
  clear kr kq kd hat K3 D0
  match k with
  | 0 =>
   have kr:=KR.out
   rw [List.take_zero,List.nil_append,Nat.sub_zero] at kr
   obtain ⟨a1,a2,a3,a4,a5,a6⟩:=HAT.out
   have hzl:(hi ++ List.replicate t 0).length=m+1:=by rw [Ji,a1,List.length_replicate];exact HT.out.symm
   have h64:=S7 gr _ s wr kr (a2.append (M.Low.replicate _ _ Bm)) hs (by rw [hzl];omega)
   rw [hzl] at h64
   have H64:=Ba h64
   have hvz:M.val Bb (hi ++ List.replicate t 0)=M.val Bb hi:=by rw [M.val_append,M.val_replicate,Nat.mul_zero,Nat.add_zero]
   rw [List.drop_zero,VR.out] at a6
   obtain ⟨r1,r2⟩:=L.fin (Nat.pow_pos (by omega)) VDV.out a6 a5
   have R1:=Ba r1
   have R2:Hid (M.val Bb (hi ++ List.replicate t 0) / 2 ^ s=M.val Bb xs % M.val Bb ys):=by
    show _=_
    rw [hvz];exact r2
   have A4:=Ba a4
   have HT2:=Ba HT.out
   clear a1 a2 a4 a5 a6 hzl h64 hvz kr r1 r2 KR HAT
   go_wp2_with fail
   refine H64.out.mono ?_
   rintro e w4 ⟨zs,rfl,k4,n4,l4,v4,o4⟩
   have kq4:=o4.blk KQ.out (Ne.symm ne3)
   have hb4:=Bu.b hbel o4 sr'
   have V4:Hid (M.val Bb zs=M.val Bb xs % M.val Bb ys):=by
    show _=_
    rw [v4];exact R2.out
   have N4:=Ba n4
   clear v4 n4 H64
   go_wp2
   go_ret2
   refine ⟨_,_,qs,zs,rfl,?_,a3,?_,R1.out,?_,l4,N4.out,V4.out,hb4,kq4.ty _ _ _,k4.ty _ _ _⟩
   ·have hq:qs.length=t:=by have:=A4.out;omega
    have:=kq4.rd0 t (by rw [List.replicate_zero,List.nil_append,hq];exact Jb _)
    simpa [hq] using this
   ·have:=A4.out;omega
   ·have:=k4.rd0 (m+1) (by rw [N4.out];exact Jb _)
    rwa [N4.out] at this
  | j+1 =>
   have e1:(((j+1:Nat):Int) - 1)=(j:Int):=by omega
   rw [e1]
   obtain ⟨s0,low,nx,top,ns0,ls0,llow,lnx,ltop,esp,v3,v4⟩:=Zw (j:=j) (n2:=n2) (z:=t - (j+1)) (by rw [NR.out];have:=HT.out;omega) (by rw [HAT.out.1];have:=HN1.out;have:=HN2.out;omega) lr HAT.out.2.1
   have kr:=KR.out
   rw [esp] at kr
   have hpl:(rs.take j).length=j:=by rw [List.length_take,NR.out];have:=HT.out;omega
   have ev:rs.take j ++ (s0 ++ [low,nx]) ++ (top :: List.replicate (t - (j+1)) 0)=(rs.take j ++ s0) ++ (low :: nx :: top :: List.replicate (t - (j+1)) 0):=by simp
   have hL:(rs.take j ++ (s0 ++ [low,nx]) ++ (top :: List.replicate (t - (j+1)) 0)).length=j+n+1+(t - (j+1)):=by
    simp only [Ji,List.length_cons,List.length_nil,List.length_replicate,hpl,ns0]
    have:=HN2.out;have:=HN1.out;omega
   have c1:wr.cell? ⟨gr,j+n2,none⟩=some (.int .u64 (low:Nat)):=by
    have:=kr.cell (j:=j+n2) (by rw [hL];omega)
    rwa [ev,Oa _ _ _ _ (by rw [Ji,hpl,ns0])] at this
   have c2:wr.cell? ⟨gr,j+n1,none⟩=some (.int .u64 (nx:Nat)):=by
    have:=kr.cell (j:=j+n1) (by rw [hL];omega)
    rwa [ev,show rs.take j ++ s0 ++ (low :: nx :: top :: List.replicate (t - (j+1)) 0)=(rs.take j ++ s0 ++ [low]) ++ (nx :: top :: List.replicate (t - (j+1)) 0) by simp,Oa _ _ _ _ (by rw [List.length_append,List.length_append,hpl,ns0];have:=HN2.out;simp;omega)] at this
   have c3:wr.cell? ⟨gr,j+n,none⟩=some (.int .u64 (top:Nat)):=by
    have:=kr.cell (j:=j+n) (by rw [hL];omega)
    rwa [Oa _ _ _ _ (by rw [Ji,hpl,Ji,ns0];have:=HN2.out;have:=HN1.out;simp;omega)] at this
   have c4:wr.cell? ⟨gd,n2,none⟩=some (.int .u64 (be:Nat)):=by
    have:=KD.out.cell (j:=n2) (by rw [Ji,Ji,E1.out];simp;omega)
    rwa [show d0 ++ [be,d1] ++ [0]=d0 ++ be :: [d1,0] by simp,Oa _ _ _ _ E1.out] at this
   have c5:wr.cell? ⟨gd,n1,none⟩=some (.int .u64 (d1:Nat)):=by
    have:=KD.out.cell (j:=n1) (by rw [Ji,Ji,E1.out];have:=HN2.out;simp;omega)
    rwa [show d0 ++ [be,d1] ++ [0]=(d0 ++ [be]) ++ d1 :: [0] by simp,Oa _ _ _ _ (by rw [List.length_append,E1.out,HN2.out];rfl)] at this
   have V3:=Ba v3
   have V4:=Ba v4
   have KR2:=Ba kr
   have hV:M.val Bb (s0 ++ [low,nx,top])<Bb*M.val Bb (d0 ++ [be,d1]):=by rw [v3];exact L.part_lt (Ci Bm lr j) HAT.out.2.2.2.2.1
   have HV:=Ba hV
   have NS0:=Ba ns0
   have PL:=Ba hpl
   clear v3 v4 kr esp ev hV KR ns0 hpl
   have H62:Hid (∀ w0:World,Calls Tryz.prog 266 #[.int .u64 (top:Nat),.int .u64 (nx:Nat),.int .u64 (low:Nat),.int .u64 (d1:Nat),.int .u64 (be:Nat)] w0 fun e w'=>∃ q:Nat,e=.returned (.int .u64 (q:Nat))∧q<Bb∧L.Near (M.val Bb (s0 ++ [low,nx,top])) (M.val Bb (d0 ++ [be,d1])) q∧Below w0.heap.size w0 w'):=fun w0 =>
    Bek s0 d0 low nx top be d1 w0 ls0 ld0 (by rw [NS0.out,E1.out]) llow lnx lbe ld1 hd2 HV.out
   have j1:(j:Int)≤(j:Int)+(n:Int)+1:=by omega
   have j2:(j:Int)+(n:Int)+1≤(m:Int)+1:=by have:=HT.out;omega
   have j3:((j:Int)+(n:Int)+1).toNat=j+n+1:=by omega
   have j4:j+n+1 - j=n+1:=by omega
   have j5:(n:Int)<(n:Int)+1:=by omega
   have j6:(n1:Int)<(n:Int)+1:=by omega
   have j7:(n2:Int)<(n:Int)+1:=by omega
   have j8:(n2:Int)<(n:Int):=by omega
   have k1:(0:Int)≤(n:Int) - 1:=by omega
   have k2:(0:Int)≤(n:Int) - 2:=by omega
   have k3:(n:Int) - 1<(n:Int)+1:=by omega
   have k4:(n:Int) - 2<(n:Int)+1:=by omega
   have k5:((n:Int) - 1).toNat=n1:=by omega
   have k6:((n:Int) - 2).toNat=n2:=by omega
   have k7:IntKind.i64.wrap (n1:Int)=(n1:Int):=by rw [IntKind.wrap_i64];omega
   have k8:IntKind.i64.wrap (n2:Int)=(n2:Int):=by rw [IntKind.wrap_i64];omega
   clear hL k1 k2 k3 k4 k5 k6
   go_wp2
   go_region_held3 (fun w'=>w'.cell? ⟨gr,j+n,none⟩=some (.int .u64 (top:Nat))∧w'.cell? ⟨gr,j+n1,none⟩=some (.int .u64 (nx:Nat))∧w'.cell? ⟨gr,j+n2,none⟩=some (.int .u64 (low:Nat))∧w'.cell? ⟨gd,n1,none⟩=some (.int .u64 (d1:Nat))∧w'.cell? ⟨gd,n2,none⟩=some (.int .u64 (be:Nat))) (first | exact ⟨c3,c2,c1,c5,c4⟩ | exact ⟨Bh c3 b62,Bh c2 b62,Bh c1 b62,Bh c5 b62,Bh c4 b62⟩) (first | (go_at_call 266;refine (H62.out _).mono ?_;rintro e w4 ⟨g,rfl,hg,near,b62'⟩;have b62:Below wr.heap.size wr w4:=⟨b62'.os,b62'.tape,b62'.output,b62'.size,b62'.block⟩;clear b62'))
   have NEAR:=Ba near
   have kr4:=KR2.out.b b62
   have kd4:=KD.out.b b62
   have kq4:=KQ.out.b b62
   have hb4:=Ia hbel b62
   have hdl:(d0 ++ [be,d1]).length=n:=by
    rw [Ji,E1.out]
    have:=HN2.out;have:=HN1.out
    simp only [List.length_cons,List.length_nil];omega
   have rd:Gj w4 (.slice (some ⟨gd,0,none⟩) n n) (d0 ++ [be,d1]) gr:=by
    have:=kd4.rdX (g:=gr) 0 n n (by rw [ND.out];omega) (Jb _) Ue
    rwa [List.drop_zero,List.take_left' hdl] at this
   have hsl:(s0 ++ [low,nx]).length=n:=by
    rw [Ji,NS0.out]
    have:=HN2.out;have:=HN1.out
    simp only [List.length_cons,List.length_nil];omega
   have lss:M.Low Bb (s0 ++ [low,nx]):=ls0.append (M.Low.cons llow (M.Low.cons lnx (M.Low.nil _)))
   have ldd:M.Low Bb (d0 ++ [be,d1]):=ld0.append (M.Low.cons lbe (M.Low.cons ld1 (M.Low.nil _)))
   have h63:=S4 gr (rs.take j) (s0 ++ [low,nx]) (top :: List.replicate (t - (j+1)) 0) _ (d0 ++ [be,d1]) g n w4 kr4 (by rw [hsl,hdl]) rd lss ldd hg (by rw [hdl];exact Jb _) (by rw [hdl];omega)
   rw [PL.out,hdl] at h63
   have H63:=Ba h63
   have HDL:=Ba hdl
   have KD4:=Ba kd4
   have KQ4:=Ba kq4
   clear h63 rd hsl hdl kd4 kq4 kr4 near c1 c2 c3 c4 c5 KD KQ KR2 H62
   go_wp2_with fail
   refine H63.out.mono ?_
   rintro e w5 ⟨s',c,rfl,k5,ns',ls',lc,vs',o5⟩
   have hDn:M.val Bb (d0 ++ [be,d1])<Bb ^ n:=M.val_lt_pow Bm ldd (by rw [HDL.out];exact Jb _)
   have hsn:M.val Bb s'<Bb ^ n:=M.val_lt_pow Bm ls' (by rw [ns'];exact Jb _)
   have hVn:M.val Bb (s0 ++ [low,nx,top])=M.val Bb (s0 ++ [low,nx])+Bb ^ n*top:=by
    rw [V4.out]
    have:=HN2.out;have:=HN1.out
    rw [show n2+2=n by omega]
   have c6:w5.cell? ⟨gr,j+n,none⟩=some (.int .u64 (top:Nat)):=by
    have:=k5.cell (j:=j+n) (by rw [Ji,Ji,PL.out,ns'];simp)
    rwa [Oa _ _ _ _ (by rw [Ji,PL.out,ns'])] at this
   have f6:=k5.o (j+n)
   have kq5:=o5.blk KQ4.out (Ne.symm ne3)
   have kd5:=o5.blk KD4.out Ue
   have hb5:=Bu.b hb4 o5 sr'
   have hrep:List.replicate (t - j) 0=0 :: List.replicate (t - (j+1)) 0:=by
    rw [← List.replicate_succ];congr 1;omega
   have c7:=kq5.cell (j:=j) (by rw [Ji,List.length_replicate];omega)
   have f7:=kq5.o j
   have VS:=Ba vs'
   have NS:=Ba ns'
   have K5:=Ba k5
   have HREP:=Ba hrep
   have HDN:=Ba hDn
   have HSN:=Ba hsn
   have HVN:=Ba hVn
   clear vs' ns' k5 hrep hDn hsn hVn H63
   have jt:(j:Int)<(t:Int):=by omega
   have jt2:j<t:=by omega
   by_cases hcl:c≤top
   ·obtain ⟨etop,hlt,hVV⟩:=L.noBorrow HVN.out NEAR.out (Nat.le_of_lt HDN.out) VS.out hcl
    subst etop
    have hset:Cm (w5.setCell ⟨gr,j+n,none⟩ (.int .u64 0)) gr (rs.take j ++ s' ++ List.replicate (t - j) 0):=by
     have:=K5.out.set (j+n) 0
     rw [List.set_append_right _ _ (by rw [Ji,PL.out,NS.out];exact Jb _)] at this
     rw [HREP.out]
     simpa [PL.out,NS.out] using this
    have o6:Bu gr w5 (w5.setCell ⟨gr,j+n,none⟩ (.int .u64 0)):=(Bu.refl gr w5).setCell _ _
    have kq6:=o6.blk kq5 (Ne.symm ne3)
    have kd6:=o6.blk kd5 Ue
    have hb6:=Bu.b hb5 o6 sr'
    have c8:=kq6.cell (j:=j) (by rw [Ji,List.length_replicate];omega)
    have f8:=kq6.o j
    have hsq:=kq6.set j g
    rw [Qg] at hsq
    have HSQ:=Ba hsq
    have HSET:=Ba hset
    have HST:=Ba (L.LAt.step (q:=g) (hi':=s') HAT.out (by rw [NR.out];have:=HT.out;omega) NS.out ls' hg hlt (by rw [← hVV,V3.out];rfl))
    have KD6:=Ba kd6
    have eW0:IntKind.u64.wrap 0=0:=rfl
    clear hset hsq kd6 kd5 hVV hlt
    go_wp2
    have oq:=(Bu.refl gq (w5.setCell ⟨gr,j+n,none⟩ (.int .u64 0))).setCell j (.int .u64 (g:Nat))
    exact ⟨⟨j,s',g :: qs,by omega,by go_num,HST.out,oq.blk HSET.out ne3,HSQ.out,oq.blk KD6.out ne2,Bu.b hb6 oq sq'⟩,by simp [intOf]⟩
   ·obtain ⟨ec,hg0,hVV⟩:=L.borrow HVN.out NEAR.out (Nat.le_of_lt HDN.out) HSN.out VS.out (Nat.not_le.1 hcl)
    have HVV:=Ba hVV
    have hlt:top<c:=Nat.not_le.1 hcl
    obtain ⟨M1,hM1⟩:∃ M1:Nat,M1=18446744073709551615:=⟨_,rfl⟩
    have eW:IntKind.u64.wrap ((top:Int) - (c:Int))=(M1:Int):=by rw [IntKind.wrap_u64];omega
    have eZ:IntKind.u64.wrap ((M1:Int)+1)=0:=by rw [IntKind.wrap_u64];omega
    have hM2:M1<18446744073709551616:=by omega
    obtain ⟨g',rfl⟩:∃ g',g=g'+1:=⟨g - 1,by omega⟩
    have hp:g'<Bb:=by omega
    have eWp:IntKind.u64.wrap (g':Int)=(g':Int):=Cz g' hp
    have hset:Cm (w5.setCell ⟨gr,j+n,none⟩ (.int .u64 (M1:Nat))) gr (rs.take j ++ s' ++ (M1 :: List.replicate (t - (j+1)) 0)):=by
     have:=K5.out.set (j+n) M1
     rw [List.set_append_right _ _ (by rw [Ji,PL.out,NS.out];exact Jb _)] at this
     simpa [PL.out,NS.out] using this
    have o6:Bu gr w5 (w5.setCell ⟨gr,j+n,none⟩ (.int .u64 (M1:Nat))):=(Bu.refl gr w5).setCell _ _
    have kq6:=o6.blk kq5 (Ne.symm ne3)
    have kd6:=o6.blk kd5 Ue
    have hb6:=Bu.b hb5 o6 sr'
    obtain ⟨w6,hw6⟩:∃ w6,w6=w5.setCell ⟨gr,j+n,none⟩ (.int .u64 (M1:Nat)):=⟨_,rfl⟩
    rw [← hw6] at hset o6 kq6 kd6 hb6
    have rd:Gj w6.drew (.slice (some ⟨gd,0,none⟩) n n) (d0 ++ [be,d1]) gr:=by
     have:=kd6.rdX (g:=gr) 0 n n (by rw [ND.out];omega) (Jb _) Ue
     rw [List.drop_zero,List.take_left' HDL.out] at this
     exact this
    have h52:=F5 gr (rs.take j) s' (M1 :: List.replicate (t - (j+1)) 0) _ (d0 ++ [be,d1]) n w6.drew hset (by rw [HDL.out,NS.out];exact Jb _) rd ls' ldd (by rw [NS.out];omega)
    rw [PL.out,NS.out] at h52
    have H52:Hid (Calls Tryz.prog 214 #[.slice (some ⟨gr,j,none⟩) n n,.slice (some ⟨gd,0,none⟩) n n] w6.drew fun e w'=>∃ (s2:List Nat),e=.returned (.int .u64 1)∧Cm w' gr (rs.take j ++ s2 ++ (M1 :: List.replicate (t - (j+1)) 0))∧s2.length=n∧M.Low Bb s2∧M.val Bb (s0 ++ [low,nx,top])=g'*M.val Bb (d0 ++ [be,d1])+M.val Bb s2∧M.val Bb s2<M.val Bb (d0 ++ [be,d1])∧Bu gr w6 w'):=by
     refine Calls.mono h52 ?_
     rintro e w' ⟨s2,c2,rfl,q1,q2,q3,q4,q5,q6⟩
     obtain ⟨rfl,q7,q8⟩:=HVV.out _ _ (M.val_lt_pow Bm q3 (by rw [q2];exact Jb _)) q4 q5
     exact ⟨s2,rfl,q1,q2,q3,by simpa using q7,q8,⟨q6.os,q6.tape,q6.output,q6.size,q6.block⟩⟩
    have c8:w6.cell? ⟨gr,j+n,none⟩=some (.int .u64 (M1:Nat)):=by
     have:=hset.cell (j:=j+n) (by rw [Ji,Ji,PL.out,NS.out];simp)
     rwa [Oa _ _ _ _ (by rw [Ji,PL.out,NS.out])] at this
    have f8:=hset.o (j+n)
    have HSET:=Ba hset
    clear h52 rd hset hVV hM1 hcl ec HVV
    have KD6:=Ba kd6
    have KQ6:=Ba kq6
    have HW6:=Ba hw6
    clear kd6 kq6 kd5 hw6
    have c9:∀ (w7:World) (s2:List Nat),s2.length=n→Cm w7 gr (rs.take j ++ s2 ++ (M1 :: List.replicate (t - (j+1)) 0))→w7.cell? ⟨gr,j+n,none⟩=some (.int .u64 (M1:Nat)):=by
     intro w7 s2 h1 h2
     have:=h2.cell (j:=j+n) (by rw [Ji,Ji,PL.out,h1];simp)
     rwa [Oa _ _ _ _ (by rw [Ji,PL.out,h1])] at this
    have C9:=Ba c9
    clear c9
    go_wp2
    rw [← HW6.out]
    go_region_with (first | (go_at_call 214;refine H52.out.mono ?_;rintro e w7 ⟨s2,rfl,q1,q2,q3,q4,q5,q6⟩;have dd1:=C9.out _ _ q2 q1;have dd2:=q1.o (j+n);have Q1:=Ba q1;have Q2:=Ba q2;have Q4:=Ba q4;have Q5:=Ba q5;clear q1 q2 q4 q5))
    all_goals
     have hset7:Cm (w7.setCell ⟨gr,j+n,none⟩ (.int .u64 0)) gr (rs.take j ++ s2 ++ List.replicate (t - j) 0):=by
      have:=Q1.out.set (j+n) 0
      rw [List.set_append_right _ _ (by rw [Ji,PL.out,Q2.out];exact Jb _)] at this
      rw [HREP.out]
      simpa [PL.out,Q2.out] using this
     have o8:Bu gr w6 (w7.setCell ⟨gr,j+n,none⟩ (.int .u64 0)):=q6.setCell _ _
     have kq8:=o8.blk KQ6.out (Ne.symm ne3)
     have Py:=o8.blk KD6.out Ue
     have hb8:=Bu.b hb6 o8 sr'
     obtain ⟨w8,hw8⟩:∃ w8,w8=w7.setCell ⟨gr,j+n,none⟩ (.int .u64 0):=⟨_,rfl⟩
     rw [← hw8] at hset7 kq8 Py hb8 ⊢
     have c10:=kq8.cell (j:=j) (by rw [Ji,List.length_replicate];omega)
     have f10:=kq8.o j
     have hsq:=kq8.set j g'
     rw [Qg] at hsq
     have HSQ:=Ba hsq
     have HSET7:=Ba hset7
     have KD8:=Ba Py
     have HST:=Ba (L.LAt.step (q:=g') (hi':=s2) HAT.out (by rw [NR.out];have:=HT.out;omega) Q2.out q3 hp Q5.out (by rw [← Q4.out,V3.out];rfl))
     clear hsq hset7 Py hw8 o8 dd1 dd2 q6 o6
     go_wp2
     have oq:=(Bu.refl gq w8).setCell j (.int .u64 (g':Nat))
     exact ⟨⟨j,s2,g' :: qs,by omega,by go_num,HST.out,oq.blk HSET7.out ne3,HSQ.out,oq.blk KD8.out ne2,Bu.b hb8 oq sq'⟩,by simp [intOf]⟩
end Go.Proofs.YtnplifkgeeicjaaGreatDoor
