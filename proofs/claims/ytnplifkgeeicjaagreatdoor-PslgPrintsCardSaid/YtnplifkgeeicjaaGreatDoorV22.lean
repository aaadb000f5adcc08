import Derived.Test.YtnplifkgeeicjaaGreatDoorV21
set_option maxHeartbeats 1000000
namespace Go.Proofs.YtnplifkgeeicjaaGreatDoor
open Go.RowKit
def Ba8 (w:World) (X Y:Nat) (e:Ending) (w':World):Prop:=∃ q r qs rs,e=.returned (.tuple #[q,r])∧Rd w' q qs∧M.Low Bb qs∧qs.length≤50001∧M.val Bb qs=X / Y∧Rd w' r rs∧M.Low Bb rs∧rs.length≤50001∧M.val Bb rs=X % Y∧Below w.heap.size w w'∧Ty w' q∧Ty w' r
theorem Yj (va vb:Value) (xs ys:List Nat) (w:World) (ha:Rd w va xs) (hb:Rd w vb ys) (la:M.Low Bb xs) (tb:M.Trim ys) (hlt:xs.length<ys.length) (hm:ys.length≤50000) :
  Calls Tryz.prog 210 #[va,vb] w (Ba8 w (M.val Bb xs) (M.val Bb ys)):=by
 have hv:=M.lt_of_length Bm la tb hlt
 have h1:M.val Bb xs / M.val Bb ys=0:=Nat.div_eq_of_lt hv
 have h2:M.val Bb xs % M.val Bb ys=M.val Bb xs:=Nat.mod_eq_of_lt hv
 have H1:=Ba h1
 have H2:=Ba h2
 clear hv h1 h2
 have fin:∀ (v:Value) (w':World),Rd w' v xs→Ty w' v→Below w.heap.size w w'→Ba8 w (M.val Bb xs) (M.val Bb ys) (.returned (.tuple #[.slice none 0 0,v])) w':=fun v w' hr ht hbel =>
  ⟨_,_,[],xs,rfl,⟨none,0,rfl,by simp,fun j hj=>by simp at hj⟩,M.Low.nil _,by simp,by rw [H1.out];rfl,hr,la,by omega,H2.out.symm,hbel,Ty.nil _ _ _,ht⟩
 have FIN:=Ba fin
 have ha0:=ha
 clear fin H1 H2
 obtain ⟨a,cap,rfl,hcap,hc⟩:=ha
 obtain ⟨b,cb,rfl,hcb,-⟩:=hb
 match xs with
 | [] =>
  have hpos:0<ys.length:=hlt
  cases a with
  | none =>
   go_enter Tryz.func210,Tryz.ntmps210
   go_wp2
   go_ret2
   exact FIN.out _ _ ⟨none,0,rfl,by simp,fun j hj=>by simp at hj⟩ (Ty.nil _ _ _) (Below.refl _ _)
  | some ad =>
   go_enter Tryz.func210,Tryz.ntmps210
   go_wp2
   go_ret2
   exact FIN.out _ _ ⟨none,0,rfl,by simp,fun j hj=>by simp at hj⟩ (Ty.nil _ _ _) (Below.refl _ _)
 | x :: r =>
  obtain ⟨b',off,rfl,_⟩:=hc 0 (by simp)
  have hc':∀ j,j<(x :: r).length→w.cell? ⟨b',off+j,none⟩=some (.int .u64 (lm (x :: r) j:Nat)):=fun j hj=>by
   obtain ⟨b2,o',he,h⟩:=hc j hj
   simp at he
   obtain ⟨rfl,rfl⟩:=he
   exact h
  have HC:=Ba hc'
  have HL:Hid ((x :: r).length≤10000000):=by show _≤_;omega
  clear hc hc'
  obtain ⟨n,hn⟩:∃ n,n=(x :: r).length:=⟨_,rfl⟩
  rw [← hn] at hlt ⊢
  have HN:=Ba hn
  clear hn ha0 la hcap
  go_enter Tryz.func210,Tryz.ntmps210
  go_wp2_with (at_builtin;refine Wk rfl _ _ rfl rfl b' off n cap rfl (x :: r) HN.out HC.out HL.out ?_;intro v' w1 hown hbel)
  go_ret2
  exact FIN.out _ _ hown.rd hown.ty hbel
theorem Ba0 (va vb:Value) (xs ys:List Nat) (w:World) (ha:Rd w va xs) (hb:Rd w vb ys) (la:M.Low Bb xs) (lb:M.Low Bb ys) (tb:M.Trim ys) (h0:0<ys.length) (hx:xs.length≤50000) (hy:ys.length≤50000) :
  Calls Tryz.prog 210 #[va,vb] w (Ba8 w (M.val Bb xs) (M.val Bb ys)):=by
 by_cases hlt:xs.length<ys.length
 ·exact Yj va vb xs ys w ha hb la tb hlt hy
 have ha0:=ha
 have hb0:=hb
 have htop:0<lm ys (ys.length - 1):=Nat.pos_of_ne_zero (tb _ (by omega))
 by_cases h1:ys.length=1
 ·match ys with
  | [y] =>
   have hy0:0<y:=htop
   have hyl:y<Bb:=lb.head
   have ev:M.val Bb [y]=y:=by simp [M.val]
   obtain ⟨a,ca,rfl,hca,-⟩:=ha
   obtain ⟨b,cb,rfl,hcb,hc⟩:=hb
   obtain ⟨b1,o1,rfl,c0⟩:=hc 0 (by simp)
   have c0:w.cell? ⟨b1,o1,none⟩=some (.int .u64 (y:Nat)):=c0
   have hlt':¬ xs.length<1:=hlt
   have H53:=Ba (Qc _ xs y w ha0 la hy0 hyl (by omega))
   have EV:=Ba ev
   clear hc ev hlt h1 htop
   go_enter Tryz.func210,Tryz.ntmps210
   go_wp2_with fail
   refine H53.out.mono ?_
   rintro e w1 ⟨q,r,qs,rfl,hq,lq,nq,hr,vq,bb,tq,tr⟩
   have NQ:=Ba nq
   have VQ:=Ba vq
   clear nq vq
   go_wp2
   go_ret2
   refine ⟨_,_,qs,[M.val Bb xs % y],rfl,hq,lq,by rw [NQ.out];omega,by rw [VQ.out,EV.out],hr,M.Low.cons (Nat.lt_trans (Nat.mod_lt _ hy0) hyl) (M.Low.nil _),by simp,by rw [EV.out];simp [M.val],bb,tq,tr⟩
 ·have H54:=Ba (Sh va vb xs ys w ha hb la lb (by omega) (by omega) htop hx)
  obtain ⟨a,ca,rfl,hca,-⟩:=ha
  obtain ⟨b,cb,rfl,hcb,-⟩:=hb
  clear htop
  go_enter Tryz.func210,Tryz.ntmps210
  go_wp2_with fail
  refine H54.out.mono ?_
  rintro e w1 ⟨q,r,qs,rs,rfl,hq,lq,nq,vq,hr,lr,nr,vr,bb,tq,tr⟩
  have NQ:=Ba nq
  have VQ:=Ba vq
  have NR:=Ba nr
  have VR:=Ba vr
  clear nq vq nr vr
  go_wp2
  go_ret2
  exact ⟨_,_,qs,rs,rfl,hq,lq,by have:=NQ.out;omega,VQ.out,hr,lr,by rw [NR.out];omega,VR.out,bb,tq,tr⟩
theorem Pa (va vb:Value) (xs ys:List Nat) (w:World) (ha:Rd w va xs) (hb:Rd w vb ys) (la:M.Low Bb xs) (lb:M.Low Bb ys) (hx:xs.length≤4000) (hy:ys.length≤4000) :
  Calls Tryz.prog 173 #[va,vb] w fun e w'=>(M.val Bb ys=0→e=.returned (.tuple #[.slice none 0 0,.slice none 0 0,.int .i64 3])) ∧
   (0<M.val Bb ys→∃ q r,e=.returned (.tuple #[q,r,.int .i64 0])∧Rd w' q (M.digs Bb (M.val Bb xs / M.val Bb ys))∧Rd w' r (M.digs Bb (M.val Bb xs % M.val Bb ys))∧Ty w' q∧Ty w' r)∧Below w.heap.size w w':=by
 have ha0:=ha
 have hb0:=hb
 obtain ⟨a,ca,rfl,hca,-⟩:=ha
 obtain ⟨b,cb,rfl,hcb,-⟩:=hb
 have l1:=M.digs_length_le Be la
 have l2:=M.digs_length_le Be lb
 have lz:M.val Bb ys=0→(M.digs Bb (M.val Bb ys)).length=0:=fun h=>by rw [h];rfl
 have lp:(M.digs Bb (M.val Bb ys)).length=0→M.val Bb ys=0:=fun h=>by
  have:=M.val_digs Be (M.val Bb ys)
  rw [List.length_eq_zero_iff.1 h] at this
  exact this.symm
 have LZ:=Ba lz
 have LP:=Ba lp
 clear lz lp
 go_enter Tryz.func173,Tryz.ntmps173
 go_wp2_with fail
 refine (Hx a b xs.length ys.length ca cb _ 0 2 _ (by simp [go_sem]) (by simp [go_sem]) hx hy).mono ?_
 rintro e w1 ⟨rfl,rfl⟩
 have hb1:Below w.heap.size w (w.alloc (.cells #[.slice a xs.length ca,.slice b ys.length cb] 64)):=by go_grown
 have ra:=ha0.b hb1
 have rb:=hb0.b hb1
 go_wp2_with fail
 refine (Dg _ _ xs ra la (by omega)).mono ?_
 rintro e w1 ⟨v1,rfl,r1,rfl⟩
 go_wp2_with fail
 refine (Dg _ _ ys rb lb (by omega)).mono ?_
 rintro e w1 ⟨v2,rfl,r2,rfl⟩
 have r1':=r1
 have r2':=r2
 obtain ⟨a1,c1,rfl,-,-⟩:=r1
 obtain ⟨a2,c2,rfl,-,-⟩:=r2
 generalize w.alloc (.cells #[.slice a xs.length ca,.slice b ys.length cb] 64)=W at *
 by_cases h0:(M.digs Bb (M.val Bb ys)).length=0
 ·have HY:=Ba (LP.out h0)
  go_wp2
  go_ret3
  exact ⟨fun _=>rfl,fun h=>by have:=HY.out;omega,hb1⟩
 ·have h44:=Ba0 _ _ _ _ _ r1' r2' (M.Low.digs Be _) (M.Low.digs Be _) (M.trim_digs Be _) (Nat.pos_of_ne_zero h0) (by omega) (by omega)
  rw [M.val_digs Be,M.val_digs Be] at h44
  have H44:=Ba h44
  have HY:Hid (M.val Bb ys≠0):=fun h=>h0 (LZ.out h)
  clear h44
  go_wp2_with fail
  refine H44.out.mono ?_
  rintro e w2 ⟨q,r,qs,rs,rfl,rq,lq,nq,vq,rr,lr,nr,vr,b2,tq,tr⟩
  have rq0:=rq
  have rr0:=rr
  obtain ⟨aq,cq,rfl,-,-⟩:=rq
  obtain ⟨ar,cr,rfl,-,-⟩:=rr
  have VQ:=Ba vq
  have VR:=Ba vr
  clear vq vr
  go_wp2_with fail
  refine (Mu _ _ _ rq0 lq (by omega)).mono ?_
  rintro e w3 ⟨q',rfl,hq',tq',rfl⟩
  rw [VQ.out] at hq'
  go_wp2_with fail
  refine (Mu _ _ _ rr0 lr (by omega)).mono ?_
  rintro e w3 ⟨r',rfl,hr',tr',rfl⟩
  rw [VR.out] at hr'
  go_wp2
  go_ret3
  exact ⟨fun h=>(HY.out h).elim,fun _=>⟨_,_,rfl,hq',hr',tq' tq,tr' tr⟩,Ia hb1 b2⟩
theorem G0 (va vb:Value) (xs ys:List Nat) (w:World) (ha:Rd w va xs) (hb:Rd w vb ys) (la:M.Low Bb xs) (lb:M.Low Bb ys) (hx:xs.length≤4000) (hy:ys.length≤4000) :
  Calls Tryz.prog 173 #[va,vb] w fun e w'=>(M.val Bb ys=0→e=.returned (.tuple #[.slice none 0 0,.slice none 0 0,.int .i64 3])) ∧
   (0<M.val Bb ys→∃ q r,e=.returned (.tuple #[q,r,.int .i64 0])∧Rd w' q (M.digs Bb (M.val Bb xs / M.val Bb ys))∧Rd w' r (M.digs Bb (M.val Bb xs % M.val Bb ys)))∧Below w.heap.size w w':=by
 refine (Pa va vb xs ys w ha hb la lb hx hy).mono ?_
 rintro e w' ⟨h1,h2,hb⟩
 refine ⟨h1,fun h=>?_,hb⟩
 obtain ⟨q,r,he,hq,hr,-,-⟩:=h2 h
 exact ⟨q,r,he,hq,hr⟩
end Go.Proofs.YtnplifkgeeicjaaGreatDoor
