import Derived.Test.YtnplifkgeeicjaaGreatDoorV27
import Derived.Test.YtnplifkgeeicjaaGreatDoorV28
import Derived.Test.YtnplifkgeeicjaaGreatDoorV29
import Derived.Test.YtnplifkgeeicjaaGreatDoorV32
import Derived.Test.YtnplifkgeeicjaaGreatDoorV33
set_option maxRecDepth 100000
set_option maxHeartbeats 8000000
namespace Go.Proofs.YtnplifkgeeicjaaGreatDoor
open Go.RowKit Go.Shelf
theorem Cj.put {g0 g1 ga gb:Nat} {w wr w':World} (h:Cj g0 g1 w wr) (k:Cj ga gb wr w') (fa:ga=g0∨ga=g1∨w.heap.size≤ga) (fb:gb=g0∨gb=g1∨w.heap.size≤gb):Cj g0 g1 w w' :=
 ⟨k.os.trans h.os,k.tape.trans h.tape,k.output.trans h.output,Jf h.size k.size,fun i hi h0 h1=>(k.block i (Jl hi h.size) (by omega) (by omega)).trans (h.block i hi h0 h1)⟩
theorem Cm.u64 {w:World} {g:Nat} {ys:List Nat} (h:Cm w g ys) {j:Nat} {v:Value} (hc:w.cell? ⟨g,j,none⟩=some v):∃ n:Int,v=.int .u64 n:=by
 by_cases hj:j<ys.length
 ·rw [h.cell hj] at hc
  exact ⟨_,(Option.some.inj hc).symm⟩
 ·unfold Cm at h
  have hn:ys[j]?=none:=List.getElem?_eq_none (by omega)
  simp [World.cell?,h,Dj,hn] at hc
theorem G9.grew2 {ga gb:Nat} {w w':World} {ya yb:List Nat} (h:G9 w) (ka:Cm w ga ya) (kb:Cm w gb yb) (k:Cj ga gb w w'):G9 w':=fun j hj=>by
 have hc:=h j hj
 have hlt:=World.block_lt_of_cell? w _ hc
 have na:Ds.g 1≠ga:=fun e=>by
  rw [e] at hc
  obtain ⟨n,hn⟩:=ka.u64 hc
  cases hn
 have nb:Ds.g 1≠gb:=fun e=>by
  rw [e] at hc
  obtain ⟨n,hn⟩:=kb.u64 hc
  cases hn
 rw [World.cell?_of_block (w:=w) (k.block _ hlt na nb)]
 exact hc
theorem Cj.of_only {g0 g1 g:Nat} {w wr w':World} (h:Cj g0 g1 w wr) (k:Bu g wr w') (f:g=g0∨g=g1∨w.heap.size≤g):Cj g0 g1 w w' :=
 h.put (Cj.left (g':=g) k) f f
theorem Cj.of_below {g0 g1:Nat} {w wr w':World} (h:Cj g0 g1 w wr) (k:Below wr.heap.size wr w'):Cj g0 g1 w w':=h.trans (Cj.of k)
structure Hp (g0 g1 G:Nat) (w wr:World) (ga gb A B:Nat) (qa qb:List Nat):Prop where
 ka:Cm wr ga (M.digs Bb A ++ qa)
 kb:Cm wr gb (M.digs Bb B ++ qb)
 ne:ga≠gb
 fa:ga=g0∨ga=g1∨w.heap.size≤ga
 fb:gb=g0∨gb=g1∨w.heap.size≤gb
 cap:(M.digs Bb A).length≤(M.digs Bb B ++ qb).length
 le:B≤A
 gcd:Nat.gcd A B=G
 size:(M.digs Bb A).length≤4000
 tab:G9 wr
 gr:Cj g0 g1 w wr
def Lg (g A:Nat) (q:List Nat):Value:=.slice (some ⟨g,0,none⟩) (M.digs Bb A).length (M.digs Bb A ++ q).length
theorem Hp.rdA {g0 g1 G:Nat} {w wr:World} {ga gb A B:Nat} {qa qb:List Nat} (h:Hp g0 g1 G w wr ga gb A B qa qb):Rd wr (Lg ga A qa) (M.digs Bb A):=Bk.rd (t:=170) h.ka _ (by simp)
theorem Hp.rdB {g0 g1 G:Nat} {w wr:World} {ga gb A B:Nat} {qa qb:List Nat} (h:Hp g0 g1 G w wr ga gb A B qa qb):Rd wr (Lg gb B qb) (M.digs Bb B):=Bk.rd (t:=170) h.kb _ (by simp)
theorem Hp.b {g0 g1 G:Nat} {w wr w':World} {ga gb A B:Nat} {qa qb:List Nat} (h:Hp g0 g1 G w wr ga gb A B qa qb) (k:Below wr.heap.size wr w'):Hp g0 g1 G w w' ga gb A B qa qb :=
 ⟨h.ka.b k,h.kb.b k,h.ne,h.fa,h.fb,h.cap,h.le,h.gcd,h.size,h.tab.b k,h.gr.of_below k⟩
theorem Cq {A B:Nat} (h:B≤A):(M.digs Bb B).length≤(M.digs Bb A).length:=Ke Be h
def Bmy (v:Value) (w:World):Nat:=match v with
 | .slice (some a) n _=>M.val Bb ((List.range n).map fun j=>match w.cell? ⟨a.block,j,none⟩ with | some (.int _ z)=>z.toNat | _=>0)
 | _=>0
theorem Lx {w:World} {g A:Nat} {q:List Nat} (h:Cm w g (M.digs Bb A ++ q)):Bmy (Lg g A q) w=A:=by
 have e:((List.range (M.digs Bb A).length).map fun j=>match w.cell? ⟨g,j,none⟩ with | some (.int _ z)=>z.toNat | _=>0)=M.digs Bb A:=by
  apply List.ext_getElem
  ·simp
  ·intro i h1 h2
   have hc:=h.cell (j:=i) (by rw [Ji];omega)
   simp only [List.getElem_map,List.getElem_range,hc]
   simp [lm,List.getElem?_append_left h2,h2]
 show M.val Bb _=A
 rw [e,M.val_digs Be]
theorem Hp.divided {g0 g1 G:Nat} {w wr w':World} {ga gb A B:Nat} {qa qb:List Nat} (h:Hp g0 g1 G w wr ga gb A B qa qb) (hB:0<B)
  (k:Cm w' ga (M.digs Bb (A % B) ++ (M.digs Bb A ++ qa).drop (M.digs Bb (A % B)).length)) (o:Bu ga wr w') :
  Hp g0 g1 G w w' gb ga B (A % B) qb ((M.digs Bb A ++ qa).drop (M.digs Bb (A % B)).length):=by
 have hlt:A % B<B:=Nat.mod_lt _ hB
 refine ⟨?_,k,h.ne.symm,h.fb,h.fa,?_,by omega,?_,Jf (Cq h.le) h.size,h.tab.grew2 h.ka h.ka (Cj.left o),h.gr.of_only o h.fa⟩
 ·have:=h.kb
  unfold Cm at this ⊢
  rw [o.block gb h.ne.symm];exact this
 ·have l1:=Cq h.le
  have l2:=Cq (Nat.le_of_lt hlt)
  rw [Ji,List.length_drop,Ji]
  omega
 ·rw [Nat.gcd_comm,← Nat.gcd_rec,Nat.gcd_comm]
  exact h.gcd
open Go.RowKit Go.Shelf
theorem val_zeros (b:Nat):∀ n,M.val b (List.replicate n 0)=0
 | 0=>rfl
 | n+1=>by rw [List.replicate_succ,M.val_cons,val_zeros b n];simp
theorem Uh (n:Nat):M.Low Bb (List.replicate n 0):=fun x hx=>by rw [List.eq_of_mem_replicate hx];exact Bm
theorem Bh9 (g0 g1 X Y m0 m1:Nat) (w:World) (hm0:(M.digs Bb X).length=m0) (hm1:(M.digs Bb Y).length=m1) (k0:Cm w g0 (M.digs Bb X)) (k1:Cm w g1 (M.digs Bb Y)) (h0:m0≤4000) (h1:m1≤4000) (hT:G9 w) :
  Calls Tryz.prog 172 #[.slice (some ⟨g0,0,none⟩) m0 m0,.slice (some ⟨g1,0,none⟩) m1 m1] w fun e w'=>∃ v,e=.returned v∧Rd w' v (M.digs Bb (Nat.gcd X Y))∧Cj g0 g1 w w':=by
 have HC:Hid (Calls Tryz.prog 198 #[.slice (some ⟨g0,0,none⟩) m0 m0,.slice (some ⟨g1,0,none⟩) m1 m1] w (Re w (.tuple #[.int .i64 (Er X Y),.int .i64 0]))):=by
  have:=Bk6 (.slice (some ⟨g0,0,none⟩) m0 m0) (.slice (some ⟨g1,0,none⟩) m1 m1) (M.digs Bb X) (M.digs Bb Y) w (by rw [← hm0];exact k0.rd0 _ (Jb _)) (by rw [← hm1];exact k1.rd0 _ (Jb _)) (M.Low.digs Be X) (M.Low.digs Be Y) (by omega) (by omega)
  rwa [M.val_digs Be,M.val_digs Be] at this
 by_cases hXY:X<Y
 ·have c1:Er X Y<0:=by rw [Kw hXY];omega
  generalize Er X Y=cc at *
  have HM0:=Ba hm0
  have HM1:=Ba hm1
  have hle:m0≤m1:=by rw [← hm0,← hm1];exact Cq (by omega)
  have RY:Hid (∀ w1,Below w.heap.size w w1→∀ w2,Below w1.heap.size w1 w2→Rd w2 (.slice (some ⟨g0,0,none⟩) m0 m0) (M.digs Bb X)):=by
   intro w1 b1 w2 b2
   rw [← hm0]
   exact ((k0.b b1).b b2).rd0 _ (Jb _)
  have FIT:Hid ((M.digs Bb X).length≤m1):=by show _≤_;omega
  clear hm0 hm1
  go_enter Tryz.func172,Tryz.ntmps172
  go_wp2_with fail
  refine (HC.out).mono ?_
  rintro e w1 ⟨rfl,b1⟩
  go_wp2_with (first
   | (at_make;refine Ki rfl _ _ rfl _ _ 0 m1 rfl rfl (by omega) (by omega) (by omega) (by omega) ?_;intro w2 kn b2)
   | (at_builtin;refine Hf rfl _ _ rfl w1.heap.size m1 (List.replicate m1 0) (M.digs Bb X) rfl kn (by simp) (.slice (some ⟨g0,0,none⟩) m0 m0) rfl (RY.out w1 b1 w2 b2) FIT.out ?_;intro w3 kn3 o3))
  have IN:Hid (Hp g0 g1 (Nat.gcd X Y) w w3 g1 w1.heap.size Y X [] (List.drop (M.digs Bb X).length (List.replicate m1 0))):=by
   have l0:=k1.lt
   have e1:=b1.size
   have hb3:Below w1.heap.size w1 w3:=⟨o3.os.trans b2.os,o3.tape.trans b2.tape,o3.output.trans b2.output,by rw [o3.size];exact b2.size,fun i hi=>(o3.block i (by omega)).trans (b2.block i hi)⟩
   have hbb:=Ia b1 hb3
   refine ⟨by simpa using k1.b hbb,kn3,by omega,Or.inr (Or.inl rfl),Or.inr (Or.inr e1),?_,by omega,Nat.gcd_comm _ _,by rw [HM1.out];exact h1,hT.b hbb,Cj.of hbb⟩
   have:=FIT.out
   rw [HM1.out,Ji,List.length_drop,List.length_replicate]
   omega
  have V0:Hid (Value.slice (some ⟨g1,0,none⟩) m1 m1=Lg g1 Y []):=by
   show _=_
   unfold Lg
   rw [List.append_nil,HM1.out]
  have V1:Hid (Value.slice (some ⟨w1.heap.size,0,none⟩) (M.digs Bb X).length m1=Lg w1.heap.size X (List.drop (M.digs Bb X).length (List.replicate m1 0))):=by
   have:=FIT.out
   have e:(M.digs Bb X ++ List.drop (M.digs Bb X).length (List.replicate m1 0)).length=m1:=by rw [Ji,List.length_drop,List.length_replicate];omega
   show _=_
   unfold Lg
   rw [e]
  generalize hG:Nat.gcd X Y=G at *
  have HG:=Ba hG
  clear hG kn3 o3 kn b2 b1 k0 k1 hT HC RY FIT hle
  go_loopw [0,1] (fun vx vy wr=>∃ ga gb A B qa qb,vx=Lg ga A qa∧vy=Lg gb B qb∧Hp g0 g1 G w wr ga gb A B qa qb) (fun _ vy wr=>Bmy vy wr)
  case atStart=>exact ⟨_,_,_,_,_,_,V0.out,V1.out,IN.out⟩
  case round =>
   clear V0 V1 IN
   obtain ⟨ga,gb,A,B,qa,qb,rfl,rfl,RR⟩:=hrel
   have ME:=Ba (Lx RR.kb)
   have R:=Ba RR
   by_cases hn:1<(M.digs Bb B).length
   ·have LS:Hid (Calls Tryz.prog 204 #[Lg ga A qa,Lg gb B qb] wr fun e w'=>∃ a b c d:Nat,e=.returned (Wz a b c d)∧a<Bb∧b<Bb∧c<Bb∧d<Bb ∧
      (b=0∨∃ X' Y',M.Eu a b c d A B X' Y'∧0<Y'∧Y'<X'∧1≤c∧1≤d)∧Below wr.heap.size wr w'):=by
     have l1:=Cq RR.le
     have l2:=RR.size
     have:=Ry (some ⟨ga,0,none⟩) (some ⟨gb,0,none⟩) (M.digs Bb A ++ qa).length (M.digs Bb B ++ qb).length ((M.digs Bb A).length - 1) (M.digs Bb A) (M.digs Bb B) wr RR.rdA RR.rdB (M.Low.digs Be A) (M.Low.digs Be B) (by omega) (by omega) (by omega) (by omega)
      (by have:=M.trim_digs Be A ((M.digs Bb A).length - 1) (by omega);unfold lm;omega) (by rw [M.val_digs Be,M.val_digs Be];exact RR.le)
     rw [M.val_digs Be,M.val_digs Be] at this
     exact this
    have hn1:(1:Int)<((M.digs Bb B).length:Nat):=by omega
    have HN:=Ba hn
    unfold Lg at *
    generalize hna:(M.digs Bb A).length=na at *
    generalize hnb:(M.digs Bb B).length=nb at *
    generalize hca:(M.digs Bb A ++ qa).length=ca at *
    generalize hcb:(M.digs Bb B ++ qb).length=cb at *
    have NA:=Ba hna
    have NB:=Ba hnb
    have CA:=Ba hca
    have CB:=Ba hcb
    clear hna hnb hca hcb RR hn
    go_wp2_with fail
    refine (LS.out).mono ?_
    rintro e w4 ⟨a,b,c,d,rfl,ha,hb,hc,hd,hs,b4⟩
    unfold Wz
    have NO:=Ba (fun w=>Xx a b c d w)
    unfold Wz at NO
    obtain ⟨w5,hw5⟩:∃ w5,w5=w4.alloc (.cells #[.int .u64 (a:Nat),.int .u64 (b:Nat),.int .u64 (c:Nat),.int .u64 (d:Nat)] 276):=⟨_,rfl⟩
    have kS:Bi w5 w4.heap.size [.int .u64 (a:Nat),.int .u64 (b:Nat),.int .u64 (c:Nat),.int .u64 (d:Nat)] 276:=by rw [hw5];exact Bi.new _ _ _
    have b5:Below w4.heap.size w4 w5:=by rw [hw5];go_grown
    have lga:=(R.out.b b4).ka.lt
    have lgb:=(R.out.b b4).kb.lt
    replace R:=Ba ((R.out.b b4).b b5)
    go_wp2_with fail
    rw [← hw5]
    clear hw5
    refine (NO.out _).mono ?_
    rintro e w6 ⟨rfl,b6⟩
    replace kS:=kS.b b6
    replace R:=Ba (R.out.b b6)
    have s0:=Qa kS
    have s1:=P9 kS
    have s2:=P7 kS
    have s3:=P6 kS
    have HA:=Ba ha
    have HB:=Ba hb
    have HC:=Ba hc
    have HD:=Ba hd
    have HS:=Ba hs
    clear NO LS b4 b5 b6 ha hb hc hd hs
    have hB0:0<B:=by
     rcases Nat.eq_zero_or_pos B with e | e
     ·have h2:=HN.out
      have h3:=NB.out
      rw [e,M.digs_zero] at h3
      simp at h3
      omega
     ·exact e
    by_cases hb0:b=0
    ·have DM:Hid (Calls Tryz.prog 173 #[.slice (some ⟨ga,0,none⟩) na ca,.slice (some ⟨gb,0,none⟩) nb cb] w6 fun e w'=>∃ q r,e=.returned (.tuple #[q,r,.int .i64 0])∧Rd w' r (M.digs Bb (A % B))∧Below w6.heap.size w6 w'):=by
      have rA:=R.out.rdA
      have rB:=R.out.rdB
      unfold Lg at rA rB
      rw [NA.out,CA.out] at rA
      rw [NB.out,CB.out] at rB
      have l1:=Cq R.out.le
      refine (G0 _ _ _ _ w6 rA rB (M.Low.digs Be A) (M.Low.digs Be B) R.out.size (Jf l1 R.out.size)).mono ?_
      rintro e w' ⟨-,h,hb⟩
      rw [M.val_digs Be,M.val_digs Be] at h
      obtain ⟨q,r,h1,-,h3⟩:=h hB0
      exact ⟨q,r,h1,h3,hb⟩
     rw [decide_eq_true hb0]
     go_wp2_with fail
     refine (DM.out).mono ?_
     rintro e w7 ⟨q,r,rfl,rr,b7⟩
     replace R:=Ba (R.out.b b7)
     have KA:=Ba R.out.ka
     have l3:(M.digs Bb (A % B)).length≤ca:=by
      have l1:=Cq (Jf (Nat.le_of_lt (Nat.mod_lt A hB0)) R.out.le)
      have:=CA.out
      rw [Ji] at this
      omega
     have L3:=Ba l3
     have RR:=Ba rr
     obtain ⟨ar,cr,rfl,-,-⟩:=id rr
     clear rr l3 b7 DM
     go_wp2_with (first
      | (at_builtin;refine Hf rfl _ _ rfl ga ca (M.digs Bb A ++ qa) (M.digs Bb (A % B)) rfl KA.out CA.out _ rfl RR.out L3.out ?_;intro w8 k8 o8))
     have e8:(M.digs Bb (A % B) ++ (M.digs Bb A ++ qa).drop (M.digs Bb (A % B)).length).length=ca:=by
      have:=L3.out
      have:=CA.out
      rw [Ji,List.length_drop]
      omega
     refine ⟨⟨gb,ga,B,A % B,qb,(M.digs Bb A ++ qa).drop (M.digs Bb (A % B)).length,by rw [NB.out,CB.out],by rw [e8],R.out.divided hB0 k8 o8⟩,?_⟩
     have m8:=Lx k8
     unfold Lg at m8
     rw [e8] at m8
     rw [m8,ME.out]
     exact Nat.mod_lt A hB0
    ·rw [decide_eq_false hb0]
     have LO:Hid (Calls Tryz.prog 206 #[.slice (some ⟨gb,0,none⟩) nb cb,.int .i64 (na:Nat)] w6 fun e w'=>e=.returned (.slice (some ⟨gb,0,none⟩) na cb)∧Cm w' gb (M.digs Bb B ++ List.replicate (na - nb) 0 ++ qb.drop (na - nb))∧Bu gb w6 w'):=by
      have l1:=Cq R.out.le
      have l2:=R.out.cap
      have l4:=R.out.size
      have e1:=NA.out
      have e2:=NB.out
      have:=Rz gb (M.digs Bb B) qb na cb w6 R.out.kb (by omega) (by omega) CB.out.symm (by omega)
      rw [NB.out] at this
      exact this
     go_wp2_with fail
     refine (LO.out).mono ?_
     rintro e w7 ⟨rfl,k7,o7⟩
     have kS7:Bi w7 w4.heap.size [.int .u64 (a:Nat),.int .u64 (b:Nat),.int .u64 (c:Nat),.int .u64 (d:Nat)] 276:=by
      unfold Bi at kS ⊢
      rw [o7.block _ (by omega)];exact kS
     have ka7:Cm w7 ga (M.digs Bb A ++ qa):=o7.blk R.out.ka R.out.ne
     have t0:=Qa kS7
     have t1:=P9 kS7
     have t2:=P7 kS7
     have t3:=P6 kS7
     obtain ⟨X',Y',eu,y0,yx,c1',d1'⟩:∃ X' Y',M.Eu a b c d A B X' Y'∧0<Y'∧Y'<X'∧1≤c∧1≤d:=by
      rcases HS.out with h | h
      ·exact absurd h hb0
      ·exact h
     have hXA:X'≤A:=by
      have:=eu.x
      have:=Jo X' d1'
      omega
     have hYB:Y'<B:=by
      have:=eu.y
      have:=Jo X' c1'
      omega
     have ln:(M.digs Bb B ++ List.replicate (na - nb) 0).length=na:=by
      have l1:=Cq R.out.le
      rw [NA.out,NB.out] at l1
      rw [Ji,List.length_replicate,NB.out]
      omega
     have vB:M.val Bb (M.digs Bb B ++ List.replicate (na - nb) 0)=B:=by
      rw [M.val_append,M.val_digs Be,val_zeros,Nat.mul_zero,Nat.add_zero]
     have hA:A<Bb ^ na:=by
      have:=M.val_lt Bm (M.Low.digs Be A)
      rwa [M.val_digs Be,NA.out] at this
     have TK:Hid (Calls Tryz.prog 207 #[.agg #[.int .u64 (a:Nat),.int .u64 (b:Nat),.int .u64 (c:Nat),.int .u64 (d:Nat)],.slice (some ⟨ga,0,none⟩) na ca,.slice (some ⟨gb,0,none⟩) na cb] w7 fun e w' =>
       ∃ xs' ys':List Nat,e=.returned (.tuple #[])∧Cm w' ga (xs' ++ qa)∧Cm w' gb (ys' ++ qb.drop (na - nb))∧xs'.length=na∧ys'.length=na∧M.Low Bb xs'∧M.Low Bb ys'∧M.val Bb xs'=X'∧M.val Bb ys'=Y'∧Cj ga gb w7 w'):=by
      have hca:(M.digs Bb A).length≤cb:=by
       have:=R.out.cap
       rw [CB.out] at this
       exact this
      have:=Oz a b c d ga gb 170 (M.digs Bb A) (M.digs Bb B ++ List.replicate (na - nb) 0) qa (qb.drop (na - nb)) ca na cb w7 ka7 k7 R.out.ne (by rw [ln,NA.out]) HA.out HB.out HC.out HD.out (M.Low.digs Be A)
       ((M.Low.digs Be B).append (Uh _)) hca (by rw [NA.out];have:=R.out.size;rw [NA.out] at this;omega) X' Y'
       (by rw [M.val_digs Be,vB];rcases eu.take with ⟨h,-⟩ | ⟨h,-⟩;exact Or.inl h;exact Or.inr h) (by rw [M.val_digs Be,vB];rcases eu.take with ⟨-,h⟩ | ⟨-,h⟩;exact Or.inr h;exact Or.inl h)
       (by rw [NA.out];omega) (by rw [NA.out];omega)
      rw [NA.out] at this
      exact this
     have EU:=Ba eu
     have HXA:=Ba hXA
     have HYB:=Ba hYB
     have YX:=Ba yx
     clear s0 s1 s2 s3 eu hXA hYB yx c1' d1' ln vB hA LO
     go_wp2_with fail
     refine (TK.out).mono ?_
     rintro e w8 ⟨xs',ys',rfl,k8,k9,n8,n9,lx8,ly8,v8,v9,g8⟩
     have hna4:na≤4000:=by have:=R.out.size;rw [NA.out] at this;exact this
     have lca:na≤ca:=by have h1:=NA.out;have h2:=CA.out;rw [Ji] at h2;omega
     have lcb:na≤cb:=by have h1:=R.out.cap;rw [NA.out,CB.out] at h1;exact h1
     have SX:=Ba (Hi w8 (some ⟨ga,0,none⟩) ca xs' (Bk.rd (t:=170) k8 ca (by omega)) lx8 (by omega))
     have SY:=Ba (Hi w8 (some ⟨gb,0,none⟩) cb ys' (Bk.rd (t:=170) k9 cb (by omega)) ly8 (by omega))
     rw [n8,v8] at SX
     rw [n9,v9] at SY
     have N8:=Ba n8
     have N9:=Ba n9
     clear n8 n9 v8 v9
     go_wp2_with fail
     refine (SX.out).mono ?_
     rintro e w9 ⟨i1,rfl,li1,t8,rfl⟩
     go_wp2_with fail
     refine (SY.out).mono ?_
     rintro e w10 ⟨i2,rfl,li2,t9,rfl⟩
     have T8:=Ba t8
     have T9:=Ba t9
     clear t8 t9
     go_wp2
     have d8:M.digs Bb X' ++ (xs'.drop i1 ++ qa)=xs' ++ qa:=by rw [← T8.out,← List.append_assoc,List.take_append_drop]
     have d9:M.digs Bb Y' ++ (ys'.drop i2 ++ qb.drop (na - nb))=ys' ++ qb.drop (na - nb):=by rw [← T9.out,← List.append_assoc,List.take_append_drop]
     have n1:(M.digs Bb X').length=i1:=by rw [← T8.out,List.length_take,N8.out];omega
     have n2:(M.digs Bb Y').length=i2:=by rw [← T9.out,List.length_take,N9.out];omega
     have c8:(xs' ++ qa).length=ca:=by
      have h1:=NA.out
      have h2:=CA.out
      rw [Ji] at h2 ⊢
      rw [N8.out]
      omega
     have c9:(ys' ++ qb.drop (na - nb)).length=cb:=by
      have h1:=NB.out
      have h2:=CB.out
      have l1:=Cq R.out.le
      rw [NA.out,NB.out] at l1
      rw [Ji] at h2 ⊢
      rw [N9.out,List.length_drop]
      omega
     have g7:Cj ga gb w6 w7:=Cj.right o7
     refine ⟨⟨ga,gb,X',Y',xs'.drop i1 ++ qa,ys'.drop i2 ++ qb.drop (na - nb),by rw [n1,d8,c8],by rw [n2,d9,c9],?_⟩,?_⟩
     ·refine ⟨by rw [d8];exact k8,by rw [d9];exact k9,R.out.ne,R.out.fa,R.out.fb,by rw [n1,d9,c9];omega,Nat.le_of_lt YX.out,by rw [EU.out.gcd];exact R.out.gcd,by omega,?_,?_⟩
      ·exact (R.out.tab.grew2 R.out.ka R.out.kb g7).grew2 ka7 k7 g8
      ·exact (R.out.gr.put g7 R.out.fa R.out.fb).put g8 R.out.fa R.out.fb
     ·have m9:=Lx (g:=gb) (A:=Y') (q:=ys'.drop i2 ++ qb.drop (na - nb)) (by rw [d9];exact k9)
      unfold Lg at m9
      rw [n2,d9,c9] at m9
      rw [m9,ME.out]
      exact HYB.out
   ·have hn1:¬ (1:Int)<((M.digs Bb B).length:Nat):=by omega
    rcases Nat.eq_zero_or_pos B with hB0 | hB0
    ·have z:M.digs Bb B=[]:=by rw [hB0,M.digs_zero]
     have rA:=RR.rdA
     have gg:=RR.gcd
     rw [hB0,Nat.gcd_zero_right] at gg
     have GR:=Ba RR.gr
     have RA:=Ba rA
     have GG:=Ba gg
     clear gg rA R ME RR hn hn1
     unfold Lg at *
     rw [z]
     go_wp2_with fail
     go_ret
     exact ⟨_,rfl,by rw [HG.out,← GG.out];exact RA.out,GR.out⟩
    ·have lB:B<Bb:=by
      have h1:=M.val_lt Bm (M.Low.digs Be B)
      rw [M.val_digs Be] at h1
      have h2:Bb ^ (M.digs Bb B).length≤Bb ^ 1:=Nat.pow_le_pow_right Bm (by omega)
      rw [Nat.pow_one] at h2
      omega
     have z:M.digs Bb B=[B]:=Oe (by omega) lB
     have hGd:M.digs Bb (Nat.gcd B (A % B))=[Nat.gcd B (A % B)]:=Oe (by have:=Nat.gcd_pos_of_pos_left (A % B) hB0;omega) (Nat.lt_of_le_of_lt (Nat.le_of_dvd hB0 (Nat.gcd_dvd_left _ _)) lB)
     have gg:Nat.gcd B (A % B)=G:=by rw [Nat.gcd_comm,← Nat.gcd_rec,Nat.gcd_comm];exact RR.gcd
     have DM:Hid (Calls Tryz.prog 173 #[Lg ga A qa,Lg gb B qb] wr fun e w'=>∃ q r,e=.returned (.tuple #[q,r,.int .i64 0])∧Rd w' q (M.digs Bb (A / B))∧Rd w' r (M.digs Bb (A % B))∧Below wr.heap.size wr w'):=by
      have l1:=Cq RR.le
      refine (G0 _ _ _ _ wr RR.rdA RR.rdB (M.Low.digs Be A) (M.Low.digs Be B) RR.size (Jf l1 RR.size)).mono ?_
      rintro e w' ⟨-,h,hb⟩
      rw [M.val_digs Be,M.val_digs Be] at h
      obtain ⟨q,r,h1,h2,h3⟩:=h hB0
      exact ⟨q,r,h1,h2,h3,hb⟩
     have LD:=Ba (fun v w=>Ui B (A % B) v w hB0 lB (Nat.mod_lt _ hB0))
     have kb:=RR.kb
     rw [z] at kb
     have R2:=Ba RR
     unfold Lg at *
     rw [z] at DM ⊢
     generalize hna:(M.digs Bb A).length=na at *
     generalize hca:(M.digs Bb A ++ qa).length=ca at *
     generalize hcb:([B] ++ qb).length=cb at *
     have hcb0:1≤cb:=by rw [← hcb];simp
     have GG:=Ba gg
     have HGD:=Ba hGd
     have ic:((0:Nat):Int)<cb:=by omega
     clear hna hca hcb R ME RR hn hn1 gg hGd z
     simp only [List.length_cons,List.length_nil,Nat.zero_add] at *
     go_wp2_with fail
     refine (DM.out).mono ?_
     rintro e w7 ⟨q,r,rfl,rq,rr,b7⟩
     have y0:=(kb.b b7).cell (j:=0) (by simp)
     rw [show lm ([B] ++ qb) 0=B from rfl] at y0
     have LD2:=Ba (LD.out r w7 rr (R2.out.b b7).tab)
     have RR2:=Ba (R2.out.b b7)
     obtain ⟨aq,cq,rfl,-,-⟩:=id rq
     obtain ⟨ar,cr,rfl,-,-⟩:=id rr
     clear rr rq b7 LD R2 kb DM
     go_wp2_with fail
     refine (LD2.out).mono ?_
     rintro e w8 ⟨rfl,rfl⟩
     clear LD2 y0
     go_wp2
     go_ret
     refine ⟨_,rfl,?_,RR2.out.gr.of_below ((Jg _ _).alloc (Jb _) _)⟩
     rw [HG.out,← GG.out,HGD.out]
     exact Yt _ rfl _
 ·have c1:¬ Er X Y<0:=by
   rcases Nat.lt_or_ge Y X with h | h
   ·rw [Mf h];omega
   ·rw [Oh (by omega)];omega
  generalize Er X Y=cc at *
  have HM0:=Ba hm0
  have HM1:=Ba hm1
  have hle:m1≤m0:=by rw [← hm0,← hm1];exact Cq (by omega)
  have RY:Hid (∀ w1,Below w.heap.size w w1→∀ w2,Below w1.heap.size w1 w2→Rd w2 (.slice (some ⟨g1,0,none⟩) m1 m1) (M.digs Bb Y)):=by
   intro w1 b1 w2 b2
   rw [← hm1]
   exact ((k1.b b1).b b2).rd0 _ (Jb _)
  have FIT:Hid ((M.digs Bb Y).length≤m0):=by show _≤_;omega
  clear hm0 hm1
  go_enter Tryz.func172,Tryz.ntmps172
  go_wp2_with fail
  refine (HC.out).mono ?_
  rintro e w1 ⟨rfl,b1⟩
  go_wp2_with (first
   | (at_make;refine Ki rfl _ _ rfl _ _ 0 m0 rfl rfl (by omega) (by omega) (by omega) (by omega) ?_;intro w2 kn b2)
   | (at_builtin;refine Hf rfl _ _ rfl w1.heap.size m0 (List.replicate m0 0) (M.digs Bb Y) rfl kn (by simp) (.slice (some ⟨g1,0,none⟩) m1 m1) rfl (RY.out w1 b1 w2 b2) FIT.out ?_;intro w3 kn3 o3))
  have IN:Hid (Hp g0 g1 (Nat.gcd X Y) w w3 g0 w1.heap.size X Y [] (List.drop (M.digs Bb Y).length (List.replicate m0 0))):=by
   have l0:=k0.lt
   have e1:=b1.size
   have hb3:Below w1.heap.size w1 w3:=⟨o3.os.trans b2.os,o3.tape.trans b2.tape,o3.output.trans b2.output,by rw [o3.size];exact b2.size,fun i hi=>(o3.block i (by omega)).trans (b2.block i hi)⟩
   have hbb:=Ia b1 hb3
   refine ⟨by simpa using k0.b hbb,kn3,by omega,Or.inl rfl,Or.inr (Or.inr e1),?_,by omega,rfl,by rw [HM0.out];exact h0,hT.b hbb,Cj.of hbb⟩
   have:=FIT.out
   rw [HM0.out,Ji,List.length_drop,List.length_replicate]
   omega
  have V0:Hid (Value.slice (some ⟨g0,0,none⟩) m0 m0=Lg g0 X []):=by
   show _=_
   unfold Lg
   rw [List.append_nil,HM0.out]
  have V1:Hid (Value.slice (some ⟨w1.heap.size,0,none⟩) (M.digs Bb Y).length m0=Lg w1.heap.size Y (List.drop (M.digs Bb Y).length (List.replicate m0 0))):=by
   have:=FIT.out
   have e:(M.digs Bb Y ++ List.drop (M.digs Bb Y).length (List.replicate m0 0)).length=m0:=by rw [Ji,List.length_drop,List.length_replicate];omega
   show _=_
   unfold Lg
   rw [e]
  generalize hG:Nat.gcd X Y=G at *
  have HG:=Ba hG
  clear hG kn3 o3 kn b2 b1 k0 k1 hT HC RY FIT hle
  go_loopw [0,1] (fun vx vy wr=>∃ ga gb A B qa qb,vx=Lg ga A qa∧vy=Lg gb B qb∧Hp g0 g1 G w wr ga gb A B qa qb) (fun _ vy wr=>Bmy vy wr)
  case atStart=>exact ⟨_,_,_,_,_,_,V0.out,V1.out,IN.out⟩
  case round =>
   clear V0 V1 IN
   obtain ⟨ga,gb,A,B,qa,qb,rfl,rfl,RR⟩:=hrel
   have ME:=Ba (Lx RR.kb)
   have R:=Ba RR
   by_cases hn:1<(M.digs Bb B).length
   ·have LS:Hid (Calls Tryz.prog 204 #[Lg ga A qa,Lg gb B qb] wr fun e w'=>∃ a b c d:Nat,e=.returned (Wz a b c d)∧a<Bb∧b<Bb∧c<Bb∧d<Bb ∧
      (b=0∨∃ X' Y',M.Eu a b c d A B X' Y'∧0<Y'∧Y'<X'∧1≤c∧1≤d)∧Below wr.heap.size wr w'):=by
     have l1:=Cq RR.le
     have l2:=RR.size
     have:=Ry (some ⟨ga,0,none⟩) (some ⟨gb,0,none⟩) (M.digs Bb A ++ qa).length (M.digs Bb B ++ qb).length ((M.digs Bb A).length - 1) (M.digs Bb A) (M.digs Bb B) wr RR.rdA RR.rdB (M.Low.digs Be A) (M.Low.digs Be B) (by omega) (by omega) (by omega) (by omega)
      (by have:=M.trim_digs Be A ((M.digs Bb A).length - 1) (by omega);unfold lm;omega) (by rw [M.val_digs Be,M.val_digs Be];exact RR.le)
     rw [M.val_digs Be,M.val_digs Be] at this
     exact this
    have hn1:(1:Int)<((M.digs Bb B).length:Nat):=by omega
    have HN:=Ba hn
    unfold Lg at *
    generalize hna:(M.digs Bb A).length=na at *
    generalize hnb:(M.digs Bb B).length=nb at *
    generalize hca:(M.digs Bb A ++ qa).length=ca at *
    generalize hcb:(M.digs Bb B ++ qb).length=cb at *
    have NA:=Ba hna
    have NB:=Ba hnb
    have CA:=Ba hca
    have CB:=Ba hcb
    clear hna hnb hca hcb RR hn
    go_wp2_with fail
    refine (LS.out).mono ?_
    rintro e w4 ⟨a,b,c,d,rfl,ha,hb,hc,hd,hs,b4⟩
    unfold Wz
    have NO:=Ba (fun w=>Xx a b c d w)
    unfold Wz at NO
    obtain ⟨w5,hw5⟩:∃ w5,w5=w4.alloc (.cells #[.int .u64 (a:Nat),.int .u64 (b:Nat),.int .u64 (c:Nat),.int .u64 (d:Nat)] 276):=⟨_,rfl⟩
    have kS:Bi w5 w4.heap.size [.int .u64 (a:Nat),.int .u64 (b:Nat),.int .u64 (c:Nat),.int .u64 (d:Nat)] 276:=by rw [hw5];exact Bi.new _ _ _
    have b5:Below w4.heap.size w4 w5:=by rw [hw5];go_grown
    have lga:=(R.out.b b4).ka.lt
    have lgb:=(R.out.b b4).kb.lt
    replace R:=Ba ((R.out.b b4).b b5)
    go_wp2_with fail
    rw [← hw5]
    clear hw5
    refine (NO.out _).mono ?_
    rintro e w6 ⟨rfl,b6⟩
    replace kS:=kS.b b6
    replace R:=Ba (R.out.b b6)
    have s0:=Qa kS
    have s1:=P9 kS
    have s2:=P7 kS
    have s3:=P6 kS
    have HA:=Ba ha
    have HB:=Ba hb
    have HC:=Ba hc
    have HD:=Ba hd
    have HS:=Ba hs
    clear NO LS b4 b5 b6 ha hb hc hd hs
    have hB0:0<B:=by
     rcases Nat.eq_zero_or_pos B with e | e
     ·have h2:=HN.out
      have h3:=NB.out
      rw [e,M.digs_zero] at h3
      simp at h3
      omega
     ·exact e
    by_cases hb0:b=0
    ·have DM:Hid (Calls Tryz.prog 173 #[.slice (some ⟨ga,0,none⟩) na ca,.slice (some ⟨gb,0,none⟩) nb cb] w6 fun e w'=>∃ q r,e=.returned (.tuple #[q,r,.int .i64 0])∧Rd w' r (M.digs Bb (A % B))∧Below w6.heap.size w6 w'):=by
      have rA:=R.out.rdA
      have rB:=R.out.rdB
      unfold Lg at rA rB
      rw [NA.out,CA.out] at rA
      rw [NB.out,CB.out] at rB
      have l1:=Cq R.out.le
      refine (G0 _ _ _ _ w6 rA rB (M.Low.digs Be A) (M.Low.digs Be B) R.out.size (Jf l1 R.out.size)).mono ?_
      rintro e w' ⟨-,h,hb⟩
      rw [M.val_digs Be,M.val_digs Be] at h
      obtain ⟨q,r,h1,-,h3⟩:=h hB0
      exact ⟨q,r,h1,h3,hb⟩
     rw [decide_eq_true hb0]
     go_wp2_with fail
     refine (DM.out).mono ?_
     rintro e w7 ⟨q,r,rfl,rr,b7⟩
     replace R:=Ba (R.out.b b7)
     have KA:=Ba R.out.ka
     have l3:(M.digs Bb (A % B)).length≤ca:=by
      have l1:=Cq (Jf (Nat.le_of_lt (Nat.mod_lt A hB0)) R.out.le)
      have:=CA.out
      rw [Ji] at this
      omega
     have L3:=Ba l3
     have RR:=Ba rr
     obtain ⟨ar,cr,rfl,-,-⟩:=id rr
     clear rr l3 b7 DM
     go_wp2_with (first
      | (at_builtin;refine Hf rfl _ _ rfl ga ca (M.digs Bb A ++ qa) (M.digs Bb (A % B)) rfl KA.out CA.out _ rfl RR.out L3.out ?_;intro w8 k8 o8))
     have e8:(M.digs Bb (A % B) ++ (M.digs Bb A ++ qa).drop (M.digs Bb (A % B)).length).length=ca:=by
      have:=L3.out
      have:=CA.out
      rw [Ji,List.length_drop]
      omega
     refine ⟨⟨gb,ga,B,A % B,qb,(M.digs Bb A ++ qa).drop (M.digs Bb (A % B)).length,by rw [NB.out,CB.out],by rw [e8],R.out.divided hB0 k8 o8⟩,?_⟩
     have m8:=Lx k8
     unfold Lg at m8
     rw [e8] at m8
     rw [m8,ME.out]
     exact Nat.mod_lt A hB0
    ·rw [decide_eq_false hb0]
     have LO:Hid (Calls Tryz.prog 206 #[.slice (some ⟨gb,0,none⟩) nb cb,.int .i64 (na:Nat)] w6 fun e w'=>e=.returned (.slice (some ⟨gb,0,none⟩) na cb)∧Cm w' gb (M.digs Bb B ++ List.replicate (na - nb) 0 ++ qb.drop (na - nb))∧Bu gb w6 w'):=by
      have l1:=Cq R.out.le
      have l2:=R.out.cap
      have l4:=R.out.size
      have e1:=NA.out
      have e2:=NB.out
      have:=Rz gb (M.digs Bb B) qb na cb w6 R.out.kb (by omega) (by omega) CB.out.symm (by omega)
      rw [NB.out] at this
      exact this
     go_wp2_with fail
     refine (LO.out).mono ?_
     rintro e w7 ⟨rfl,k7,o7⟩
     have kS7:Bi w7 w4.heap.size [.int .u64 (a:Nat),.int .u64 (b:Nat),.int .u64 (c:Nat),.int .u64 (d:Nat)] 276:=by
      unfold Bi at kS ⊢
      rw [o7.block _ (by omega)];exact kS
     have ka7:Cm w7 ga (M.digs Bb A ++ qa):=o7.blk R.out.ka R.out.ne
     have t0:=Qa kS7
     have t1:=P9 kS7
     have t2:=P7 kS7
     have t3:=P6 kS7
     obtain ⟨X',Y',eu,y0,yx,c1',d1'⟩:∃ X' Y',M.Eu a b c d A B X' Y'∧0<Y'∧Y'<X'∧1≤c∧1≤d:=by
      rcases HS.out with h | h
      ·exact absurd h hb0
      ·exact h
     have hXA:X'≤A:=by
      have:=eu.x
      have:=Jo X' d1'
      omega
     have hYB:Y'<B:=by
      have:=eu.y
      have:=Jo X' c1'
      omega
     have ln:(M.digs Bb B ++ List.replicate (na - nb) 0).length=na:=by
      have l1:=Cq R.out.le
      rw [NA.out,NB.out] at l1
      rw [Ji,List.length_replicate,NB.out]
      omega
     have vB:M.val Bb (M.digs Bb B ++ List.replicate (na - nb) 0)=B:=by
      rw [M.val_append,M.val_digs Be,val_zeros,Nat.mul_zero,Nat.add_zero]
     have hA:A<Bb ^ na:=by
      have:=M.val_lt Bm (M.Low.digs Be A)
      rwa [M.val_digs Be,NA.out] at this
     have TK:Hid (Calls Tryz.prog 207 #[.agg #[.int .u64 (a:Nat),.int .u64 (b:Nat),.int .u64 (c:Nat),.int .u64 (d:Nat)],.slice (some ⟨ga,0,none⟩) na ca,.slice (some ⟨gb,0,none⟩) na cb] w7 fun e w' =>
       ∃ xs' ys':List Nat,e=.returned (.tuple #[])∧Cm w' ga (xs' ++ qa)∧Cm w' gb (ys' ++ qb.drop (na - nb))∧xs'.length=na∧ys'.length=na∧M.Low Bb xs'∧M.Low Bb ys'∧M.val Bb xs'=X'∧M.val Bb ys'=Y'∧Cj ga gb w7 w'):=by
      have hca:(M.digs Bb A).length≤cb:=by
       have:=R.out.cap
       rw [CB.out] at this
       exact this
      have:=Oz a b c d ga gb 170 (M.digs Bb A) (M.digs Bb B ++ List.replicate (na - nb) 0) qa (qb.drop (na - nb)) ca na cb w7 ka7 k7 R.out.ne (by rw [ln,NA.out]) HA.out HB.out HC.out HD.out (M.Low.digs Be A)
       ((M.Low.digs Be B).append (Uh _)) hca (by rw [NA.out];have:=R.out.size;rw [NA.out] at this;omega) X' Y'
       (by rw [M.val_digs Be,vB];rcases eu.take with ⟨h,-⟩ | ⟨h,-⟩;exact Or.inl h;exact Or.inr h) (by rw [M.val_digs Be,vB];rcases eu.take with ⟨-,h⟩ | ⟨-,h⟩;exact Or.inr h;exact Or.inl h)
       (by rw [NA.out];omega) (by rw [NA.out];omega)
      rw [NA.out] at this
      exact this
     have EU:=Ba eu
     have HXA:=Ba hXA
     have HYB:=Ba hYB
     have YX:=Ba yx
     clear s0 s1 s2 s3 eu hXA hYB yx c1' d1' ln vB hA LO
     go_wp2_with fail
     refine (TK.out).mono ?_
     rintro e w8 ⟨xs',ys',rfl,k8,k9,n8,n9,lx8,ly8,v8,v9,g8⟩
     have hna4:na≤4000:=by have:=R.out.size;rw [NA.out] at this;exact this
     have lca:na≤ca:=by have h1:=NA.out;have h2:=CA.out;rw [Ji] at h2;omega
     have lcb:na≤cb:=by have h1:=R.out.cap;rw [NA.out,CB.out] at h1;exact h1
     have SX:=Ba (Hi w8 (some ⟨ga,0,none⟩) ca xs' (Bk.rd (t:=170) k8 ca (by omega)) lx8 (by omega))
     have SY:=Ba (Hi w8 (some ⟨gb,0,none⟩) cb ys' (Bk.rd (t:=170) k9 cb (by omega)) ly8 (by omega))
     rw [n8,v8] at SX
     rw [n9,v9] at SY
     have N8:=Ba n8
     have N9:=Ba n9
     clear n8 n9 v8 v9
     go_wp2_with fail
     refine (SX.out).mono ?_
     rintro e w9 ⟨i1,rfl,li1,t8,rfl⟩
     go_wp2_with fail
     refine (SY.out).mono ?_
     rintro e w10 ⟨i2,rfl,li2,t9,rfl⟩
     have T8:=Ba t8
     have T9:=Ba t9
     clear t8 t9
     go_wp2
     have d8:M.digs Bb X' ++ (xs'.drop i1 ++ qa)=xs' ++ qa:=by rw [← T8.out,← List.append_assoc,List.take_append_drop]
     have d9:M.digs Bb Y' ++ (ys'.drop i2 ++ qb.drop (na - nb))=ys' ++ qb.drop (na - nb):=by rw [← T9.out,← List.append_assoc,List.take_append_drop]
     have n1:(M.digs Bb X').length=i1:=by rw [← T8.out,List.length_take,N8.out];omega
     have n2:(M.digs Bb Y').length=i2:=by rw [← T9.out,List.length_take,N9.out];omega
     have c8:(xs' ++ qa).length=ca:=by
      have h1:=NA.out
      have h2:=CA.out
      rw [Ji] at h2 ⊢
      rw [N8.out]
      omega
     have c9:(ys' ++ qb.drop (na - nb)).length=cb:=by
      have h1:=NB.out
      have h2:=CB.out
      have l1:=Cq R.out.le
      rw [NA.out,NB.out] at l1
      rw [Ji] at h2 ⊢
      rw [N9.out,List.length_drop]
      omega
     have g7:Cj ga gb w6 w7:=Cj.right o7
     refine ⟨⟨ga,gb,X',Y',xs'.drop i1 ++ qa,ys'.drop i2 ++ qb.drop (na - nb),by rw [n1,d8,c8],by rw [n2,d9,c9],?_⟩,?_⟩
     ·refine ⟨by rw [d8];exact k8,by rw [d9];exact k9,R.out.ne,R.out.fa,R.out.fb,by rw [n1,d9,c9];omega,Nat.le_of_lt YX.out,by rw [EU.out.gcd];exact R.out.gcd,by omega,?_,?_⟩
      ·exact (R.out.tab.grew2 R.out.ka R.out.kb g7).grew2 ka7 k7 g8
      ·exact (R.out.gr.put g7 R.out.fa R.out.fb).put g8 R.out.fa R.out.fb
     ·have m9:=Lx (g:=gb) (A:=Y') (q:=ys'.drop i2 ++ qb.drop (na - nb)) (by rw [d9];exact k9)
      unfold Lg at m9
      rw [n2,d9,c9] at m9
      rw [m9,ME.out]
      exact HYB.out
   ·have hn1:¬ (1:Int)<((M.digs Bb B).length:Nat):=by omega
    rcases Nat.eq_zero_or_pos B with hB0 | hB0
    ·have z:M.digs Bb B=[]:=by rw [hB0,M.digs_zero]
     have rA:=RR.rdA
     have gg:=RR.gcd
     rw [hB0,Nat.gcd_zero_right] at gg
     have GR:=Ba RR.gr
     have RA:=Ba rA
     have GG:=Ba gg
     clear gg rA R ME RR hn hn1
     unfold Lg at *
     rw [z]
     go_wp2_with fail
     go_ret
     exact ⟨_,rfl,by rw [HG.out,← GG.out];exact RA.out,GR.out⟩
    ·have lB:B<Bb:=by
      have h1:=M.val_lt Bm (M.Low.digs Be B)
      rw [M.val_digs Be] at h1
      have h2:Bb ^ (M.digs Bb B).length≤Bb ^ 1:=Nat.pow_le_pow_right Bm (by omega)
      rw [Nat.pow_one] at h2
      omega
     have z:M.digs Bb B=[B]:=Oe (by omega) lB
     have hGd:M.digs Bb (Nat.gcd B (A % B))=[Nat.gcd B (A % B)]:=Oe (by have:=Nat.gcd_pos_of_pos_left (A % B) hB0;omega) (Nat.lt_of_le_of_lt (Nat.le_of_dvd hB0 (Nat.gcd_dvd_left _ _)) lB)
     have gg:Nat.gcd B (A % B)=G:=by rw [Nat.gcd_comm,← Nat.gcd_rec,Nat.gcd_comm];exact RR.gcd
     have DM:Hid (Calls Tryz.prog 173 #[Lg ga A qa,Lg gb B qb] wr fun e w'=>∃ q r,e=.returned (.tuple #[q,r,.int .i64 0])∧Rd w' q (M.digs Bb (A / B))∧Rd w' r (M.digs Bb (A % B))∧Below wr.heap.size wr w'):=by
      have l1:=Cq RR.le
      refine (G0 _ _ _ _ wr RR.rdA RR.rdB (M.Low.digs Be A) (M.Low.digs Be B) RR.size (Jf l1 RR.size)).mono ?_
      rintro e w' ⟨-,h,hb⟩
      rw [M.val_digs Be,M.val_digs Be] at h
      obtain ⟨q,r,h1,h2,h3⟩:=h hB0
      exact ⟨q,r,h1,h2,h3,hb⟩
     have LD:=Ba (fun v w=>Ui B (A % B) v w hB0 lB (Nat.mod_lt _ hB0))
     have kb:=RR.kb
     rw [z] at kb
     have R2:=Ba RR
     unfold Lg at *
     rw [z] at DM ⊢
     generalize hna:(M.digs Bb A).length=na at *
     generalize hca:(M.digs Bb A ++ qa).length=ca at *
     generalize hcb:([B] ++ qb).length=cb at *
     have hcb0:1≤cb:=by rw [← hcb];simp
     have GG:=Ba gg
     have HGD:=Ba hGd
     have ic:((0:Nat):Int)<cb:=by omega
     clear hna hca hcb R ME RR hn hn1 gg hGd z
     simp only [List.length_cons,List.length_nil,Nat.zero_add] at *
     go_wp2_with fail
     refine (DM.out).mono ?_
     rintro e w7 ⟨q,r,rfl,rq,rr,b7⟩
     have y0:=(kb.b b7).cell (j:=0) (by simp)
     rw [show lm ([B] ++ qb) 0=B from rfl] at y0
     have LD2:=Ba (LD.out r w7 rr (R2.out.b b7).tab)
     have RR2:=Ba (R2.out.b b7)
     obtain ⟨aq,cq,rfl,-,-⟩:=id rq
     obtain ⟨ar,cr,rfl,-,-⟩:=id rr
     clear rr rq b7 LD R2 kb DM
     go_wp2_with fail
     refine (LD2.out).mono ?_
     rintro e w8 ⟨rfl,rfl⟩
     clear LD2 y0
     go_wp2
     go_ret
     refine ⟨_,rfl,?_,RR2.out.gr.of_below ((Jg _ _).alloc (Jb _) _)⟩
     rw [HG.out,← GG.out,HGD.out]
     exact Yt _ rfl _
open Go.RowKit Go.Shelf
theorem Below.of_grew2 {w w1 w2 w3:World} {g0 g1:Nat} (bb:Below w.heap.size w w1) (h2:Cj g0 g1 w1.drew w2) (h3:Below w2.heap.size w2 w3) (l0:w.heap.size≤g0) (l1:w.heap.size≤g1):Below w.heap.size w w3 :=
 Ia (Cj.b (show Below w.heap.size w w1.drew from bb.drew) h2 bb.size l0 l1) h3
theorem Vf {s:ByteArray} {K:Nat} (h:s.size≤8*K):Bc s<Bb ^ K:=by
 refine Jl (Gd s) ?_
 rw [Qx]
 exact Nat.pow_le_pow_right (by omega) h
theorem Yk {s:ByteArray} {K:Nat} (h:s.size≤8*K):(M.digs Bb (Bc s)).length≤K:=M.digs_len_of_lt Be (Vf h)
theorem Bat (a b:Nat):Nat.gcd a b≤max a b:=by
 rcases Nat.eq_zero_or_pos a with h | h
 ·rw [h,Nat.gcd_zero_left];omega
 ·have:=Nat.le_of_dvd h (Nat.gcd_dvd_left a b);omega
theorem Bko {s0 s1:ByteArray} {K:Nat} (h0:s0.size≤8*K) (h1:s1.size≤8*K):Nat.gcd (Bc s0) (Bc s1)<Bb ^ K:=by
 have a:=Vf h0
 have b:=Vf h1
 have c:=Bat (Bc s0) (Bc s1)
 generalize Bb ^ K=P at *
 omega
theorem Bn3 {s0 s1:ByteArray} {K:Nat} (hK:K≤4000) (h0:s0.size≤8*K) (h1:s1.size≤8*K) (v:Value) (wx:World) (hr:Rd wx v (M.digs Bb (Nat.gcd (Bc s0) (Bc s1)))) :
  Calls Tryz.prog 170 #[.agg #[Iz false,v]] wx (Re wx (zI (Fk false (Nat.gcd (Bc s0) (Bc s1))))):=Hy false hK (Bko h0 h1) v wx hr
theorem Biv (n0 n1:Bool) (s0 s1:ByteArray) (w:World) (o0:Hc n0 s0) (o1:Hc n1 s1) (z0:s0.size≤32000) (z1:s1.size≤32000) (hT:G9 w) :
  Calls Tryz.prog 124 #[.agg #[Iz n0,I s0],.agg #[Iz n1,I s1]] w (Re w (.tuple #[zI (Nat.gcd (Bc s0) (Bc s1):Nat),.int .i64 0])):=by
 have HT:=Ba (Bn3 (s0:=s0) (s1:=s1) (K:=4000) (by omega) (by omega) (by omega))
 have hz:Fk false (Nat.gcd (Bc s0) (Bc s1))=((Nat.gcd (Bc s0) (Bc s1):Nat):Int):=rfl
 rw [hz] at HT
 generalize hR:zI ((Nat.gcd (Bc s0) (Bc s1):Nat):Int)=R at *
 obtain ⟨za,zb,rfl⟩:∃ a b,R=.agg #[Iz a,I b]:=⟨_,_,hR.symm⟩
 clear hR hz
 go_enter Tryz.func124,Tryz.ntmps124
 go_wp2_with fail
 obtain ⟨w0,hw0,k0,k1,k2,k3,hb0⟩:=Bnp w (Iz n0) (I s0) (Iz n1) (I s1)
 rw [← hw0]
 clear hw0
 refine (Bdt _ n0 n1 s0 s1 w0 k3 o0 o1 z0 z1).mono ?_
 rintro e w1 ⟨g,g0,g1,m0,m1,rfl,kg,e0,e1,r0,r1,hg,hg0,hg1,hb⟩
 have c0:=kg.cell 0
 have c1:=kg.cell 1
 have c2:=kg.cell 2
 have c3:=kg.cell 3
 simp only [Jn,Jm] at c0 c1 c2 c3
 have lt2:=k2.lt
 have m2:=k2.b hb
 have bb:=Ia hb0 hb
 have d0:=Yk (s:=s0) (K:=4000) (by omega)
 have d1:=Yk (s:=s1) (K:=4000) (by omega)
 have H55:=Ba (Bh9 g0 g1 (Bc s0) (Bc s1) m0 m1 w1.drew e0 e1 (show Cm w1 _ _ from r0) (show Cm w1 _ _ from r1) (by omega) (by omega) (show G9 w1 from (hT.b hb0).b hb))
 have bs:=hb0.size
 clear k0 k1 k2 k3 kg hT e0 e1 r0 r1 d0 d1
 go_wp2
 go_region_with (first | (go_at_call 172;refine (H55.out).mono ?_;rintro e w2 ⟨v,rfl,rv,hb2⟩;obtain ⟨av,cv,rfl,-,-⟩:=id rv) | (go_at_call 170;refine (HT.out _ w2 rv).mono ?_;rintro e w3 ⟨rfl,hb3⟩;have q2:=((show Bi w1.drew _ _ _ from m2).grew2 hb2 (by omega) (by omega)).b hb3;have e0:=Pd q2;have e1:=Bnn q2;have f0:=q2.o 0;have f1:=q2.o 1))
 all_goals try go_wp2
 all_goals refine Di (p:=4) (u:=5) (by kernel_rfl) rfl rfl rfl ((q2.set 0 _).set 1 _) ⟨rfl,((Below.of_grew2 bb hb2 hb3 (by omega) (by omega)).setCell (by simp;omega) _).setCell (by simp;omega) _⟩
open Go.RowKit
theorem Va (z:Int) {n:Bool} {s:ByteArray} (h:zI z=.agg #[Iz n,I s]):qI (z:Rat)=(D8 n s ⟨#[1]⟩) :=
 Bbx (q:=(z:Rat)) (m:=1) ⟨rfl,rfl⟩ h Em.symm
open Go.RowKit
def nfZ (z:Int):Bool:=decide (z<0)
def sfZ (z:Int):ByteArray:=Bw z.natAbs
open Go.RowKit
theorem Rx:∃ (nf:Int→Bool) (sf:Int→ByteArray),(∀ z,zI z=.agg #[Iz (nf z),I (sf z)])∧(∀ z,Hc (nf z) (sf z))∧(∀ z k,Bd z k→(sf z).size≤k)∧(∀ z,Eg (nf z) (sf z)=z)∧(∀ z,Bc (sf z)=z.natAbs)∧(∀ m:Nat,nf (m:Int)=false)∧(∀ m:Nat,sf (m:Int)=Bw m)∧(∀ m:Nat,Bc (sf (m:Int))=m)∧(∀ m:Nat,zI (m:Int)=.agg #[Iz false,I (sf (m:Int))]):=by
 obtain ⟨nf,sf,h1,h2,h3,h4,-,h6,h7,h8⟩:=Bom
 have hn:∀ m:Nat,nf (m:Int)=false:=fun m=>by rw [h7];simp
 exact ⟨nf,sf,h1,h2,h3,h4,h6,hn,fun m=>by rw [h8];rfl,fun m=>by rw [h6];rfl,fun m=>by rw [h1,hn]⟩
theorem Bii {s:ByteArray} {k:Nat} (h:s.size≤k):Bd ((Bc s:Nat):Int) k:=Bnr (n:=false) h
theorem E9 (s:ByteArray):Eg false s=((Bc s:Nat):Int):=rfl
open Go.RowKit
theorem Tf (n0 n1:Bool) (s0 s1:ByteArray) (w:World) (o0:Hc n0 s0) (o1:Hc n1 s1) (z0:s0.size≤32000) (z1:s1.size≤32000) (hT:G9 w) (hne0:s0≠⟨#[1]⟩) (hne:s1≠⟨#[1]⟩) :
  Calls Tryz.prog 196 #[.agg #[Iz n0,I s0],.agg #[Iz n1,I s1]] w (Re w (zI ((Nat.gcd (Bc s0) (Bc s1):Nat):Int))):=by
 have HA:=Ba (fun w hT=>Biv n0 n1 s0 s1 w o0 o1 z0 z1 hT)
 generalize hR:zI ((Nat.gcd (Bc s0) (Bc s1):Nat):Int)=R at *
 obtain ⟨za,zb,rfl⟩:∃ a b,R=.agg #[Iz a,I b]:=⟨_,_,hR.symm⟩
 clear hR
 have hne0:=Ue hne0
 have hne:=Ue hne
 go_enter Tryz.func196,Tryz.ntmps196
 go_wp2_with fail
 go_fit (HA.out _ (hT.b (ba (ba (ba (Jg _ _) _) _) _)))
 rintro e w1 ⟨rfl,b1⟩
 obtain ⟨ka,kb,kr,b1⟩:=al3 b1
 have bb:=b1
 clear b1
 have cr_0:=C7 (kr.alloc (.cells #[Iz za,I zb] 24))
 have fr_1:=Bi.o (kr.alloc (.cells #[Iz za,I zb] 24)) 0
 have cr_2:=Oj (kr.alloc (.cells #[Iz za,I zb] 24))
 have fr_3:=Bi.o (kr.alloc (.cells #[Iz za,I zb] 24)) 1
 go_wp2
 have kr':=(kr.alloc (.cells #[Iz za,I zb] 24))
 exact Ei (p:=4) (by kernel_rfl) rfl rfl ((kr'.set 0 _).set 1 _) ⟨rfl,(Below.setCell (ba bb _) (by simp;omega) _).setCell (by simp;omega) _⟩
theorem Bet (n0 n1:Bool) (s1:ByteArray) (w:World) :
  Calls Tryz.prog 196 #[.agg #[Iz n0,I ⟨#[1]⟩],.agg #[Iz n1,I s1]] w (Re w (.agg #[Iz false,I ⟨#[1]⟩])):=by
 go_enter Tryz.func196,Tryz.ntmps196
 go_wp2
 obtain ⟨w0,hw,k0,k1,k2,b⟩:=mk3 w [Iz n0,I ⟨#[1]⟩] [Iz n1,I s1] [Iz false,I ⟨#[1]⟩] 24 24 24
 rw [← hw]
 exact Ei (p:=4) (by kernel_rfl) rfl rfl k2 ⟨rfl,b⟩
theorem Bes (n0 n1:Bool) (s0:ByteArray) (w:World) (hne:s0≠⟨#[1]⟩) :
  Calls Tryz.prog 196 #[.agg #[Iz n0,I s0],.agg #[Iz n1,I ⟨#[1]⟩]] w (Re w (.agg #[Iz false,I ⟨#[1]⟩])):=by
 have hne:=Ue hne
 go_enter Tryz.func196,Tryz.ntmps196
 go_wp2
 obtain ⟨w0,hw,k0,k1,k2,b⟩:=mk3 w [Iz n0,I s0] [Iz n1,I ⟨#[1]⟩] [Iz false,I ⟨#[1]⟩] 24 24 24
 rw [← hw]
 exact Ei (p:=4) (by kernel_rfl) rfl rfl k2 ⟨rfl,b⟩
theorem Sg (n0 n1:Bool) (s0 s1:ByteArray) (w:World) (o0:Hc n0 s0) (o1:Hc n1 s1) (z0:s0.size≤32000) (z1:s1.size≤32000) (hT:G9 w) :
  Calls Tryz.prog 196 #[.agg #[Iz n0,I s0],.agg #[Iz n1,I s1]] w (Re w (zI ((Nat.gcd (Bc s0) (Bc s1):Nat):Int))):=by
 by_cases h0:s0=⟨#[1]⟩
 ·subst h0
  rw [Ch,Nat.gcd_one_left,show (((1:Nat):Int))=1 from rfl,Bfb]
  exact Bet n0 n1 s1 w
 ·by_cases h1:s1=⟨#[1]⟩
  ·subst h1
   rw [Ch,Nat.gcd_one_right,show (((1:Nat):Int))=1 from rfl,Bfb]
   exact Bes n0 n1 s0 w h0
  ·exact Tf n0 n1 s0 s1 w o0 o1 z0 z1 hT h0 h1
theorem Be1 (n0:Bool) (s0 s1:ByteArray) (w:World) (o0:Hc n0 s0) (o1:OkS s1) (z0:s0.size≤16000) (z1:s1.size≤16000) (hp:0<Bc s1) (hne:s1≠⟨#[1]⟩) :
  Calls Tryz.prog 249 #[.agg #[Iz n0,I s0],.agg #[Iz false,I s1]] w (Re w (zI (Eg n0 s0 / (Bc s1:Int)))):=by
 have HA:=Ba (fun w=>Biw n0 false s0 s1 w o0 ⟨o1,fun h=>by cases h⟩ z0 z1 hp)
 rw [show Eg false s1=(Bc s1:Int) from rfl] at HA
 generalize hR:zI (Eg n0 s0 / (Bc s1:Int))=R at *
 obtain ⟨za,zb,rfl⟩:∃ a b,R=.agg #[Iz a,I b]:=⟨_,_,hR.symm⟩
 clear hR
 generalize hR:zI (Eg n0 s0 % (Bc s1:Int))=R at *
 obtain ⟨zc,zd,rfl⟩:∃ a b,R=.agg #[Iz a,I b]:=⟨_,_,hR.symm⟩
 clear hR
 have hne:=Ue hne
 go_enter Tryz.func249,Tryz.ntmps249
 go_wp2_with fail
 go_fit (HA.out _)
 rintro e w1 ⟨rfl,b1⟩
 obtain ⟨ka,kb,kr,b1⟩:=al3 b1
 have bb:=b1
 clear b1
 have cr_0:=C7 (kr.alloc (.cells #[Iz za,I zb] 24))
 have fr_1:=Bi.o (kr.alloc (.cells #[Iz za,I zb] 24)) 0
 have cr_2:=Oj (kr.alloc (.cells #[Iz za,I zb] 24))
 have fr_3:=Bi.o (kr.alloc (.cells #[Iz za,I zb] 24)) 1
 have cr_4:=C7 ((kr.alloc (.cells #[Iz za,I zb] 24)).alloc (.cells #[Iz zc,I zd] 24))
 have fr_5:=Bi.o ((kr.alloc (.cells #[Iz za,I zb] 24)).alloc (.cells #[Iz zc,I zd] 24)) 0
 have cr_6:=Oj ((kr.alloc (.cells #[Iz za,I zb] 24)).alloc (.cells #[Iz zc,I zd] 24))
 have fr_7:=Bi.o ((kr.alloc (.cells #[Iz za,I zb] 24)).alloc (.cells #[Iz zc,I zd] 24)) 1
 go_wp2
 have kr':=((kr.alloc (.cells #[Iz za,I zb] 24)).alloc (.cells #[Iz zc,I zd] 24))
 exact Ei (p:=4) (by kernel_rfl) rfl rfl ((kr'.set 0 _).set 1 _) ⟨rfl,(Below.setCell (ba (ba bb _) _) (by simp;omega) _).setCell (by simp;omega) _⟩
theorem Bk3 (n0:Bool) (s0:ByteArray) (w:World) :
  Calls Tryz.prog 249 #[.agg #[Iz n0,I s0],.agg #[Iz false,I ⟨#[1]⟩]] w (Re w (.agg #[Iz n0,I s0])):=by
 go_enter Tryz.func249,Tryz.ntmps249
 go_wp2
 obtain ⟨w0,hw,k0,k1,k2,b⟩:=mk3 w [Iz n0,I s0] [Iz false,I ⟨#[1]⟩] [Iz n0,I s0] 24 24 24
 rw [← hw]
 exact Ei (p:=4) (by kernel_rfl) rfl rfl k2 ⟨rfl,b⟩
theorem Ba2 (n0:Bool) (s0 s1:ByteArray) (w:World) (o0:Hc n0 s0) (o1:OkS s1) (z0:s0.size≤16000) (z1:s1.size≤16000) (hp:0<Bc s1) :
  Calls Tryz.prog 249 #[.agg #[Iz n0,I s0],.agg #[Iz false,I s1]] w (Re w (zI (Eg n0 s0 / (Bc s1:Int)))):=by
 by_cases h:s1=⟨#[1]⟩
 ·subst h
  rw [Ch,show (((1:Nat):Int))=1 from rfl,Int.ediv_one,← Bbc o0]
  exact Bk3 n0 s0 w
 ·exact Be1 n0 s0 s1 w o0 o1 z0 z1 hp h
open Go.RowKit
theorem Y8 (B:Nat) (s d:ByteArray) (w:World) (hB:Bi w B [I s,I d] 22) (hs:s.size≤8000) (hd:d.size≤8000) :
  Calls Tryz.prog 194 #[.slice (some ⟨B,0,none⟩) 2 2] w (Re w (Iz false)):=by
 have i0:¬ (8000:Int)<s.size:=by omega
 have i1:¬ (8000:Int)<d.size:=by omega
 obtain ⟨c0,c1⟩:=Dc hB
 go_enter Tryz.func194,Tryz.ntmps194
 go_wp2
 go_loopw [7] (fun i wr=>wr=w∧(i=.int .i64 0∨i=.int .i64 1∨i=.int .i64 2)) (fun i _=>2 - (intOf i).toNat)
 case atStart=>exact ⟨rfl,Or.inl rfl⟩
 case round =>
  obtain ⟨rfl,rfl | rfl | rfl⟩:=hrel
  ·go_wp2
   exact ⟨⟨trivial,Or.inr (Or.inl (by go_num))⟩,by simp [intOf]⟩
  ·go_wp2
   exact ⟨⟨trivial,Or.inr (Or.inr (by go_num))⟩,by simp [intOf]⟩
  ·go_wp2
   go_ret
   exact ⟨rfl,Jg _ _⟩
theorem Bdc (B:Nat) (s d:ByteArray) (w:World) (hB:Bi w B [I s,I d] 22) (hs:8000<s.size) :
  Calls Tryz.prog 194 #[.slice (some ⟨B,0,none⟩) 2 2] w (Re w (Iz true)):=by
 have i0:(8000:Int)<s.size:=by omega
 obtain ⟨c0,c1⟩:=Dc hB
 go_enter Tryz.func194,Tryz.ntmps194
 go_wp2
 go_loopw [7] (fun i wr=>wr=w∧i=.int .i64 0) (fun i _=>2 - (intOf i).toNat)
 case atStart=>exact ⟨rfl,rfl⟩
 case round =>
  obtain ⟨rfl,rfl⟩:=hrel
  go_wp2
  go_ret
  exact ⟨rfl,Jg _ _⟩
theorem Bdb (B:Nat) (s d:ByteArray) (w:World) (hB:Bi w B [I s,I d] 22) (hs:s.size≤8000) (hd:8000<d.size) :
  Calls Tryz.prog 194 #[.slice (some ⟨B,0,none⟩) 2 2] w (Re w (Iz true)):=by
 have i0:¬ (8000:Int)<s.size:=by omega
 have i1:(8000:Int)<d.size:=by omega
 obtain ⟨c0,c1⟩:=Dc hB
 go_enter Tryz.func194,Tryz.ntmps194
 go_wp2
 go_loopw [7] (fun i wr=>wr=w∧(i=.int .i64 0∨i=.int .i64 1)) (fun i _=>2 - (intOf i).toNat)
 case atStart=>exact ⟨rfl,Or.inl rfl⟩
 case round =>
  obtain ⟨rfl,rfl | rfl⟩:=hrel
  ·go_wp2
   exact ⟨⟨trivial,Or.inr (by go_num)⟩,by simp [intOf]⟩
  ·go_wp2
   go_ret
   exact ⟨rfl,Jg _ _⟩
theorem Pi (s d:ByteArray):∃ t:Bool,(t=true↔8000<s.size∨8000<d.size)∧∀ (B:Nat) (w:World) (_:Bi w B [I s,I d] 22),
  Calls Tryz.prog 194 #[.slice (some ⟨B,0,none⟩) 2 2] w (Re w (Iz t)):=by
 by_cases hs:8000<s.size
 ·exact ⟨true,⟨fun _=>Or.inl hs,fun _=>rfl⟩,fun B w hB=>Bdc B s d w hB hs⟩
 ·by_cases hd:8000<d.size
  ·exact ⟨true,⟨fun _=>Or.inr hd,fun _=>rfl⟩,fun B w hB=>Bdb B s d w hB (by omega) hd⟩
  ·exact ⟨false,⟨fun h=>(by cases h),fun h=>(by omega)⟩,fun B w hB=>Y8 B s d w hB (by omega) (by omega)⟩
open Go.RowKit
def Fq (w:World) (g:Nat) (t:TypeId) (n:Nat) (f:Nat→Value):Prop:=∃ cs:Array Value,w.heap[g]?=some (.cells cs t (0,0))∧cs.size=n∧∀ i,i<n→cs[i]?=some (f i)
theorem Fq.cell {w:World} {g n:Nat} {t:TypeId} {f:Nat→Value} (h:Fq w g t n f) {i:Nat} (hi:i<n):w.cell? ⟨g,i,none⟩=some (f i):=by
 obtain ⟨cs,h1,h2,h3⟩:=h
 simp [World.cell?,h1,h3 i hi]
theorem Fq.o {w:World} {g n:Nat} {t:TypeId} {f:Nat→Value} (h:Fq w g t n f) (i:Nat):w.frozen? ⟨g,i,none⟩=false:=by
 obtain ⟨cs,h1,h2,h3⟩:=h
 simp [World.frozen?,h1]
theorem Fq.lt {w:World} {g n:Nat} {t:TypeId} {f:Nat→Value} (h:Fq w g t n f):g<w.heap.size:=by
 obtain ⟨cs,h1,-⟩:=h
 by_cases hg:g<w.heap.size
 ·exact hg
 ·rw [Array.getElem?_eq_none (by omega)] at h1;cases h1
theorem Fq.b {w w':World} {g n:Nat} {t:TypeId} {f:Nat→Value} (h:Fq w g t n f) (hb:Below w.heap.size w w'):Fq w' g t n f:=by
 have hl:=h.lt
 obtain ⟨cs,h1,h2,h3⟩:=h
 exact ⟨cs,by rw [hb.block g hl];exact h1,h2,h3⟩
theorem Fq.set {w:World} {g n:Nat} {t:TypeId} {f:Nat→Value} (h:Fq w g t n f) (j:Nat) (v:Value):Fq (w.setCell ⟨g,j,none⟩ v) g t n (fun i=>if i=j then v else f i):=by
 obtain ⟨cs,h1,h2,h3⟩:=h
 refine ⟨cs.setIfInBounds j v,by simp [World.setCell,Array.getElem?_modify,h1],by simp [h2],fun i hi=>?_⟩
 show _=some (if i=j then v else f i)
 by_cases e:i=j
 ·subst e
  rw [if_pos rfl]
  simp [h2,hi]
 ·rw [if_neg e,Array.getElem?_setIfInBounds_ne (fun q=>e q.symm)]
  exact h3 i hi
theorem Fq.congr {w:World} {g n:Nat} {t:TypeId} {f f':Nat→Value} (h:Fq w g t n f) (he:∀ i,i<n→f i=f' i):Fq w g t n f':=by
 obtain ⟨cs,h1,h2,h3⟩:=h
 exact ⟨cs,h1,h2,fun i hi=>by rw [← he i hi];exact h3 i hi⟩
def fz (z:Nat→Int) (i:Nat):Value:=if i % 2=0 then Iz (nfZ (z (i / 2))) else I (sfZ (z (i / 2)))
open Go.RowKit
theorem Ben (n:Bool) (s:ByteArray) (w:World):(Instr.field 24 (.agg #[Iz n,I s]) 1).run Tryz.prog w=.ok (I s) w:=by kernel_rfl
theorem Bdv (n:Bool) (s d:ByteArray) (w:World)
  (HL:Hid (∀ (B:Nat) (w:World) (_:Bi w B [I s,I d] 22),Calls Tryz.prog 194 #[.slice (some ⟨B,0,none⟩) 2 2] w (Re w (Iz true)))) :
  Calls Tryz.prog 163 #[(D8 n s d)] w (Re w (.int .i64 5)):=by
 go_enter Tryz.func163,Tryz.ntmps163
 go_wp2_with fail
 obtain ⟨w0,hw,k0,k1,bb⟩:=Yu w (D6 n s d) [I s,I d] 26 22
 rw [← hw]
 clear hw
 go_fit (HL.out _ w0 k1)
 rintro e w1 ⟨rfl,b1⟩
 replace k0:=k0.b b1
 replace bb:=Ia bb b1
 clear b1 k1
 go_wp2
 go_ret
 exact ⟨rfl,bb⟩
theorem Bgg (n:Bool) (s d:ByteArray) (w:World) (c:Int) (hc:¬ c=0)
  (HL:Hid (∀ (B:Nat) (w:World) (_:Bi w B [I s,I d] 22),Calls Tryz.prog 194 #[.slice (some ⟨B,0,none⟩) 2 2] w (Re w (Iz false))))
  (HC:Hid (∀ w1,Calls Tryz.prog 195 #[.agg #[Iz n,I s]] w1 (Re w1 (.int .i64 c)))) :
  Calls Tryz.prog 163 #[(D8 n s d)] w (Re w (.int .i64 c)):=by
 go_enter Tryz.func163,Tryz.ntmps163
 go_wp2_with fail
 obtain ⟨w0,hw,k0,k1,bb⟩:=Yu w (D6 n s d) [I s,I d] 26 22
 rw [← hw]
 clear hw
 go_fit (HL.out _ w0 k1)
 rintro e w1 ⟨rfl,b1⟩
 replace k0:=k0.b b1
 replace bb:=Ia bb b1
 clear b1 k1
 obtain ⟨c0,c1,c2⟩:=Hw k0
 go_wp2_with fail
 go_fit (HC.out _)
 rintro e w2 ⟨rfl,b1⟩
 replace k0:=k0.b b1
 replace bb:=Ia bb b1
 clear b1 c0 c1 c2
 go_wp2
 go_ret
 exact ⟨rfl,bb⟩
theorem Bjk (n zn:Bool) (s d zs:ByteArray) (w:World) (hd:0<d.size) (hd0:¬ lm (Bj d) 0=0)
  (HL:Hid (∀ (B:Nat) (w:World) (_:Bi w B [I s,I d] 22),Calls Tryz.prog 194 #[.slice (some ⟨B,0,none⟩) 2 2] w (Re w (Iz false))))
  (HC:Hid (∀ w1,Calls Tryz.prog 195 #[.agg #[Iz n,I s]] w1 (Re w1 (.int .i64 0))))
  (HV:Hid (∀ w1,Below w.heap.size w w1→Calls Tryz.prog 196 #[.agg #[Iz n,I s],.agg #[Iz false,I d]] w1 (Re w1 (.agg #[Iz zn,I zs]))))
  (hz:(zs.toList == [1])=true) :
  Calls Tryz.prog 163 #[(D8 n s d)] w (Re w (.int .i64 0)):=by
 have g1:¬ ((d[0]).toNat:Int)=0:=by rw [Ck d 0 hd];omega
 have g2:¬ d[0]=0:=fun h=>g1 (by rw [h];rfl)
 have g4:=Dv hd
 have g5:d.toList.isEmpty=false:=by simpa using g4
 have g6:(0:Int)<d.size:=by omega
 clear hd0
 have g7:(((d[0]).toNat:Int) == 0)=false:=by simpa using g1
 have gf:=Ben zn zs
 go_enter Tryz.func163,Tryz.ntmps163
 go_wp2_with fail
 obtain ⟨w0,hw,k0,k1,bb⟩:=Yu w (D6 n s d) [I s,I d] 26 22
 rw [← hw]
 clear hw
 go_fit (HL.out _ w0 k1)
 rintro e w1 ⟨rfl,b1⟩
 replace k0:=k0.b b1
 replace bb:=Ia bb b1
 clear b1 k1
 obtain ⟨c0,c1,c2⟩:=Hw k0
 go_wp2_with fail
 go_fit (HC.out _)
 rintro e w2 ⟨rfl,b1⟩
 replace k0:=k0.b b1
 replace bb:=Ia bb b1
 clear b1 c0 c1 c2
 go_wp2
 refine Jc (S:=(fun w'=>xc3 w' w.heap.size (Iz n) (I s) (I d))) (by kernel_rfl) ?_ (fun hHeld=>?_)
 ·exact (Hw k0)
 refine tq 0 rfl ?_
 refine tq 1 rfl ?_
 refine tq 2 rfl ?_
 refine tq 3 rfl ?_
 refine tq 4 rfl ?_
 refine tq 5 rfl ?_
 refine tq 6 rfl ?_
 refine tq 7 rfl ?_
 refine tq 8 rfl ?_
 refine tq 9 rfl ?_
 refine tq 10 rfl ?_
 refine tq 11 rfl ?_
 refine tq 12 rfl ?_
 refine wpAnyH_ready (rs:=[13]) (by kernel_rfl) (by simp) ?_
 refine AllReadyH.cons (o:=_) rfl (fun K hK=>?_) AllReadyH.nil
 go_simp
 go_fit (Qn _ _ _ _)
 rintro e wn ⟨rfl,bn⟩
 replace k0:=k0.b (un bn)
 replace bb:=Ia bb (un bn)
 clear bn
 try go_wp2_with fail
 refine hK.out _ _ ?_ (fun hHeld=>?_)
 ·exact (Hw k0)
 clear hK K
 try simp only [ly]
 refine wpAnyH_ready (rs:=[14]) (by kernel_rfl) (by simp) ?_
 refine AllReadyH.cons (o:=_) rfl (fun K hK=>?_) AllReadyH.nil
 go_simp
 go_fit (HV.out _ ?_)
 ·first | exact bb | exact bb.drew
 rintro e wn ⟨rfl,bn⟩
 replace k0:=k0.b (un bn)
 replace bb:=Ia bb (un bn)
 clear bn
 try go_wp2_with fail
 refine hK.out _ _ ?_ (fun hHeld=>?_)
 ·exact (Hw k0)
 clear hK K
 try simp only [ly]
 refine tq 15 rfl ?_
 refine tq 16 rfl ?_
 refine tq 17 rfl ?_
 refine wpAnyH_done (by kernel_rfl) ?_ _
 go_wp2
 go_ret
 exact ⟨rfl,bb⟩
theorem Bgh (n zn:Bool) (s d zs:ByteArray) (w:World) (hd:0<d.size) (hd0:¬ lm (Bj d) 0=0)
  (HL:Hid (∀ (B:Nat) (w:World) (_:Bi w B [I s,I d] 22),Calls Tryz.prog 194 #[.slice (some ⟨B,0,none⟩) 2 2] w (Re w (Iz false))))
  (HC:Hid (∀ w1,Calls Tryz.prog 195 #[.agg #[Iz n,I s]] w1 (Re w1 (.int .i64 0))))
  (HV:Hid (∀ w1,Below w.heap.size w w1→Calls Tryz.prog 196 #[.agg #[Iz n,I s],.agg #[Iz false,I d]] w1 (Re w1 (.agg #[Iz zn,I zs]))))
  (hz:(zs.toList == [1])=false) :
  Calls Tryz.prog 163 #[(D8 n s d)] w (Re w (.int .i64 1)):=by
 have g1:¬ ((d[0]).toNat:Int)=0:=by rw [Ck d 0 hd];omega
 have g2:¬ d[0]=0:=fun h=>g1 (by rw [h];rfl)
 have g4:=Dv hd
 have g5:d.toList.isEmpty=false:=by simpa using g4
 have g6:(0:Int)<d.size:=by omega
 clear hd0
 have g7:(((d[0]).toNat:Int) == 0)=false:=by simpa using g1
 have gf:=Ben zn zs
 go_enter Tryz.func163,Tryz.ntmps163
 go_wp2_with fail
 obtain ⟨w0,hw,k0,k1,bb⟩:=Yu w (D6 n s d) [I s,I d] 26 22
 rw [← hw]
 clear hw
 go_fit (HL.out _ w0 k1)
 rintro e w1 ⟨rfl,b1⟩
 replace k0:=k0.b b1
 replace bb:=Ia bb b1
 clear b1 k1
 obtain ⟨c0,c1,c2⟩:=Hw k0
 go_wp2_with fail
 go_fit (HC.out _)
 rintro e w2 ⟨rfl,b1⟩
 replace k0:=k0.b b1
 replace bb:=Ia bb b1
 clear b1 c0 c1 c2
 go_wp2
 refine Jc (S:=(fun w'=>xc3 w' w.heap.size (Iz n) (I s) (I d))) (by kernel_rfl) ?_ (fun hHeld=>?_)
 ·exact (Hw k0)
 refine tq 0 rfl ?_
 refine tq 1 rfl ?_
 refine tq 2 rfl ?_
 refine tq 3 rfl ?_
 refine tq 4 rfl ?_
 refine tq 5 rfl ?_
 refine tq 6 rfl ?_
 refine tq 7 rfl ?_
 refine tq 8 rfl ?_
 refine tq 9 rfl ?_
 refine tq 10 rfl ?_
 refine tq 11 rfl ?_
 refine tq 12 rfl ?_
 refine wpAnyH_ready (rs:=[13]) (by kernel_rfl) (by simp) ?_
 refine AllReadyH.cons (o:=_) rfl (fun K hK=>?_) AllReadyH.nil
 go_simp
 go_fit (Qn _ _ _ _)
 rintro e wn ⟨rfl,bn⟩
 replace k0:=k0.b (un bn)
 replace bb:=Ia bb (un bn)
 clear bn
 try go_wp2_with fail
 refine hK.out _ _ ?_ (fun hHeld=>?_)
 ·exact (Hw k0)
 clear hK K
 try simp only [ly]
 refine wpAnyH_ready (rs:=[14]) (by kernel_rfl) (by simp) ?_
 refine AllReadyH.cons (o:=_) rfl (fun K hK=>?_) AllReadyH.nil
 go_simp
 go_fit (HV.out _ ?_)
 ·first | exact bb | exact bb.drew
 rintro e wn ⟨rfl,bn⟩
 replace k0:=k0.b (un bn)
 replace bb:=Ia bb (un bn)
 clear bn
 try go_wp2_with fail
 refine hK.out _ _ ?_ (fun hHeld=>?_)
 ·exact (Hw k0)
 clear hK K
 try simp only [ly]
 refine tq 15 rfl ?_
 refine tq 16 rfl ?_
 refine tq 17 rfl ?_
 refine wpAnyH_done (by kernel_rfl) ?_ _
 go_wp2
 go_ret
 exact ⟨rfl,bb⟩
theorem Z4 (n:Bool) (s:ByteArray) (w:World)
  (HL:Hid (∀ (B:Nat) (w:World) (_:Bi w B [I s,I ByteArray.empty] 22),Calls Tryz.prog 194 #[.slice (some ⟨B,0,none⟩) 2 2] w (Re w (Iz false))))
  (HC:Hid (∀ w1,Calls Tryz.prog 195 #[.agg #[Iz n,I s]] w1 (Re w1 (.int .i64 0)))) :
  Calls Tryz.prog 163 #[(D8 n s ByteArray.empty)] w (Re w (.int .i64 1)):=by
 go_enter Tryz.func163,Tryz.ntmps163
 go_wp2_with fail
 obtain ⟨w0,hw,k0,k1,bb⟩:=Yu w (D6 n s ByteArray.empty) [I s,I ByteArray.empty] 26 22
 rw [← hw]
 clear hw
 go_fit (HL.out _ w0 k1)
 rintro e w1 ⟨rfl,b1⟩
 replace k0:=k0.b b1
 replace bb:=Ia bb b1
 clear b1 k1
 obtain ⟨c0,c1,c2⟩:=Hw k0
 go_wp2_with fail
 go_fit (HC.out _)
 rintro e w2 ⟨rfl,b1⟩
 replace k0:=k0.b b1
 replace bb:=Ia bb b1
 clear b1 c0 c1 c2
 go_wp2
 refine Jc (S:=(fun w'=>xc3 w' w.heap.size (Iz n) (I s) (I ByteArray.empty))) (by kernel_rfl) ?_ (fun hHeld=>?_)
 ·exact (Hw k0)
 refine tq 0 rfl ?_
 refine tq 1 rfl ?_
 refine tq 2 rfl ?_
 refine tq 3 rfl ?_
 refine tu 4 rfl ?_
 refine tu 5 rfl ?_
 refine tu 6 rfl ?_
 refine tu 7 rfl ?_
 refine tq 8 rfl ?_
 refine tq 9 rfl ?_
 refine tu 10 rfl ?_
 refine tu 11 rfl ?_
 refine tu 12 rfl ?_
 refine tu 13 rfl ?_
 refine tu 14 rfl ?_
 refine tu 15 rfl ?_
 refine tu 16 rfl ?_
 refine tq 17 rfl ?_
 refine wpAnyH_done (by kernel_rfl) ?_ _
 go_wp2
 go_ret
 exact ⟨rfl,bb.drew⟩
theorem Bdu (n:Bool) (s d:ByteArray) (w:World) (hd:0<d.size) (hd0:lm (Bj d) 0=0)
  (HL:Hid (∀ (B:Nat) (w:World) (_:Bi w B [I s,I d] 22),Calls Tryz.prog 194 #[.slice (some ⟨B,0,none⟩) 2 2] w (Re w (Iz false))))
  (HC:Hid (∀ w1,Calls Tryz.prog 195 #[.agg #[Iz n,I s]] w1 (Re w1 (.int .i64 0)))) :
  Calls Tryz.prog 163 #[(D8 n s d)] w (Re w (.int .i64 1)):=by
 have g1:((d[0]).toNat:Int)=0:=by rw [Ck d 0 hd,hd0];rfl
 have g3:(d[0]).toNat=0:=by omega
 have g2:d[0]=0:=UInt8.toNat.inj g3
 have g4:=Dv hd
 have g5:d.toList.isEmpty=false:=by simpa using g4
 have g6:(0:Int)<d.size:=by omega
 clear hd0
 have g7:(((d[0]).toNat:Int) == 0)=true:=by simpa using g1
 go_enter Tryz.func163,Tryz.ntmps163
 go_wp2_with fail
 obtain ⟨w0,hw,k0,k1,bb⟩:=Yu w (D6 n s d) [I s,I d] 26 22
 rw [← hw]
 clear hw
 go_fit (HL.out _ w0 k1)
 rintro e w1 ⟨rfl,b1⟩
 replace k0:=k0.b b1
 replace bb:=Ia bb b1
 clear b1 k1
 obtain ⟨c0,c1,c2⟩:=Hw k0
 go_wp2_with fail
 go_fit (HC.out _)
 rintro e w2 ⟨rfl,b1⟩
 replace k0:=k0.b b1
 replace bb:=Ia bb b1
 clear b1 c0 c1 c2
 go_wp2
 refine Jc (S:=(fun w'=>xc3 w' w.heap.size (Iz n) (I s) (I d))) (by kernel_rfl) ?_ (fun hHeld=>?_)
 ·exact (Hw k0)
 refine tq 0 rfl ?_
 refine tq 1 rfl ?_
 refine tq 2 rfl ?_
 refine tq 3 rfl ?_
 refine tq 4 rfl ?_
 refine tq 5 rfl ?_
 refine tq 6 rfl ?_
 refine tq 7 rfl ?_
 refine tq 8 rfl ?_
 refine tq 9 rfl ?_
 refine tu 10 rfl ?_
 refine tu 11 rfl ?_
 refine tu 12 rfl ?_
 refine tu 13 rfl ?_
 refine tu 14 rfl ?_
 refine tu 15 rfl ?_
 refine tu 16 rfl ?_
 refine tq 17 rfl ?_
 refine wpAnyH_done (by kernel_rfl) ?_ _
 go_wp2
 go_ret
 exact ⟨rfl,bb.drew⟩
theorem Nr (n:Bool) (s d:ByteArray) (w:World) (hT:G9 w) :
  Calls Tryz.prog 163 #[(D8 n s d)] w (Re w (.int .i64 (Ed n s d:Nat))):=by
 obtain ⟨t,ht,hL⟩:=Pi s d
 by_cases hl:8000<s.size∨8000<d.size
 ·obtain rfl:=ht.2 hl
  rw [show Ed n s d=5 by unfold Ed;rw [if_pos hl]]
  exact Bdv n s d w (Ba hL)
 ·obtain rfl:t=false:=by
   cases t with
   | false=>rfl
   | true=>exact absurd (ht.1 rfl) hl
  have hs:s.size≤8000:=by omega
  have hdl:d.size≤8000:=by omega
  by_cases hc:Oi n s=0
  ·have HC:Hid (∀ w1,Calls Tryz.prog 195 #[.agg #[Iz n,I s]] w1 (Re w1 (.int .i64 0))):=by
    intro w1
    have:=Ep n s w1
    rw [hc] at this
    exact this
   have o:=(G8 (by omega)).1 hc
   by_cases hd:0<d.size
   ·by_cases h0:lm (Bj d) 0=0
    ·rw [show Ed n s d=1 by unfold Ed;rw [if_neg hl,if_pos (Or.inr (Or.inr (Or.inl h0)))]]
     exact Bdu n s d w hd h0 (Ba hL) HC
    ·have od:OkS d:=fun _=>h0
     have HV:Hid (∀ w1,Below w.heap.size w w1→Calls Tryz.prog 196 #[.agg #[Iz n,I s],.agg #[Iz false,I d]] w1 (Re w1 (zI ((Nat.gcd (Bc s) (Bc d):Nat):Int)))) :=
      fun w1 b=>Sg n false s d w1 o ⟨od,fun h=>by cases h⟩ (by omega) (by omega) (hT.b b)
     have e:zI ((Nat.gcd (Bc s) (Bc d):Nat):Int)=.agg #[Iz false,I (Bw (Nat.gcd (Bc s) (Bc d)))]:=by
      show zV _ _=_
      rw [Int.natAbs_natCast,show decide ((((Nat.gcd (Bc s) (Bc d):Nat)):Int)<0)=false by simp]
      rfl
     rw [e] at HV
     by_cases hg:Nat.gcd (Bc s) (Bc d)=1
     ·rw [Vw ⟨o,od,Dw od hd,hg⟩ hs hdl]
      exact Bjk n _ s d _ w hd h0 (Ba hL) HC HV (eq1 (by rw [hg,Em]))
     ·rw [show Ed n s d=1 by unfold Ed;rw [if_neg hl,if_pos (Or.inr (Or.inr (Or.inr hg)))]]
      exact Bgh n _ s d _ w hd h0 (Ba hL) HC HV (Ue fun h=>hg (by
       have:=Cx (Nat.gcd (Bc s) (Bc d))
       rw [h,Ch] at this
       exact this.symm))
   ·have g3:d=ByteArray.empty:=ByteArray.size_eq_zero_iff.1 (by omega)
    subst g3
    rw [show Ed n s ByteArray.empty=1 by unfold Ed;rw [if_neg hl,if_pos (Or.inr (Or.inl (show ByteArray.empty.size=0 from rfl)))]]
    exact Z4 n s w (Ba hL) HC
  ·have h1:Oi n s=1:=by
    unfold Oi at hc ⊢
    rw [if_neg (by omega)] at hc ⊢
    split at hc
    ·rw [if_pos (by assumption)]
    ·exact absurd rfl hc
   have HC:Hid (∀ w1,Calls Tryz.prog 195 #[.agg #[Iz n,I s]] w1 (Re w1 (.int .i64 1))):=by
    intro w1
    have:=Ep n s w1
    rw [h1] at this
    exact this
   rw [show Ed n s d=1 by unfold Ed;rw [if_neg hl,if_pos (Or.inl hc)]]
   exact Bgg n s d w 1 (by omega) (Ba hL) HC
open Go.RowKit
theorem Bd5 (n0 n1 gN pN qN:Bool) (s0 s1 gS pS qS:ByteArray) (w:World) (h1:s1.toList.isEmpty=false) (h0:s0.toList.isEmpty=false)
  (HL:Hid (∀ (B:Nat) (w:World) (_:Bi w B [I s0,I s1] 22),Calls Tryz.prog 194 #[.slice (some ⟨B,0,none⟩) 2 2] w (Re w (Iz false))))
  (C0:Hid (∀ w1,Calls Tryz.prog 195 #[.agg #[Iz n0,I s0]] w1 (Re w1 (.int .i64 0))))
  (C1:Hid (∀ w1,Calls Tryz.prog 195 #[.agg #[Iz n1,I s1]] w1 (Re w1 (.int .i64 0))))
  (H1:Hid (∀ w1,Below w.heap.size w w1→Calls Tryz.prog 196 #[.agg #[Iz n0,I s0],.agg #[Iz n1,I s1]] w1 (Re w1 (.agg #[Iz gN,I gS]))))
  (H2:Hid (∀ w1,Calls Tryz.prog 249 #[.agg #[Iz (!(n0 == n1)),I s0],.agg #[Iz gN,I gS]] w1 (Re w1 (.agg #[Iz pN,I pS]))))
  (H3:Hid (∀ w1,Calls Tryz.prog 249 #[.agg #[Iz false,I s1],.agg #[Iz gN,I gS]] w1 (Re w1 (.agg #[Iz qN,I qS])))) :
  Calls Tryz.prog 217 #[.agg #[Iz n0,I s0],.agg #[Iz n1,I s1]] w (Re w (.tuple #[(D8 pN pS qS),.int .i64 0])):=by
 go_enter Tryz.func217,Tryz.ntmps217
 go_wp2_with fail
 obtain ⟨w1,hw,ka,kb,kr,kl,b1⟩:=mk4 w [Iz n0,I s0] [Iz n1,I s1] (D6 false eB eB) [I s0,I s1] 24 24 26 22
 rw [← hw]
 clear hw
 have sz:=b1.size
 have ta:=ka.lt
 have tb:=kb.lt
 have tr:=kr.lt
 have tl:=kl.lt
 have bb:=b1
 clear b1
 go_fit (HL.out _ _ kl)
 rintro e w2 ⟨rfl,b1⟩
 have sz:=b1.size
 replace ka:=ka.b b1
 replace kb:=kb.b b1
 replace kr:=kr.b b1
 replace kl:=kl.b b1
 replace bb:=Ia bb b1
 clear b1
 clear kl
 obtain ⟨ca_0,ca_1⟩:=Dc ka
 obtain ⟨cb_2,cb_3⟩:=Dc kb
 go_wp2
 clear ca_0 ca_1 cb_2 cb_3
 go_loopw [21] (fun i wr=>(Below w.heap.size w wr∧Bi wr w2.heap.size [Iz n0,I s0,Iz n1,I s1] 24∧Bi wr w.heap.size [Iz n0,I s0] 24∧Bi wr (w.heap.size+1) [Iz n1,I s1] 24∧Bi wr (w.heap.size+1+1) (D6 false eB eB) 26)∧(i=.int .i64 0∨i=.int .i64 1∨i=.int .i64 2)) (fun i _=>2 - (intOf i).toNat)
 case atStart=>exact ⟨⟨ba bb _,Bi.new w2 _ _,ka.alloc _,kb.alloc _,kr.alloc _⟩,Or.inl rfl⟩
 case round =>
  clear bb ka kb kr
  obtain ⟨⟨bb,kl,ka,kb,kr⟩,hi⟩:=hrel
  have c0:=kl.cell 0
  have c1:=kl.cell 1
  have c2:=kl.cell 2
  have c3:=kl.cell 3
  simp only [Jn,Jm] at c0 c1 c2 c3
  rcases hi with rfl | rfl | rfl
  ·go_wp2_with fail
   go_fit (C0.out _)
   rintro e wn ⟨rfl,b1⟩
   obtain ⟨-,b1⟩:=Hv b1
   clear c0 c1 c2 c3
   replace kl:=kl.b b1
   replace ka:=ka.b b1
   replace kb:=kb.b b1
   replace kr:=kr.b b1
   replace bb:=Ia bb b1
   clear b1
   go_wp2
   exact ⟨⟨⟨bb,kl,ka,kb,kr⟩,Or.inr (Or.inl (by go_num))⟩,by simp [intOf]⟩
  ·go_wp2_with fail
   go_fit (C1.out _)
   rintro e wn ⟨rfl,b1⟩
   obtain ⟨-,b1⟩:=Hv b1
   clear c0 c1 c2 c3
   replace kl:=kl.b b1
   replace ka:=ka.b b1
   replace kb:=kb.b b1
   replace kr:=kr.b b1
   replace bb:=Ia bb b1
   clear b1
   go_wp2
   exact ⟨⟨⟨bb,kl,ka,kb,kr⟩,Or.inr (Or.inr (by go_num))⟩,by simp [intOf]⟩
  ·clear c0 c1 c2 c3
   obtain ⟨ca_0,ca_1⟩:=Dc ka
   obtain ⟨cb_2,cb_3⟩:=Dc kb
   go_wp2_with fail
   clear ca_0 ca_1 cb_2 cb_3
   go_fit (H1.out _ bb)
   rintro e w3 ⟨rfl,b1⟩
   have sz:=b1.size
   replace kl:=kl.b b1
   replace ka:=ka.b b1
   replace kb:=kb.b b1
   replace kr:=kr.b b1
   replace bb:=Ia bb b1
   clear b1
   have szz:=bb.size
   have tr:=kr.lt
   have tb:=kb.lt
   have kg:=Bi.new w3 [Iz gN,I gS] 24
   replace ka:=ka.alloc (.cells #[Iz gN,I gS] 24)
   replace kb:=kb.alloc (.cells #[Iz gN,I gS] 24)
   replace kr:=kr.alloc (.cells #[Iz gN,I gS] 24)
   replace kl:=kl.alloc (.cells #[Iz gN,I gS] 24)
   replace bb:=ba bb (.cells #[Iz gN,I gS] 24)
   obtain ⟨e0,e1⟩:=Dc ka
   obtain ⟨e2,e3⟩:=Dc kb
   have f0:=ka.o 0
   have kb1:=Bi.t (g':=w.heap.size) kb (by omega) 0 (Iz (!(n0 == n1)))
   obtain ⟨e4,e5⟩:=Dc kb1
   have f1:=kb1.o 0
   go_wp2_with fail
   clear e0 e1 e2 e3 e4 e5 f0 f1
   obtain ⟨w4,hw⟩:∃ x,x=((w3.alloc (.cells #[Iz gN,I gS] 24)).setCell ⟨w.heap.size,0,none⟩ (Iz (!(n0 == n1)))).setCell ⟨w.heap.size+1,0,none⟩ (Iz false):=⟨_,rfl⟩
   rw [← hw]
   replace ka:=Bi.t (g':=w.heap.size+1) (ka.set 0 (Iz (!(n0 == n1)))) (by omega) 0 (Iz false)
   replace kb:=kb1.set 0 (Iz false)
   replace kr:=Bi.t (g':=w.heap.size+1) (Bi.t (g':=w.heap.size) kr (by omega) 0 (Iz (!(n0 == n1)))) (by omega) 0 (Iz false)
   replace kg:=Bi.t (g':=w.heap.size+1) (Bi.t (g':=w.heap.size) kg (by omega) 0 (Iz (!(n0 == n1)))) (by omega) 0 (Iz false)
   replace bb:=Cr (g:=w.heap.size+1) (Cr (g:=w.heap.size) bb (by omega) 0 (Iz (!(n0 == n1)))) (by omega) 0 (Iz false)
   rw [← hw] at ka kb kr kg bb
   clear hw kb1 kl
   have tq:=kr.lt
   have qa:w.heap.size≠w.heap.size+1+1:=by omega
   have qb:w.heap.size+1≠w.heap.size+1+1:=by omega
   have qg:w3.heap.size≠w.heap.size+1+1:=by omega
   have gf:=Ben qN qS
   go_region_held3 (fun w'=>Sr w' w.heap.size (Iz (!(n0 == n1))) (I s0)∧Sr w' (w.heap.size+1) (Iz false) (I s1)∧Sr w' w3.heap.size (Iz gN) (I gS)) (first | exact ⟨Dc ka,Dc kb,Dc kg⟩ | exact ⟨Dc (Bi.t (Bi.t (Bi.t ka qa 0 _) qa 1 _) qa 2 _),Dc (Bi.t (Bi.t (Bi.t kb qb 0 _) qb 1 _) qb 2 _),Dc (Bi.t (Bi.t (Bi.t kg qg 0 _) qg 1 _) qg 2 _)⟩) (first | (go_at_call 249;go_fit (H2.out _);rintro e wn ⟨rfl,bn⟩;replace ka:=ka.b (un bn);replace kb:=kb.b (un bn);replace kr:=kr.b (un bn);replace kg:=kg.b (un bn);replace bb:=Ia bb (un bn)) | (go_at_call 249;go_fit (H3.out _);rintro e wn ⟨rfl,bn⟩;replace ka:=ka.b (un bn);replace kb:=kb.b (un bn);replace kr:=kr.b (un bn);replace kg:=kg.b (un bn);replace bb:=Ia bb (un bn);have e0:=Cw kr;have f0:=Bi.o kr 0;have e1:=Cv kr;have f1:=Bi.o kr 1;have e2:=Cu kr;have f2:=Bi.o kr 2))
   go_wp2
   exact Dt (p:=4) (u:=5) (v:=.int .i64 0) (by kernel_rfl) rfl rfl rfl (((kr.set 0 _).set 1 _).set 2 _) ⟨rfl,Cr (Cr (Cr bb (by omega) 0 _) (by omega) 1 _) (by omega) 2 _⟩
theorem Bd7 (n0 n1 gN pN qN:Bool) (s1 gS pS qS:ByteArray) (w:World) (h1:s1.toList.isEmpty=false)
  (HL:Hid (∀ (B:Nat) (w:World) (_:Bi w B [I ByteArray.empty,I s1] 22),Calls Tryz.prog 194 #[.slice (some ⟨B,0,none⟩) 2 2] w (Re w (Iz false))))
  (C0:Hid (∀ w1,Calls Tryz.prog 195 #[.agg #[Iz n0,I ByteArray.empty]] w1 (Re w1 (.int .i64 0))))
  (C1:Hid (∀ w1,Calls Tryz.prog 195 #[.agg #[Iz n1,I s1]] w1 (Re w1 (.int .i64 0))))
  (H1:Hid (∀ w1,Below w.heap.size w w1→Calls Tryz.prog 196 #[.agg #[Iz n0,I ByteArray.empty],.agg #[Iz n1,I s1]] w1 (Re w1 (.agg #[Iz gN,I gS]))))
  (H2:Hid (∀ w1,Calls Tryz.prog 249 #[.agg #[Iz false,I ByteArray.empty],.agg #[Iz gN,I gS]] w1 (Re w1 (.agg #[Iz pN,I pS]))))
  (H3:Hid (∀ w1,Calls Tryz.prog 249 #[.agg #[Iz false,I s1],.agg #[Iz gN,I gS]] w1 (Re w1 (.agg #[Iz qN,I qS])))) :
  Calls Tryz.prog 217 #[.agg #[Iz n0,I ByteArray.empty],.agg #[Iz n1,I s1]] w (Re w (.tuple #[(D8 pN pS qS),.int .i64 0])):=by
 go_enter Tryz.func217,Tryz.ntmps217
 go_wp2_with fail
 obtain ⟨w1,hw,ka,kb,kr,kl,b1⟩:=mk4 w [Iz n0,I ByteArray.empty] [Iz n1,I s1] (D6 false eB eB) [I ByteArray.empty,I s1] 24 24 26 22
 rw [← hw]
 clear hw
 have sz:=b1.size
 have ta:=ka.lt
 have tb:=kb.lt
 have tr:=kr.lt
 have tl:=kl.lt
 have bb:=b1
 clear b1
 go_fit (HL.out _ _ kl)
 rintro e w2 ⟨rfl,b1⟩
 have sz:=b1.size
 replace ka:=ka.b b1
 replace kb:=kb.b b1
 replace kr:=kr.b b1
 replace kl:=kl.b b1
 replace bb:=Ia bb b1
 clear b1
 clear kl
 obtain ⟨ca_0,ca_1⟩:=Dc ka
 obtain ⟨cb_2,cb_3⟩:=Dc kb
 go_wp2
 clear ca_0 ca_1 cb_2 cb_3
 go_loopw [21] (fun i wr=>(Below w.heap.size w wr∧Bi wr w2.heap.size [Iz n0,I ByteArray.empty,Iz n1,I s1] 24∧Bi wr w.heap.size [Iz n0,I ByteArray.empty] 24∧Bi wr (w.heap.size+1) [Iz n1,I s1] 24∧Bi wr (w.heap.size+1+1) (D6 false eB eB) 26)∧(i=.int .i64 0∨i=.int .i64 1∨i=.int .i64 2)) (fun i _=>2 - (intOf i).toNat)
 case atStart=>exact ⟨⟨ba bb _,Bi.new w2 _ _,ka.alloc _,kb.alloc _,kr.alloc _⟩,Or.inl rfl⟩
 case round =>
  clear bb ka kb kr
  obtain ⟨⟨bb,kl,ka,kb,kr⟩,hi⟩:=hrel
  have c0:=kl.cell 0
  have c1:=kl.cell 1
  have c2:=kl.cell 2
  have c3:=kl.cell 3
  simp only [Jn,Jm] at c0 c1 c2 c3
  rcases hi with rfl | rfl | rfl
  ·go_wp2_with fail
   go_fit (C0.out _)
   rintro e wn ⟨rfl,b1⟩
   obtain ⟨-,b1⟩:=Hv b1
   clear c0 c1 c2 c3
   replace kl:=kl.b b1
   replace ka:=ka.b b1
   replace kb:=kb.b b1
   replace kr:=kr.b b1
   replace bb:=Ia bb b1
   clear b1
   go_wp2
   exact ⟨⟨⟨bb,kl,ka,kb,kr⟩,Or.inr (Or.inl (by go_num))⟩,by simp [intOf]⟩
  ·go_wp2_with fail
   go_fit (C1.out _)
   rintro e wn ⟨rfl,b1⟩
   obtain ⟨-,b1⟩:=Hv b1
   clear c0 c1 c2 c3
   replace kl:=kl.b b1
   replace ka:=ka.b b1
   replace kb:=kb.b b1
   replace kr:=kr.b b1
   replace bb:=Ia bb b1
   clear b1
   go_wp2
   exact ⟨⟨⟨bb,kl,ka,kb,kr⟩,Or.inr (Or.inr (by go_num))⟩,by simp [intOf]⟩
  ·clear c0 c1 c2 c3
   obtain ⟨ca_0,ca_1⟩:=Dc ka
   obtain ⟨cb_2,cb_3⟩:=Dc kb
   go_wp2_with fail
   clear ca_0 ca_1 cb_2 cb_3
   go_fit (H1.out _ bb)
   rintro e w3 ⟨rfl,b1⟩
   have sz:=b1.size
   replace kl:=kl.b b1
   replace ka:=ka.b b1
   replace kb:=kb.b b1
   replace kr:=kr.b b1
   replace bb:=Ia bb b1
   clear b1
   have szz:=bb.size
   have tr:=kr.lt
   have tb:=kb.lt
   have kg:=Bi.new w3 [Iz gN,I gS] 24
   replace ka:=ka.alloc (.cells #[Iz gN,I gS] 24)
   replace kb:=kb.alloc (.cells #[Iz gN,I gS] 24)
   replace kr:=kr.alloc (.cells #[Iz gN,I gS] 24)
   replace kl:=kl.alloc (.cells #[Iz gN,I gS] 24)
   replace bb:=ba bb (.cells #[Iz gN,I gS] 24)
   obtain ⟨e0,e1⟩:=Dc ka
   obtain ⟨e2,e3⟩:=Dc kb
   have f0:=ka.o 0
   have kb1:=Bi.t (g':=w.heap.size) kb (by omega) 0 (Iz false)
   obtain ⟨e4,e5⟩:=Dc kb1
   have f1:=kb1.o 0
   go_wp2_with fail
   clear e0 e1 e2 e3 e4 e5 f0 f1
   obtain ⟨w4,hw⟩:∃ x,x=((w3.alloc (.cells #[Iz gN,I gS] 24)).setCell ⟨w.heap.size,0,none⟩ (Iz false)).setCell ⟨w.heap.size+1,0,none⟩ (Iz false):=⟨_,rfl⟩
   rw [← hw]
   replace ka:=Bi.t (g':=w.heap.size+1) (ka.set 0 (Iz false)) (by omega) 0 (Iz false)
   replace kb:=kb1.set 0 (Iz false)
   replace kr:=Bi.t (g':=w.heap.size+1) (Bi.t (g':=w.heap.size) kr (by omega) 0 (Iz false)) (by omega) 0 (Iz false)
   replace kg:=Bi.t (g':=w.heap.size+1) (Bi.t (g':=w.heap.size) kg (by omega) 0 (Iz false)) (by omega) 0 (Iz false)
   replace bb:=Cr (g:=w.heap.size+1) (Cr (g:=w.heap.size) bb (by omega) 0 (Iz false)) (by omega) 0 (Iz false)
   rw [← hw] at ka kb kr kg bb
   clear hw kb1 kl
   have tq:=kr.lt
   have qa:w.heap.size≠w.heap.size+1+1:=by omega
   have qb:w.heap.size+1≠w.heap.size+1+1:=by omega
   have qg:w3.heap.size≠w.heap.size+1+1:=by omega
   have gf:=Ben qN qS
   go_region_held3 (fun w'=>Sr w' w.heap.size (Iz false) (I ByteArray.empty)∧Sr w' (w.heap.size+1) (Iz false) (I s1)∧Sr w' w3.heap.size (Iz gN) (I gS)) (first | exact ⟨Dc ka,Dc kb,Dc kg⟩ | exact ⟨Dc (Bi.t (Bi.t (Bi.t ka qa 0 _) qa 1 _) qa 2 _),Dc (Bi.t (Bi.t (Bi.t kb qb 0 _) qb 1 _) qb 2 _),Dc (Bi.t (Bi.t (Bi.t kg qg 0 _) qg 1 _) qg 2 _)⟩) (first | (go_at_call 249;go_fit (H2.out _);rintro e wn ⟨rfl,bn⟩;replace ka:=ka.b (un bn);replace kb:=kb.b (un bn);replace kr:=kr.b (un bn);replace kg:=kg.b (un bn);replace bb:=Ia bb (un bn)) | (go_at_call 249;go_fit (H3.out _);rintro e wn ⟨rfl,bn⟩;replace ka:=ka.b (un bn);replace kb:=kb.b (un bn);replace kr:=kr.b (un bn);replace kg:=kg.b (un bn);replace bb:=Ia bb (un bn);have e0:=Cw kr;have f0:=Bi.o kr 0;have e1:=Cv kr;have f1:=Bi.o kr 1;have e2:=Cu kr;have f2:=Bi.o kr 2))
   go_wp2
   exact Dt (p:=4) (u:=5) (v:=.int .i64 0) (by kernel_rfl) rfl rfl rfl (((kr.set 0 _).set 1 _).set 2 _) ⟨rfl,Cr (Cr (Cr bb (by omega) 0 _) (by omega) 1 _) (by omega) 2 _⟩
open Go.RowKit
theorem isE {s:ByteArray} (h:0<Bc s):s.toList.isEmpty=false:=by
 have:0<s.size:=Nat.pos_of_ne_zero fun e=>by have:=Hj e;omega
 simpa using Dv this
theorem Hk (n0 n1:Bool) (s0 s1:ByteArray) (w:World) (hT:G9 w) (o0:Hc n0 s0) (o1:Hc n1 s1) {K:Nat} (hK:K≤8000) (z0:s0.size≤K) (z1:s1.size≤K) (hp:0<Bc s1) :
  Calls Tryz.prog 217 #[.agg #[Iz n0,I s0],.agg #[Iz n1,I s1]] w (Re w (.tuple #[qI (Rat.divInt (Eg n0 s0) (Eg n1 s1)),.int .i64 0])):=by
 obtain ⟨nf,sf,hf,hok,hsz,hz,hnat,hneg,hstr,hnn,hfn⟩:=Rx
 obtain ⟨t,ht,hL⟩:=Pi s0 s1
 obtain rfl:t=false:=by
  cases t with
  | false=>rfl
  | true=>have:=ht.1 rfl;omega
 have C0:Hid (∀ w1,Calls Tryz.prog 195 #[.agg #[Iz n0,I s0]] w1 (Re w1 (.int .i64 0))):=by
  intro w1
  have:=Ep n0 s0 w1
  rwa [(G8 (by omega)).2 o0] at this
 have C1:Hid (∀ w1,Calls Tryz.prog 195 #[.agg #[Iz n1,I s1]] w1 (Re w1 (.int .i64 0))):=by
  intro w1
  have:=Ep n1 s1 w1
  rwa [(G8 (by omega)).2 o1] at this
 obtain ⟨G,hG⟩:∃ G,G=Nat.gcd (Bc s0) (Bc s1):=⟨_,rfl⟩
 have hGp:0<G:=by rw [hG];exact Nat.gcd_pos_of_pos_right _ hp
 have hd:Eg n1 s1≠0:=fun e=>by have:=C8 n1 s1;rw [e] at this;simp at this;omega
 have key:=Q.make_low (Eg n0 s0) (Eg n1 s1) hd G (by rw [C8,C8];exact hG)
 rw [C8] at key
 have bG:Bd (G:Int) K:=(Bii z1).nat (by rw [hG];exact Nat.le_of_dvd hp (Nat.gcd_dvd_right _ _))
 have hD:Hid (∀ w1,Below w.heap.size w w1→Calls Tryz.prog 196 #[.agg #[Iz n0,I s0],.agg #[Iz n1,I s1]] w1 (Re w1 (.agg #[Iz false,I (sf (G:Nat))]))):=by
  intro w1 b
  have:=Sg n0 n1 s0 s1 w1 o0 o1 (by omega) (by omega) (hT.b b)
  rwa [← hG,hfn] at this
 have hQ:Hid (∀ w1,Calls Tryz.prog 249 #[.agg #[Iz false,I s1],.agg #[Iz false,I (sf (G:Nat))]] w1 (Re w1 (.agg #[Iz false,I (sf ((Bc s1 / G:Nat):Int))]))):=by
  intro w1
  have:=Ba2 false s1 (sf (G:Nat)) w1 ⟨o1.1,fun h=>by cases h⟩ (hok _).1 (by omega) (Jf (hsz _ _ bG) (by omega)) (by rw [hnn];exact hGp)
  rwa [hnn,E9,← Int.natCast_ediv,hfn] at this
 have hneg1:Eg n1 s1<0↔n1=true:=by
  cases n1 with
  | false=>simp [Eg]
  | true=>simp [Eg];omega
 have eq:=Bbx key (hf _) (hstr _).symm.symm
 rw [eq]
 by_cases h0:0<Bc s0
 ·have on:Hc (!(n0 == n1)) s0:=⟨o0.1,fun _=>Nat.pos_of_ne_zero fun e=>by have:=Hj e;omega⟩
  have ez:(if Eg n1 s1<0 then -Eg n0 s0 else Eg n0 s0)=Eg (!(n0 == n1)) s0:=by
   cases n1 with
   | false=>rw [if_neg (by rw [hneg1];simp)];cases n0 <;> rfl
   | true=>rw [if_pos (by rw [hneg1])];cases n0 <;> simp [Eg]
  rw [ez]
  refine Bd5 n0 n1 false _ false s0 s1 (sf (G:Nat)) _ _ w (isE hp) (isE h0) (Ba hL) C0 C1 hD ?_ hQ
  intro w1
  have:=Ba2 _ s0 (sf (G:Nat)) w1 on (hok _).1 (by omega) (Jf (hsz _ _ bG) (by omega)) (by rw [hnn];exact hGp)
  rwa [hnn,hf] at this
 ·have g3:s0=ByteArray.empty:=ByteArray.size_eq_zero_iff.1 ((Bjv o0.1).2 (by omega))
  subst g3
  have ez:(if Eg n1 s1<0 then -Eg n0 ByteArray.empty else Eg n0 ByteArray.empty)=0:=by
   have:Eg n0 ByteArray.empty=0:=by cases n0 <;> rfl
   rw [this];simp
  rw [ez]
  refine Bd7 n0 n1 false _ false s1 (sf (G:Nat)) _ _ w (isE hp) (Ba hL) C0 C1 hD ?_ hQ
  intro w1
  have:=Ba2 false ByteArray.empty (sf (G:Nat)) w1 ⟨fun h=>absurd h (by decide),fun h=>by cases h⟩ (hok _).1 (by decide) (Jf (hsz _ _ bG) (by omega)) (by rw [hnn];exact hGp)
  rwa [hnn,show Eg false ByteArray.empty=0 from rfl,hf] at this
end Go.Proofs.YtnplifkgeeicjaaGreatDoor
