import Derived.Test.YtnplifkgeeicjaaGreatDoorV60
set_option maxRecDepth 20000
set_option maxHeartbeats 8000000
namespace Go.Proofs.YtnplifkgeeicjaaGreatDoor
open Go.RowKit
theorem Bch (l:List Q3) (i:Nat):l.getD i zQ∈l∨l.getD i zQ=zQ:=by
 rw [Jh]
 cases h:l[i]? with
 | none=>exact Or.inr rfl
 | some q=>exact Or.inl (List.mem_of_getElem? h)
theorem O2 (P:ByteArray→Q3) (E:ByteArray→Int) (hP:PR P E) (T:Q3→ByteArray) (p:Pl) (cs:List Value) (B:Nat) (w:World) (aL:Addr) (h:Na w aL) (hTP:Ee w) (hp:Co w B cs p) (l1:p.pts.length≤40) (l2:p.segs.length≤60) (l3:p.holes.length≤10)
  (t1:∀ q,q∈p.pts→TX T q.1 w∧TX T q.2 w) (t3:∀ q,q∈p.holes→TX T q.1 w∧TX T q.2 w) (tF:∀ q,q∈p.F→TX T q w) (tG:∀ q,q∈p.G→TX T q w) (tz:TX T zQ w) (s2:∀ s,s∈p.segs→s.1<100∧s.2.1<100) (zT:∀ q,(T q).size≤1000)
  (hr:(Fi P E (Wi T p)).2=0→(Fi P E (Wi T p)).1=p) :
  Calls Tryz.prog 23 #[.agg cs.toArray] w (Re w (.tuple #[I (if (Fi P E (Wi T p)).2=0 then Wi T p else eS),.int .i64 (if (Fi P E (Wi T p)).2=0 then 0 else 1)])):=by
 have hp0:=hp
 obtain ⟨v1,v2,v3,x,y,rfl,o1,o2,o3,hF,hG⟩:=hp
 obtain ⟨A1,A2,A3,F,G⟩:=p
 have r1:=B9.of cP D7 o1
 have r2:=B9.of cS Pf o2
 have r3:=B9.of cP D7 o3
 obtain ⟨a1,c1,rfl⟩:=By o1
 obtain ⟨a2,c2,rfl⟩:=By o2
 obtain ⟨a3,c3,rfl⟩:=By o3
 have hF':F=[x 0,x 1,x 2,x 3,x 4,x 5]:=hF
 have hG':G=[y 0,y 1,y 2,y 3,y 4,y 5]:=hG
 subst hF' hG'
 have fx:∀ i,TX T ([x 0,x 1,x 2,x 3,x 4,x 5].getD i zQ) w:=fun i=>by
  rcases Bch [x 0,x 1,x 2,x 3,x 4,x 5] i with h | h
  ·exact tF _ h
  ·rw [h];exact tz
 have fy:∀ i,TX T ([y 0,y 1,y 2,y 3,y 4,y 5].getD i zQ) w:=fun i=>by
  rcases Bch [y 0,y 1,y 2,y 3,y 4,y 5] i with h | h
  ·exact tG _ h
  ·rw [h];exact tz
 exact Bdz P E hP T A1 A3 A2 a1 a2 a3 _ _ _ c1 c2 c3 (fun i=>[x 0,x 1,x 2,x 3,x 4,x 5].getD i zQ) (fun i=>[y 0,y 1,y 2,y 3,y 4,y 5].getD i zQ) B w aL h hTP rfl rfl rfl l1 l2 l3 r1 r2 r3 t1 t3 fx fy s2 zT hp0 _ rfl hr
theorem Bn0 (n:Bool) (s d:ByteArray) (w:World) (hT:G9 w) (hP:Ee w) (h:Ed n s d=0) (zs:s.size≤400) (zd:d.size≤400) (ht:T8 (n,s,d)=Gc n s d):TX T8 (n,s,d) w:=fun w1 b=>by
 refine (T4 n s d w1 (hT.b b) (hP.bel b) h zs zd).mono ?_
 rintro e w' ⟨rfl,k⟩
 exact ⟨_,_,rfl,ht,k⟩
theorem Blv (w:World) (hT:G9 w):TX T8 zQ w:=fun w1 b=>by
 refine (T5 w1 (hT.b b)).mono ?_
 rintro e w' ⟨rfl,k⟩
 exact ⟨_,_,rfl,by kernel_rfl,k⟩
theorem Bnz (w:World) (hT:G9 w) (hP:Ee w):(∀ q,q∈p8.pts→TX T8 q.1 w∧TX T8 q.2 w)∧(∀ q,q∈p8.F→TX T8 q w)∧(∀ q,q∈p8.G→TX T8 q w):=by
 have k:∀ n s d,Ed n s d=0→s.size≤400→d.size≤400→T8 (n,s,d)=Gc n s d→TX T8 (n,s,d) w:=fun n s d h zs zd ht=>Bn0 n s d w hT hP h zs zd ht
 refine ⟨fun q hq=>?_,fun q hq=>?_,fun q hq=>?_⟩
 ·rw [List.mem_singleton.1 hq]
  exact ⟨k _ _ _ (by decide +kernel) (by decide) (by decide) (by kernel_rfl),k _ _ _ (by decide +kernel) (by decide) (by decide) (by kernel_rfl)⟩
 ·have hz:q=(false,⟨#[]⟩,⟨#[1]⟩):=by
   rcases List.mem_cons.1 hq with h | hq
   ·exact h
   rcases List.mem_cons.1 hq with h | hq
   ·exact h
   rcases List.mem_cons.1 hq with h | hq
   ·exact h
   rcases List.mem_cons.1 hq with h | hq
   ·exact h
   rcases List.mem_cons.1 hq with h | hq
   ·exact h
   exact List.mem_singleton.1 hq
  rw [hz]
  exact k _ _ _ (by decide +kernel) (by decide) (by decide) (by kernel_rfl)
 ·rcases List.mem_cons.1 hq with h | hq
  ·rw [h];exact k _ _ _ (by decide +kernel) (by decide) (by decide) (by kernel_rfl)
  rcases List.mem_cons.1 hq with h | hq
  ·rw [h];exact k _ _ _ (by decide +kernel) (by decide) (by decide) (by kernel_rfl)
  rcases List.mem_cons.1 hq with h | hq
  ·rw [h];exact k _ _ _ (by decide +kernel) (by decide) (by decide) (by kernel_rfl)
  rcases List.mem_cons.1 hq with h | hq
  ·rw [h];exact k _ _ _ (by decide +kernel) (by decide) (by decide) (by kernel_rfl)
  rcases List.mem_cons.1 hq with h | hq
  ·rw [h];exact k _ _ _ (by decide +kernel) (by decide) (by decide) (by kernel_rfl)
  rw [List.mem_singleton.1 hq];exact k _ _ _ (by decide +kernel) (by decide) (by decide) (by kernel_rfl)
theorem Bgq (P:ByteArray→Q3) (E:ByteArray→Int) (hP:PR (P8 P) (E8 E)) (cs:List Value) (B:Nat) (w:World) (aL:Addr) (h:Na w aL) (hT:Ee w) (hp:Co w B cs p8) :
  Calls Tryz.prog 23 #[.agg cs.toArray] w (Re w (.tuple #[I Bmg,.int .i64 0])):=by
 obtain ⟨k1,k2,k3⟩:=Bnz w h.tab hT
 have:=O2 (P8 P) (E8 E) hP T8 p8 cs B w aL h hT hp (by decide) (by decide) (by decide) k1 (fun q hq=>by cases hq) k2 k3 (Blv w h.tab) (fun s hs=>by rw [List.mem_singleton.1 hs];decide) Bc1 (by rw [Bbf,Bb0];intro _;rfl)
 rw [Bbf,Bb0] at this
 exact this
theorem Bgp (P:ByteArray→Q3) (E:ByteArray→Int) (hP:PR (P8 P) (E8 E)) (cs:List Value) (B:Nat) (w:World) (aL:Addr) (h:Na w aL) (hT:Ee w) (hp:Co w B cs Ys) :
  Calls Tryz.prog 23 #[.agg cs.toArray] w (Re w (.tuple #[I eS,.int .i64 1])):=by
 have tz:=Blv w h.tab
 have tz6:∀ q:Q3,q∈[zQ,zQ,zQ,zQ,zQ,zQ]→TX T8 q w:=fun q hq=>Y7 (x:=fun _=>zQ) (fun _=>tz) q hq
 have:=O2 (P8 P) (E8 E) hP T8 Ys cs B w aL h hT hp (by decide) (by decide) (by decide) (fun q hq=>by cases hq) (fun q hq=>by cases hq) tz6 tz6 tz (fun s hs=>by cases hs) Bc1 (by rw [Bb1];intro h;cases h)
 rw [Bb1] at this
 exact this
open Go.RowKit Go.Shelf
theorem So {f:FuncId} {args:Array Value} {w:World} {a b:Value} {K K':World→Prop} (h:Calls Tryz.prog f args w fun e w'=>e=.returned a∧K w') (h':Calls Tryz.prog f args w fun e w'=>e=.returned b∧K' w') (hi:Tryz.prog.inits.idxOf? f=none):a=b:=by
 have H:Calls Tryz.prog f args w fun | .returned v,w'=>v=a∧K w' | _,_=>False:=h.mono fun e w' ⟨he,k⟩=>by subst he;exact ⟨rfl,k⟩
 have H':Calls Tryz.prog f args w fun | .returned v,w'=>v=b∧K' w' | _,_=>False:=h'.mono fun e w' ⟨he,k⟩=>by subst he;exact ⟨rfl,k⟩
 obtain ⟨n,v,w1,e1,r1,-⟩:=Calls.done (R:=fun v w'=>v=a∧K w') H hi
 obtain ⟨m,v',w2,e2,r2,-⟩:=Calls.done (R:=fun v w'=>v=b∧K' w') H' hi
 have a1:=runN_ended e1 m
 have b1:=runN_ended e2 n
 rw [Nat.add_comm,a1] at b1
 injection b1 with ho hw
 injection ho with hv
 rw [← r1,← r2,hv]
def Sw (q:Q3):Prop:=Gq q.1 q.2.1 q.2.2
open Classical in
noncomputable def V9 (q:Q3):ByteArray:=if Sw q then Gc q.1 q.2.1 q.2.2 else ⟨#[63]⟩
theorem Oo {q:Q3} (h:Sw q):V9 q=Gc q.1 q.2.1 q.2.2:=if_pos h
theorem Bir {q:Q3} (h:¬ Sw q):V9 q=⟨#[63]⟩:=if_neg h
theorem Wy {l:List Nat} (h:∀ t∈l,45=t∨(48≤t∧t<58)):∀ x∈(Cs l).data.toList,bl x.toNat=false:=by
 intro x hx
 unfold Cs at hx
 rw [List.mem_map] at hx
 obtain ⟨t,ht,rfl⟩:=hx
 have h1:=h t ht
 rw [UInt8.toNat_ofNat']
 unfold bl
 simp
 omega
theorem Xo (n:Bool) (s:ByteArray) (hs:Bc s<10 ^ 60):(∀ x∈(Dh n s).data.toList,bl x.toNat=false)∧1≤(Dh n s).size∧(Dh n s).size≤61∧(n=false→(Dh n s).size≤60):=by
 have hl:(dt (Bc s)).length≤60:=by
  unfold dt
  rw [List.length_reverse,List.length_map]
  exact M.digs_len_of_lt (k:=60) (by omega) hs
 unfold Dh
 split
 ·exact ⟨by decide,by decide,by decide,fun _=>by decide⟩
 ·rename_i hne
  have h1:0<(dt (Bc s)).length:=List.length_pos_iff.2 hne
  split
  ·rename_i hn
   refine ⟨Wy fun t ht=>?_,?_,?_,fun h=>absurd hn (by rw [h];simp)⟩
   ·rcases List.mem_cons.1 ht with rfl | h
    ·exact Or.inl rfl
    ·exact Or.inr (Vt h)
   ·rw [Cl,List.length_cons];omega
   ·rw [Cl,List.length_cons];omega
  ·refine ⟨Wy fun t ht=>Or.inr (Vt ht),?_,?_,fun _=>?_⟩
   ·rw [Cl];omega
   ·rw [Cl];omega
   ·rw [Cl];omega
theorem Xk {n:Bool} {s d:ByteArray} (g:Gq n s d):Tok (Gc n s d)∧(Gc n s d).size≤122:=by
 obtain ⟨a1,a2,a3,-⟩:=Xo n s g.ls
 obtain ⟨b1,b2,-,b3⟩:=Xo false d g.ld
 replace b3:=b3 rfl
 unfold Gc
 split
 ·exact ⟨⟨by omega,a1⟩,by omega⟩
 ·have e:((Dh n s ++ ⟨#[47]⟩) ++ Dh false d).data.toList=(Dh n s).data.toList ++ 47 :: (Dh false d).data.toList:=by simp
  have hs:((Dh n s ++ ⟨#[47]⟩) ++ Dh false d).size=(Dh n s).size+1+(Dh false d).size:=by rw [Cd,Cd];rfl
  refine ⟨⟨by omega,fun x hx=>?_⟩,by omega⟩
  rw [e] at hx
  rcases List.mem_append.1 hx with hx | hx
  ·exact a1 x hx
  ·rcases List.mem_cons.1 hx with rfl | hx
   ·rfl
   ·exact b1 x hx
theorem Biq (q:Q3):(V9 q).size≤1000:=by
 by_cases h:Sw q
 ·rw [Oo h]
  exact Jf (Xk h).2 (by decide)
 ·rw [Bir h];decide
theorem Bcq {n:Bool} {s d:ByteArray} (g:Gq n s d):Ed n s d=0:=Vw g.ok (Jf g.zs (by decide)) (Jf g.zd (by decide))
theorem Bo5 {q:Q3} (w:World) (hT:G9 w) (hP:Ee w) (g:Sw q):TX V9 q w:=fun w1 b=>by
 refine (T4 q.1 q.2.1 q.2.2 w1 (hT.b b) (hP.bel b) (Bcq g) (Jf g.zs (by decide)) (Jf g.zd (by decide))).mono ?_
 rintro e w' ⟨rfl,k⟩
 exact ⟨_,_,rfl,Oo g,k⟩
theorem Bix:¬ Sw zQ:=fun h=>absurd h.ok.2.2.1 (by decide)
theorem Bi2 (w:World) (hT:G9 w):TX V9 zQ w:=fun w1 b=>by
 refine (T5 w1 (hT.b b)).mono ?_
 rintro e w' ⟨rfl,k⟩
 exact ⟨_,_,rfl,by rw [Bir Bix];rfl,k⟩
theorem Bn2 {P:ByteArray→Q3} {E:ByteArray→Int} (hP:PR P E) {q:Q3} (w:World) (hT:G9 w) (g:Sw q):Wf P E V9 q:=by
 obtain ⟨k1,k2⟩:=Xk g
 have h1:=hP (Gc q.1 q.2.1 q.2.2) w (by omega) hT
 have h2:=Bjl q.1 q.2.1 q.2.2 w hT g
 have e:=So h1 h2 (by kernel_rfl)
 have e1:=congrArg (fun v=>v) e
 unfold Wf
 rw [Oo g]
 injection e with e
 have e:=congrArg Array.toList e
 injection e with ea eb
 injection eb with eb
 refine ⟨?_,?_,k1,k2⟩
 ·injection eb
 ·unfold vQ at ea
  injection ea with ea
  have ea:=congrArg Array.toList ea
  injection ea with a1 ea
  injection ea with a2 ea
  injection ea with a3
  injection a1 with a1
  injection a2 with a2
  injection a3 with a3
  exact Prod.ext a1 (Prod.ext a2 a3)
theorem Bol {P:ByteArray→Q3} {E:ByteArray→Int} (hG:∀ t,E t=0→Sw (P t)) {s:ByteArray} (h:(Fi P E s).2=0):PlQ Sw (Fi P E s).1:=by
 unfold Fi at h ⊢
 split at h
 ·cases h
 ·rename_i hs
  rw [if_neg hs]
  cases hp:Qb P E (Cy s) with
  | none=>rw [hp] at h;cases h
  | some p =>
   refine (Bm3 hp).mono ?_
   rintro q ⟨t,ht,rfl⟩
   exact hG t ht
theorem Bjs (P:ByteArray→Q3) (E:ByteArray→Int) (hPR:PR P E) (p:Pl) (hp:PlQ Sw p) (w:World) (aL:Addr) (h:Na w aL) (hT:Ee w) (cs:List Value) (B:Nat) (hc:Co w B cs p) :
  Calls Tryz.prog 23 #[.agg cs.toArray] w (Re w (.tuple #[I (Wi V9 p),.int .i64 0])):=by
 have hb:=Xp (hp.mono fun q g=>Bn2 hPR w h.tab g)
 have tx:∀ q,Sw q→TX V9 q w:=fun q g=>Bo5 w h.tab hT g
 have:=O2 P E hPR V9 p cs B w aL h hT hc hp.l1 hp.l2 hp.l3 (fun q hq=>⟨tx _ (hp.q1 q hq).1,tx _ (hp.q1 q hq).2⟩) (fun q hq=>⟨tx _ (hp.q3 q hq).1,tx _ (hp.q3 q hq).2⟩) (fun q hq=>tx _ (hp.qF q hq)) (fun q hq=>tx _ (hp.qG q hq)) (Bi2 w h.tab) (fun s hs=>by have:=hp.s2 s hs;have:=hp.l1;omega) Biq (by rw [hb];intro _;rfl)
 rw [hb] at this
 exact this
open Go.RowKit Go.Shelf
theorem Nc (L M:List (List ByteArray)):He (L ++ M)=He L ++ He M:=by unfold He;exact List.flatMap_append
theorem Ur (a b:ByteArray):He [[a,b]]=a.data.toList ++ 32 :: (b.data.toList ++ [10]):=by simp [He,M5]
theorem Bc6 (a b c:ByteArray):He [[a,b,c]]=a.data.toList ++ 32 :: (b.data.toList ++ 32 :: (c.data.toList ++ [10])):=by simp [He,M5]
theorem Df (a b:ByteArray):(a ++ b).data.toList=a.data.toList ++ b.data.toList:=by simp
theorem O0 (A:List (Q3 × Q3)) (s:ByteArray):∀ k,k≤A.length→(Fx A k s).data.toList=s.data.toList ++ He (Mm TE (A.take k))
 | 0,_=>by rw [Fx];simp [Mm,He]
 | k+1,h=>by
  have ih:=O0 A s k (by omega)
  have hq:A[k]?=some (A[k]'(by omega)):=List.getElem?_eq_getElem (by omega)
  have hg:A.getD k (zQ,zQ)=A[k]'(by omega):=by rw [Jh,hq];rfl
  have e:Mm TE (A.take (k+1))=Mm TE (A.take k) ++ [[TE (A[k]'(by omega)).1,TE (A[k]'(by omega)).2]]:=by
   rw [List.take_add_one,hq]
   unfold Mm
   rw [List.map_append]
   rfl
  rw [Fx,hg,Df,Df,Df,Df,ih,e,Nc,Ur]
  simp only [List.append_assoc,List.cons_append,List.nil_append]
def lnR (l:List (Int × Int × Bool)):List (List ByteArray):=l.map fun s=>[RI s.1,RI s.2.1,Py s.2.2]
theorem Bhi (f:Bool):(Bkn f).data.toList=32 :: ((Py f).data.toList ++ [10]):=by cases f <;> rfl
theorem Ts (A:List (Int × Int × Bool)) (s:ByteArray):∀ k,k≤A.length→(Ml A k s).data.toList=s.data.toList ++ He (lnR (A.take k))
 | 0,_=>by rw [Ml];simp [lnR,He]
 | k+1,h=>by
  have ih:=Ts A s k (by omega)
  have hq:A[k]?=some (A[k]'(by omega)):=List.getElem?_eq_getElem (by omega)
  have hg:A.getD k (0,0,false)=A[k]'(by omega):=by rw [Jh,hq];rfl
  have e:lnR (A.take (k+1))=lnR (A.take k) ++ [[RI (A[k]'(by omega)).1,RI (A[k]'(by omega)).2.1,Py (A[k]'(by omega)).2.2]]:=by
   rw [List.take_add_one,hq]
   unfold lnR
   rw [List.map_append]
   rfl
  rw [Ml,hg,Df,Df,Df,Df,ih,e,Nc,Bc6,Bhi]
  simp only [List.append_assoc,List.cons_append,List.nil_append]
theorem Tt (x:Nat→Q3) (c:ByteArray):He [[c] ++ [x 0,x 1,x 2,x 3,x 4,x 5].map TE]=(Kb x 6 c ++ ⟨#[10]⟩).data.toList:=by
 simp [He,M5,Kb]
theorem Bb8 {l:List Q3} (h:∀ q,q∈l→Sw q):l.map TE=l.map V9:=List.map_congr_left fun q hq=>by
 have g:=h q hq
 rw [Oo g]
 exact if_pos (Bcq g)
theorem Bip {q:Q3} (g:Sw q):TE q=V9 q:=by rw [Oo g];exact if_pos (Bcq g)
theorem Bcc {l:List (Q3 × Q3)} (h:∀ q,q∈l→Sw q.1∧Sw q.2):Mm TE l=Mm V9 l:=List.map_congr_left fun q hq=>by
 rw [Bip (h q hq).1,Bip (h q hq).2]
theorem Bop {l:List (Nat × Nat × Bool)} (h:∀ s,s∈l→s.1<100∧s.2.1<100):lnR (l.map zS)=lnS l:=by
 unfold lnR lnS
 rw [List.map_map]
 refine List.map_congr_left fun s hs=>?_
 show [RI ((s.1:Nat):Int),RI ((s.2.1:Nat):Int),Py s.2.2]=_
 rw [Bc2 _ (h s hs).1,Bc2 _ (h s hs).2]
theorem Bmw {A1 A3:List (Q3 × Q3)} {A2:List (Int × Int × Bool)} {x y:Nat→Q3} {p:Pl} (hi:Mn A1 A3 A2 x y p) (hp:PlQ Sw p):Lc A1 A3 A2 x y A1.length A2.length A3.length=Wi V9 p:=by
 obtain ⟨i1,i2,i3,i4,i5⟩:=hi
 have l1:=hp.l1
 apply ByteArray.ext
 apply Array.toList_inj.1
 show _=(He (F4 V9 p)).toArray.toList
 rw [List.toList_toArray]
 have s2:∀ s,s∈p.segs→s.1<100∧s.2.1<100:=fun s hs=>by have:=hp.s2 s hs;omega
 have n2:A2.length=p.segs.length:=by rw [i2,List.length_map]
 have hF:=Tt x wF
 have hG:=Tt y wG
 rw [i4,Bb8 hp.qF] at hF
 rw [i5,Bb8 hp.qG] at hG
 have e1:=O0 A1 (Kk wV A1.length) A1.length (Jb _)
 have e3:=O0 A3 (Kk wH A3.length) A3.length (Jb _)
 have e2:=Ts A2 (rt1 A1 A1.length A2.length) A2.length (Jb _)
 rw [List.take_length] at e1 e2 e3
 rw [i1,Bcc hp.q1] at e1
 rw [i3,Bcc hp.q3] at e3
 have e2':He (lnR A2)=He (lnS p.segs):=by rw [i2,Bop s2]
 rw [e2'] at e2
 unfold Lc
 rw [Df,Df,Df,Df,e2,← hF,← hG]
 unfold rt1
 rw [Df,Df,Df,Df,i1,e1,i3,e3,n2]
 unfold F4 Kk
 simp only [Nc]
 have hd:∀ (c:ByteArray) (n:Nat),(((c ++ ⟨#[32]⟩) ++ dg n) ++ ⟨#[10]⟩).data.toList=He [[c,dg n]]:=fun c n=>by
  rw [Ur,Df,Df,Df]
  simp
 have h3:He [[wF] ++ p.F.map V9,[wG] ++ p.G.map V9,[wE]]=He [[wF] ++ p.F.map V9] ++ (He [[wG] ++ p.G.map V9] ++ He [[wE]]):=by
  rw [← Nc,← Nc]
  rfl
 have hw:He [[wS,dg p.segs.length]]=(⟨#[115,32]⟩:ByteArray).data.toList ++ ((dg p.segs.length).data.toList ++ [10]):=by rw [Ur];rfl
 have h0:He [[wP]]=[112,115,108,103,10]:=rfl
 have hE:He [[wE]]=[101,110,100,10]:=rfl
 rw [hd,hd,h3,hw,h0,hE]
 simp only [List.append_assoc,List.cons_append,List.nil_append]
theorem Bjc {q:Q3} (g:Sw q):Gu q=true:=by
 unfold Gu
 exact decide_eq_true ⟨Jf g.zs (by decide),Jf g.zd (by decide),Bcq g⟩
theorem Bo7 {A1 A3:List (Q3 × Q3)} {A2:List (Int × Int × Bool)} {x y:Nat→Q3} {p:Pl} (hi:Mn A1 A3 A2 x y p) (hp:PlQ Sw p):U6 A1.length A2.length A3.length A1 A3 x y=true:=by
 obtain ⟨i1,i2,i3,i4,i5⟩:=hi
 have n2:A2.length=p.segs.length:=by rw [i2,List.length_map]
 have all2:∀ {A:List (Q3 × Q3)},(∀ q,q∈A→Sw q.1∧Sw q.2)→A.all Rf=true:=fun h=>List.all_eq_true.2 fun q hq=>by
  unfold Rf
  rw [Bjc (h q hq).1,Bjc (h q hq).2]
  rfl
 refine Bfx _ _ _ _ _ _ _ (by rw [i1];exact hp.l1) (by rw [n2];exact hp.l2) (by rw [i3];exact hp.l3) (all2 (by rw [i1];exact hp.q1)) (all2 (by rw [i3];exact hp.q3)) (fun j hj=>?_)
 have hm:∀ (z:Nat→Q3) (j:Nat),j<6→z j∈[z 0,z 1,z 2,z 3,z 4,z 5]:=fun z j hj=>by
  match j,hj with
  | 0,_=>simp
  | 1,_=>simp
  | 2,_=>simp
  | 3,_=>simp
  | 4,_=>simp
  | 5,_=>simp
 have h1:=hm x j hj
 have h2:=hm y j hj
 rw [i4] at h1
 rw [i5] at h2
 exact ⟨Bjc (hp.qF _ h1),Bjc (hp.qG _ h2)⟩
theorem Bnf (w0:World) (hT:G9 w0):∃ (P:ByteArray→Q3) (E:ByteArray→Int),PR P E∧PR3 P E∧∀ t,E t=0→Sw (P t):=by
 have hq:∀ t:ByteArray,∃ (q:Q3) (e:Int),(e=0→Sw q)∧(t.size≤100000→(∀ w,G9 w→Calls Tryz.prog 184 #[I t] w fun e' w'=>e'=.returned (.tuple #[vQ q,.int .i64 e])∧Below w.heap.size w w')∧∀ w,Calls Tryz.prog 153 #[I t] w fun e' w'=>e'=.returned (.tuple #[vQ q,.int .i64 e])∧Below w.heap.size w w'):=fun t=>by
  by_cases hz:t.size≤100000
  ·obtain ⟨rN,rS,rD,E,h1,h2⟩:=Bgj t (by omega)
   obtain ⟨rN',rS',rD',E',g,h1'⟩:=Bgi t (by omega)
   have e:=So (h1 w0 hT) (h1' w0 hT) (by kernel_rfl)
   injection e with e
   have e:=congrArg Array.toList e
   injection e with ea eb
   injection eb with eb
   injection ea with ea
   have ea:=congrArg Array.toList ea
   injection ea with a1 ea
   injection ea with a2 ea
   injection ea with a3
   injection a1 with a1
   injection a2 with a2
   injection a3 with a3
   injection eb with _ eb
   subst a1 a2 a3 eb
   exact ⟨(rN,rS,rD),E,g,fun _=>⟨h1,h2⟩⟩
  ·exact ⟨zQ,4,(fun h=>by cases h),fun h=>absurd h hz⟩
 exact ⟨fun t=>Classical.choose (hq t),fun t=>Classical.choose (Classical.choose_spec (hq t)),fun t w hz hT=>((Classical.choose_spec (Classical.choose_spec (hq t))).2 hz).1 w hT,fun t w hz=>((Classical.choose_spec (Classical.choose_spec (hq t))).2 hz).2 w,fun t h=>(Classical.choose_spec (Classical.choose_spec (hq t))).1 h⟩
open Go.RowKit
theorem Bpa (n:Bool) (s d:ByteArray) (w1:World):(Op.equalIn 10000 26 ((D8 n s d)) ((D8 n s d))).run Tryz.prog w1=.ok true w1:=by
 rw [show (10000:Nat)=9999+1 from rfl]
 go_simp
theorem Bd8 (w:World) (aL:Addr) (h:Na w aL) (hP:Ee w):Calls Tryz.prog 21 #[] w (Re w (Iz true)):=by
 obtain ⟨P,E,hPR⟩:=Bng
 have H1:Hid (∀ wi,Below w.heap.size w wi→Calls Tryz.prog 18 #[I Bm5] wi fun e w'=>∃ cs:List Value,e=.returned (.tuple #[.agg cs.toArray,.int .i64 0])∧Co w' wi.heap.size cs p8∧Below wi.heap.size wi w'):=fun wi b=>by
  have:=T7 (P8 P) (E8 E) hPR Bm5 wi aL (h.b b)
  rw [Bjo] at this
  exact this
 have H2:Hid (∀ wi,Below w.heap.size w wi→Calls Tryz.prog 18 #[I Bmk] wi fun e w'=>∃ cs:List Value,e=.returned (.tuple #[.agg cs.toArray,.int .i64 4])∧Co w' wi.heap.size cs Ys∧Below wi.heap.size wi w'):=fun wi b=>by
  have:=T7 (P8 P) (E8 E) hPR Bmk wi aL (h.b b)
  rw [Bjn] at this
  exact this
 have HA:=Ba (fun wi (b:Below w.heap.size w wi) cs B (hp:Co wi B cs p8)=>Bgq P E hPR cs B wi aL (h.b b) (hP.bel b) hp)
 have HZ:Hid (∀ wi,Below w.heap.size w wi→Calls Tryz.prog 23 #[.agg #[Bs,Bs,Bs,Iz false,I eS,I eS,Iz false,I eS,I eS,Iz false,I eS,I eS,Iz false,I eS,I eS,Iz false,I eS,I eS,Iz false,I eS,I eS,Iz false,I eS,I eS,Iz false,I eS,I eS,Iz false,I eS,I eS,Iz false,I eS,I eS,Iz false,I eS,I eS,Iz false,I eS,I eS]] wi (Re wi (.tuple #[I eS,.int .i64 1]))):=fun wi b=>by
  have:=Bgp P E hPR Z39 0 wi aL (h.b b) (hP.bel b) (Ej wi 0)
  exact this
 have HF:=Ba (fun wi=>Bel wi)
 have hE:=fun w1=>Bpa false ⟨#[1]⟩ ⟨#[2]⟩ w1
 clear h hP hPR
 go_enter Tryz.func21,Tryz.ntmps21
 go_upto_region 2 with (go_at_call 18;refine (H1.out w (Jg _ _)).mono ?_;rintro e w1 ⟨cs,rfl,hp,b1⟩;have hlen:=hp.len;obtain ⟨w2,hst,k2,b2⟩:=Hm w1 cs hp.len hp.one)
 have B2:=Ia b1 b2
 have hp2:=hp.b b2
 clear hst b1 b2 H1
 go_upto_region 3 with (first | (refine Je rfl 46 _ rfl _ rfl 46 cs.toArray (0,0) _ k2 Tryz.underlying46 rfl (by rw [List.size_toArray,hlen];kernel_rfl) ?_) | (go_at_call 23;refine (HA.out _ B2 cs _ hp2).mono ?_;rintro e w3 ⟨rfl,b3⟩))
 have B3:=Ia B2 b3
 have k3:=k2.b b3
 have hp3:=hp2.b b3
 clear k2 hp2 hp HA B2 b3
 go_upto_region 4 with (go_at_call 18;refine (H2.out _ B3).mono ?_;rintro e w4 ⟨ds,rfl,hq,b4⟩;have hlen':=hq.len;obtain ⟨w5,hst,k5,b5⟩:=Hm w4 ds hq.len hq.one)
 have B5:=Ia (Ia B3 b4) b5
 have k6:=(k3.b b4).b b5
 have hp5:=(hp3.b b4).b b5
 clear hst k5 b4 b5 hq k3 hp3 H2 B3
 go_upto_region 5 with (go_at_call 23;refine (HZ.out _ B5).mono ?_;rintro e w6 ⟨rfl,b6⟩)
 have B6:=Ia B5 b6
 have k7:=k6.b b6
 have hp6:=hp5.b b6
 clear HZ B5 b6 k6 hp5
 obtain ⟨v1,v2,v3,x,y,hcs,o1,o2,o3,hF,hG⟩:=hp6
 have r1:=B9.of cP D7 o1
 have r2:=B9.of cS Pf o2
 obtain ⟨a1,c1,rfl⟩:=By o1
 obtain ⟨a2,c2,rfl⟩:=By o2
 obtain ⟨aa,ac,ea,-,hr1⟩:=r1
 obtain ⟨ba,bc,eb,-,hr2⟩:=r2
 obtain ⟨gp,op,ep,-,hx⟩:=hr1 0 _ rfl
 obtain ⟨gs,os,es,-,hy⟩:=hr2 0 _ rfl
 have ea':=(Value.slice.inj ea).1
 have eb':=(Value.slice.inj eb).1
 rw [ep] at ea'
 rw [es] at eb'
 subst ea' eb'
 obtain ⟨g1,hg1⟩:∃ g,g=w1.heap.size:=⟨_,rfl⟩
 rw [← hg1] at k7 ⊢
 have q0:w6.cell? ⟨g1,0,none⟩=some (.slice (some ⟨gp,op,none⟩) 1 c1):=by rw [k7.cell 0,hcs];rfl
 have q1:w6.cell? ⟨g1,1,none⟩=some (.slice (some ⟨gs,os,none⟩) 1 c2):=by rw [k7.cell 1,hcs];rfl
 have q2:w6.rangeAt gp op [Iz false,I ⟨#[1]⟩,I ⟨#[2]⟩]:=fun i v hv=>by
  have:=hx i v (by match i,hv with | 0,hv=>exact hv | 1,hv=>exact hv | 2,hv=>exact hv)
  rwa [Nat.zero_mul,Nat.add_zero] at this
 have q3:w6.cell? ⟨gs,os+2,none⟩=some (Iz true):=by
  have:=hy 2 _ rfl
  rwa [Nat.zero_mul,Nat.add_zero] at this
 clear hr1 hr2 hx hy o1 o2 o3 hF hG hcs k7 ea eb ep es hg1
 have Bd6:Below w.heap.size w w6.drew:=Ia B6 (Fe w6)
 refine Jc (S:=fun w'=>w'.cell? ⟨g1,0,none⟩=some (.slice (some ⟨gp,op,none⟩) 1 c1)∧w'.cell? ⟨g1,1,none⟩=some (.slice (some ⟨gs,os,none⟩) 1 c2)∧w'.rangeAt gp op [Iz false,I ⟨#[1]⟩,I ⟨#[2]⟩]∧w'.cell? ⟨gs,os+2,none⟩=some (Iz true)) (by kernel_rfl) ⟨q0,q1,(World.rangeAt_drew _ _ _ _).2 q2,q3⟩ (fun hS=>?_)
 clear q0 q1 q2 q3 B6
 generalize w6.drew=wd at *
 refine WA.start (n:=47) (by kernel_rfl) ?_
 refine WA.tp 0 rfl ?_
 refine WA.tp 1 rfl ?_
 refine WA.tp 2 rfl ?_
 refine WA.tp 3 rfl ?_
 refine WA.tp 4 rfl ?_
 refine WA.tp 5 rfl ?_
 refine WA.tp 6 rfl ?_
 refine WA.tp 7 rfl ?_
 refine WA.tp 8 rfl ?_
 refine WA.tp 9 rfl ?_
 refine WA.tp 10 rfl ?_
 refine WA.tp 11 rfl ?_
 refine WA.tp 12 rfl ?_
 refine WA.tp 13 rfl ?_ (hy:=Jd (by rfl) 26 _ rfl gp op rfl [Iz false,I ⟨#[1]⟩,I ⟨#[2]⟩] _ (fun w' h=>h.2.2.1) Tryz.underlying26 rfl (by kernel_rfl))
 refine WA.cal 14 rfl (fun K hK=>?_)
 simp only [Jq]
 go_simp
 go_fit (HF.out _)
 rintro e wa ⟨rfl,ba⟩
 try go_wp2_with fail
 refine hK.out _ _ ⟨Bh hS.1 ba,Bh hS.2.1 ba,fun i v hv=>Bh (hS.2.2.1 i v hv) ba,Bh hS.2.2.2 ba⟩ (fun hS=>?_)
 clear hK K
 have Bf:=Ia Bd6 ba
 refine WA.tp 15 rfl ?_
 refine WA.tp 16 rfl ?_
 refine WA.tp 17 rfl ?_
 refine WA.tp 18 rfl ?_
 refine WA.tp 19 rfl ?_
 refine WA.tp 20 rfl ?_
 refine WA.tp 21 rfl ?_
 refine WA.tp 22 rfl ?_
 refine WA.tp 23 rfl ?_
 refine WA.tp 24 rfl ?_
 refine WA.tp 25 rfl ?_
 refine WA.tp 26 rfl ?_
 refine WA.tp 27 rfl ?_
 refine WA.tp 28 rfl ?_
 refine WA.tp 29 rfl ?_
 refine WA.tp 30 rfl ?_
 refine WA.tp 31 rfl ?_
 refine WA.tp 32 rfl ?_
 refine WA.tp 33 rfl ?_
 refine WA.tp 34 rfl ?_
 refine WA.tp 35 rfl ?_
 refine WA.tp 36 rfl ?_
 refine WA.tp 37 rfl ?_
 refine WA.tp 38 rfl ?_
 refine WA.tp 39 rfl ?_
 refine WA.tp 40 rfl ?_
 refine WA.tp 41 rfl ?_
 refine WA.tp 42 rfl ?_
 refine WA.tp 43 rfl ?_
 refine WA.tp 44 rfl ?_
 refine WA.tp 45 rfl ?_
 refine WA.tp 46 rfl ?_
 refine WA.done (by kernel_rfl) ?_
 clear hS
 go_wp2
 go_ret
 exact ⟨rfl,Bf⟩
open Go.RowKit Go.Shelf
theorem Bf4 (b sv:Bool) (tx:ByteArray) (e0:Int) (pp:Pl) (a1 a2 a3:Option Addr) (n1 n2 n3 m1 m2 m3:Nat) (x y:Nat→Q3) (w:World)
  (HM:Hid (∀ wi,Below w.heap.size w wi→Calls Tryz.prog 54 #[.agg #[.slice a1 n1 m1,.slice a2 n2 m2,.slice a3 n3 m3,Iz (x 0).1,I (x 0).2.1,I (x 0).2.2,Iz (x 1).1,I (x 1).2.1,I (x 1).2.2,Iz (x 2).1,I (x 2).2.1,I (x 2).2.2,Iz (x 3).1,I (x 3).2.1,I (x 3).2.2,Iz (x 4).1,I (x 4).2.1,I (x 4).2.2,Iz (x 5).1,I (x 5).2.1,I (x 5).2.2,Iz (y 0).1,I (y 0).2.1,I (y 0).2.2,Iz (y 1).1,I (y 1).2.1,I (y 1).2.2,Iz (y 2).1,I (y 2).2.1,I (y 2).2.2,Iz (y 3).1,I (y 3).2.1,I (y 3).2.2,Iz (y 4).1,I (y 4).2.1,I (y 4).2.2,Iz (y 5).1,I (y 5).2.1,I (y 5).2.2]] wi (Re wi (Iz b))))
  (HT:Hid (b=true→∀ wi,Below w.heap.size w wi→Calls Tryz.prog 55 #[.agg #[.slice a1 n1 m1,.slice a2 n2 m2,.slice a3 n3 m3,Iz (x 0).1,I (x 0).2.1,I (x 0).2.2,Iz (x 1).1,I (x 1).2.1,I (x 1).2.2,Iz (x 2).1,I (x 2).2.1,I (x 2).2.2,Iz (x 3).1,I (x 3).2.1,I (x 3).2.2,Iz (x 4).1,I (x 4).2.1,I (x 4).2.2,Iz (x 5).1,I (x 5).2.1,I (x 5).2.2,Iz (y 0).1,I (y 0).2.1,I (y 0).2.2,Iz (y 1).1,I (y 1).2.1,I (y 1).2.2,Iz (y 2).1,I (y 2).2.1,I (y 2).2.2,Iz (y 3).1,I (y 3).2.1,I (y 3).2.2,Iz (y 4).1,I (y 4).2.1,I (y 4).2.2,Iz (y 5).1,I (y 5).2.1,I (y 5).2.2]] wi (Re wi (I tx))))
  (HP:Hid (∀ wi,Calls Tryz.prog 19 #[I tx] wi fun e w'=>∃ cs:List Value,e=.returned (.tuple #[.agg cs.toArray,.int .i64 e0])∧Co w' wi.heap.size cs pp∧Below wi.heap.size wi w'))
  (HS:Hid (e0=0→∀ wi,Below w.heap.size w wi→∀ ds C,Co wi C ds pp→Calls Tryz.prog 20 #[.agg #[.slice a1 n1 m1,.slice a2 n2 m2,.slice a3 n3 m3,Iz (x 0).1,I (x 0).2.1,I (x 0).2.2,Iz (x 1).1,I (x 1).2.1,I (x 1).2.2,Iz (x 2).1,I (x 2).2.1,I (x 2).2.2,Iz (x 3).1,I (x 3).2.1,I (x 3).2.2,Iz (x 4).1,I (x 4).2.1,I (x 4).2.2,Iz (x 5).1,I (x 5).2.1,I (x 5).2.2,Iz (y 0).1,I (y 0).2.1,I (y 0).2.2,Iz (y 1).1,I (y 1).2.1,I (y 1).2.2,Iz (y 2).1,I (y 2).2.1,I (y 2).2.2,Iz (y 3).1,I (y 3).2.1,I (y 3).2.2,Iz (y 4).1,I (y 4).2.1,I (y 4).2.2,Iz (y 5).1,I (y 5).2.1,I (y 5).2.2],.agg ds.toArray] wi (Re wi (Iz sv)))) :
  Calls Tryz.prog 24 #[.agg #[.slice a1 n1 m1,.slice a2 n2 m2,.slice a3 n3 m3,Iz (x 0).1,I (x 0).2.1,I (x 0).2.2,Iz (x 1).1,I (x 1).2.1,I (x 1).2.2,Iz (x 2).1,I (x 2).2.1,I (x 2).2.2,Iz (x 3).1,I (x 3).2.1,I (x 3).2.2,Iz (x 4).1,I (x 4).2.1,I (x 4).2.2,Iz (x 5).1,I (x 5).2.1,I (x 5).2.2,Iz (y 0).1,I (y 0).2.1,I (y 0).2.2,Iz (y 1).1,I (y 1).2.1,I (y 1).2.2,Iz (y 2).1,I (y 2).2.1,I (y 2).2.2,Iz (y 3).1,I (y 3).2.1,I (y 3).2.2,Iz (y 4).1,I (y 4).2.1,I (y 4).2.2,Iz (y 5).1,I (y 5).2.1,I (y 5).2.2]] w (Re w (.tuple #[I (if b=true∧e0=0∧sv=true then tx else eS),.int .i64 (if b=true∧e0=0∧sv=true then 0 else 1)])):=by
 obtain ⟨cs,hcs⟩:∃ cs:List Value,cs=Dq (.slice a1 n1 m1) (.slice a2 n2 m2) (.slice a3 n3 m3) (C4 x) (C4 y):=⟨_,rfl⟩
 have HM':Hid (∀ wi,Below w.heap.size w wi→Calls Tryz.prog 54 #[.agg cs.toArray] wi (Re wi (Iz b))):=by rw [hcs];exact HM
 have HT':Hid (b=true→∀ wi,Below w.heap.size w wi→Calls Tryz.prog 55 #[.agg cs.toArray] wi (Re wi (I tx))):=by rw [hcs];exact HT
 have HS':Hid (e0=0→∀ wi,Below w.heap.size w wi→∀ ds C,Co wi C ds pp→Calls Tryz.prog 20 #[.agg cs.toArray,.agg ds.toArray] wi (Re wi (Iz sv))):=by rw [hcs];exact HS
 have hlc:cs.length=39:=by rw [hcs];rfl
 obtain ⟨rt,hrt⟩:∃ t,t=(if b=true∧e0=0∧sv=true then tx else eS):=⟨_,rfl⟩
 obtain ⟨rc,hrc⟩:∃ c:Int,c=(if b=true∧e0=0∧sv=true then 0 else 1):=⟨_,rfl⟩
 rw [← hrt,← hrc]
 have HRt:=Ba hrt
 have HRc:=Ba hrc
 clear HM HT HS hrt hrc
 go_enter Tryz.func24,Tryz.ntmps24
 go_upto_region 1 with fail
 obtain ⟨w0,hq,kz,b0⟩:=Es w [.slice a1 n1 m1,.slice a2 n2 m2,.slice a3 n3 m3,Iz (x 0).1,I (x 0).2.1,I (x 0).2.2,Iz (x 1).1,I (x 1).2.1,I (x 1).2.2,Iz (x 2).1,I (x 2).2.1,I (x 2).2.2,Iz (x 3).1,I (x 3).2.1,I (x 3).2.2,Iz (x 4).1,I (x 4).2.1,I (x 4).2.2,Iz (x 5).1,I (x 5).2.1,I (x 5).2.2,Iz (y 0).1,I (y 0).2.1,I (y 0).2.2,Iz (y 1).1,I (y 1).2.1,I (y 1).2.2,Iz (y 2).1,I (y 2).2.1,I (y 2).2.2,Iz (y 3).1,I (y 3).2.1,I (y 3).2.2,Iz (y 4).1,I (y 4).2.1,I (y 4).2.2,Iz (y 5).1,I (y 5).2.1,I (y 5).2.2] 46
 rw [← hq]
 clear hq
 have kz1:Bi w0 w.heap.size (Dq (.slice a1 n1 m1) (.slice a2 n2 m2) (.slice a3 n3 m3) (C4 x) (C4 y)) 46:=kz
 clear kz
 rw [← hcs] at kz1
 generalize Value.agg #[.slice a1 n1 m1,.slice a2 n2 m2,.slice a3 n3 m3,Iz (x 0).1,I (x 0).2.1,I (x 0).2.2,Iz (x 1).1,I (x 1).2.1,I (x 1).2.2,Iz (x 2).1,I (x 2).2.1,I (x 2).2.2,Iz (x 3).1,I (x 3).2.1,I (x 3).2.2,Iz (x 4).1,I (x 4).2.1,I (x 4).2.2,Iz (x 5).1,I (x 5).2.1,I (x 5).2.2,Iz (y 0).1,I (y 0).2.1,I (y 0).2.2,Iz (y 1).1,I (y 1).2.1,I (y 1).2.2,Iz (y 2).1,I (y 2).2.1,I (y 2).2.2,Iz (y 3).1,I (y 3).2.1,I (y 3).2.2,Iz (y 4).1,I (y 4).2.1,I (y 4).2.2,Iz (y 5).1,I (y 5).2.1,I (y 5).2.2]=V0
 clear hcs
 cases b with
 | false =>
  go_wp2_with (first | (refine Je rfl 46 _ rfl _ rfl 46 cs.toArray (0,0) _ kz1 Tryz.underlying46 rfl (by rw [List.size_toArray,hlc];kernel_rfl) ?_) | (go_at_call 54;refine (HM'.out w0 b0).mono ?_;rintro e w1 ⟨rfl,b1⟩))
  go_ret2
  exact ⟨by rw [HRt.out,if_neg (show ¬ (false=true∧e0=0∧sv=true) by simp),HRc.out,if_neg (show ¬ (false=true∧e0=0∧sv=true) by simp)];rfl,Ia b0 b1⟩
 | true =>
  have HT2:=HT'.out rfl
  go_upto_region 3 with (first | (refine Je rfl 46 _ rfl _ rfl 46 cs.toArray (0,0) _ kz1 Tryz.underlying46 rfl (by rw [List.size_toArray,hlc];kernel_rfl) ?_) | (go_at_call 54;refine (HM'.out w0 b0).mono ?_;rintro e w1 ⟨rfl,b1⟩))
  have kz2:=kz1.b b1
  have B1:=Ia b0 b1
  clear kz1 b0 b1 HM' HT'
  go_upto_region 4 with (first | (refine Je rfl 46 _ rfl _ rfl 46 cs.toArray (0,0) _ kz2 Tryz.underlying46 rfl (by rw [List.size_toArray,hlc];kernel_rfl) ?_) | (go_at_call 55;refine (HT2 w1 B1).mono ?_;rintro e w2 ⟨rfl,b2⟩))
  have kz3:=kz2.b b2
  have B2:=Ia B1 b2
  clear kz2 B1 b2 HT2
  go_upto_region 5 with (go_at_call 19;refine (HP.out w2).mono ?_;rintro e w3 ⟨ds,rfl,hp,b3⟩;have hlen:=hp.len;obtain ⟨w4,hst,k4,b4⟩:=Hm w3 ds hp.len hp.one)
  have kz4:=(kz3.b b3).b b4
  have hp4:=hp.b b4
  have B4:=Ia (Ia B2 b3) b4
  clear hst kz3 hp B2 b3 b4 HP
  have rz:=Lm kz4
  have rd:=Lm k4
  by_cases he:e0=0
  ·have HS2:=HS'.out he
   subst he
   clear HS'
   cases sv <;>
   ·go_wp2_with (first | (refine Bg (by rfl) 46 _ rfl w.heap.size 0 rfl cs _ rz Tryz.underlying46 rfl (by rw [hlc];kernel_rfl) ?_) | (refine Bg (by rfl) 46 _ rfl w3.heap.size 0 rfl ds _ rd Tryz.underlying46 rfl (by rw [hlen];kernel_rfl) ?_) | (go_at_call 20;refine (HS2 w4 B4 ds _ hp4).mono ?_;rintro e w5 ⟨rfl,b5⟩))
    go_ret2
    have e1:=HRt.out
    have e2:=HRc.out
    simp at e1 e2
    exact ⟨by rw [e1,e2];rfl,Ia B4 b5⟩
  ·have he2:(e0 != 0)=true:=by simpa using he
   clear rz rd hp4 k4 kz4
   go_wp2
   go_ret2
   exact ⟨by rw [HRt.out,if_neg (fun h=>he h.2.1),HRc.out,if_neg (fun h=>he h.2.1)];rfl,B4⟩
theorem Bf2 {A1 A3:List (Q3 × Q3)} {A2:List (Int × Int × Bool)} {a1 a2 a3:Option Addr} {n1 n2 n3 m1 m2 m3:Nat} {x y:Nat→Q3} {w:World} {p:Pl} (b:Bool) (hb:b=true↔Mn A1 A3 A2 x y p) (h1:A1.length≤100000) (h2:A2.length≤100000) (h3:A3.length≤100000)
  (r1:B9 w 6 (.slice a1 n1 m1) (A1.map cP)) (r2:B9 w 3 (.slice a2 n2 m2) (A2.map cZ)) (r3:B9 w 6 (.slice a3 n3 m3) (A3.map cP)) (ds:List Value) (C:Nat) (k:Co w C ds p) :
  Calls Tryz.prog 20 #[.agg #[.slice a1 n1 m1,.slice a2 n2 m2,.slice a3 n3 m3,Iz (x 0).1,I (x 0).2.1,I (x 0).2.2,Iz (x 1).1,I (x 1).2.1,I (x 1).2.2,Iz (x 2).1,I (x 2).2.1,I (x 2).2.2,Iz (x 3).1,I (x 3).2.1,I (x 3).2.2,Iz (x 4).1,I (x 4).2.1,I (x 4).2.2,Iz (x 5).1,I (x 5).2.1,I (x 5).2.2,Iz (y 0).1,I (y 0).2.1,I (y 0).2.2,Iz (y 1).1,I (y 1).2.1,I (y 1).2.2,Iz (y 2).1,I (y 2).2.1,I (y 2).2.2,Iz (y 3).1,I (y 3).2.1,I (y 3).2.2,Iz (y 4).1,I (y 4).2.1,I (y 4).2.2,Iz (y 5).1,I (y 5).2.1,I (y 5).2.2],.agg ds.toArray] w (Re w (Iz b)):=by
 obtain ⟨v1,v2,v3,x',y',rfl,o1,o2,o3,hF,hG⟩:=k
 have s1:=B9.of cP D7 o1
 have s2:=B9.of cS Pf o2
 have s3:=B9.of cP D7 o3
 rw [Vi] at s2
 obtain ⟨b1,c1,rfl⟩:=By o1
 obtain ⟨b2,c2,rfl⟩:=By o2
 obtain ⟨b3,c3,rfl⟩:=By o3
 have:=Bf3 A1 A3 p.pts p.holes A2 (p.segs.map zS) a1 a2 a3 b1 b2 b3 n1 n2 n3 m1 m2 m3 _ _ _ c1 c2 c3 x y x' y' w h1 h2 h3 r1 r2 r3 s1 s2 s3
 have e:(decide (A1=p.pts) && decide (A2=p.segs.map zS) && decide (A3=p.holes) && decide ([x 0,x 1,x 2,x 3,x 4,x 5]=[x' 0,x' 1,x' 2,x' 3,x' 4,x' 5]) && decide ([y 0,y 1,y 2,y 3,y 4,y 5]=[y' 0,y' 1,y' 2,y' 3,y' 4,y' 5]))=b:=by
  rw [← hF,← hG,Bool.eq_iff_iff,hb]
  simp only [Bool.and_eq_true,decide_eq_true_eq]
  unfold Mn
  constructor
  ·rintro ⟨⟨⟨⟨q1,q2⟩,q3⟩,q4⟩,q5⟩
   exact ⟨q1,q2,q3,q4,q5⟩
  ·rintro ⟨q1,q2,q3,q4,q5⟩
   exact ⟨⟨⟨⟨q1,q2⟩,q3⟩,q4⟩,q5⟩
 rw [e] at this
 exact this
open Classical in
theorem Zm (P:ByteArray→Q3) (E:ByteArray→Int) (hP:PR3 P E) (A1 A3:List (Q3 × Q3)) (A2:List (Int × Int × Bool)) (a1 a2 a3:Option Addr) (n1 n2 n3 m1 m2 m3:Nat) (x y:Nat→Q3) (w:World) (e1:A1.length=n1) (e2:A2.length=n2) (e3:A3.length=n3) (h1:n1≤100) (h2:n2≤100) (h3:n3≤100) (s2:∀ s,s∈A2→Gg s.1∧Gg s.2.1)
  (r1:B9 w 6 (.slice a1 n1 m1) (A1.map cP)) (r2:B9 w 3 (.slice a2 n2 m2) (A2.map cZ)) (r3:B9 w 6 (.slice a3 n3 m3) (A3.map cP)) :
  Calls Tryz.prog 24 #[.agg #[.slice a1 n1 m1,.slice a2 n2 m2,.slice a3 n3 m3,Iz (x 0).1,I (x 0).2.1,I (x 0).2.2,Iz (x 1).1,I (x 1).2.1,I (x 1).2.2,Iz (x 2).1,I (x 2).2.1,I (x 2).2.2,Iz (x 3).1,I (x 3).2.1,I (x 3).2.2,Iz (x 4).1,I (x 4).2.1,I (x 4).2.2,Iz (x 5).1,I (x 5).2.1,I (x 5).2.2,Iz (y 0).1,I (y 0).2.1,I (y 0).2.2,Iz (y 1).1,I (y 1).2.1,I (y 1).2.2,Iz (y 2).1,I (y 2).2.1,I (y 2).2.2,Iz (y 3).1,I (y 3).2.1,I (y 3).2.2,Iz (y 4).1,I (y 4).2.1,I (y 4).2.2,Iz (y 5).1,I (y 5).2.1,I (y 5).2.2]] w fun e w'=>∃ (t:ByteArray) (c:Int),e=.returned (.tuple #[I t,.int .i64 c])∧Below w.heap.size w w' ∧
   (U6 n1 n2 n3 A1 A3 x y=true→(Fi P E (Lc A1 A3 A2 x y n1 n2 n3)).2=0→Mn A1 A3 A2 x y (Fi P E (Lc A1 A3 A2 x y n1 n2 n3)).1→t=Lc A1 A3 A2 x y n1 n2 n3∧c=0) ∧
   (¬ (U6 n1 n2 n3 A1 A3 x y=true∧(Fi P E (Lc A1 A3 A2 x y n1 n2 n3)).2=0∧Mn A1 A3 A2 x y (Fi P E (Lc A1 A3 A2 x y n1 n2 n3)).1)→t=eS∧c=1):=by
 have HP:=fun wi=>Zu P E hP (Lc A1 A3 A2 x y n1 n2 n3) wi
 have HM:∀ wi,Below w.heap.size w wi→Calls Tryz.prog 54 #[.agg #[.slice a1 n1 m1,.slice a2 n2 m2,.slice a3 n3 m3,Iz (x 0).1,I (x 0).2.1,I (x 0).2.2,Iz (x 1).1,I (x 1).2.1,I (x 1).2.2,Iz (x 2).1,I (x 2).2.1,I (x 2).2.2,Iz (x 3).1,I (x 3).2.1,I (x 3).2.2,Iz (x 4).1,I (x 4).2.1,I (x 4).2.2,Iz (x 5).1,I (x 5).2.1,I (x 5).2.2,Iz (y 0).1,I (y 0).2.1,I (y 0).2.2,Iz (y 1).1,I (y 1).2.1,I (y 1).2.2,Iz (y 2).1,I (y 2).2.1,I (y 2).2.2,Iz (y 3).1,I (y 3).2.1,I (y 3).2.2,Iz (y 4).1,I (y 4).2.1,I (y 4).2.2,Iz (y 5).1,I (y 5).2.1,I (y 5).2.2]] wi (Re wi (Iz (U6 n1 n2 n3 A1 A3 x y))):=fun wi b=>Zf A1 A3 a1 a2 a3 n1 n2 n3 m1 m2 m3 x y wi e1 e3 (r1.b b) (r3.b b)
 generalize hq:Fi P E (Lc A1 A3 A2 x y n1 n2 n3)=q at *
 obtain ⟨pp,e0⟩:=q
 have HS:e0=0→∀ wi,Below w.heap.size w wi→∀ ds C,Co wi C ds pp→Calls Tryz.prog 20 #[.agg #[.slice a1 n1 m1,.slice a2 n2 m2,.slice a3 n3 m3,Iz (x 0).1,I (x 0).2.1,I (x 0).2.2,Iz (x 1).1,I (x 1).2.1,I (x 1).2.2,Iz (x 2).1,I (x 2).2.1,I (x 2).2.2,Iz (x 3).1,I (x 3).2.1,I (x 3).2.2,Iz (x 4).1,I (x 4).2.1,I (x 4).2.2,Iz (x 5).1,I (x 5).2.1,I (x 5).2.2,Iz (y 0).1,I (y 0).2.1,I (y 0).2.2,Iz (y 1).1,I (y 1).2.1,I (y 1).2.2,Iz (y 2).1,I (y 2).2.1,I (y 2).2.2,Iz (y 3).1,I (y 3).2.1,I (y 3).2.2,Iz (y 4).1,I (y 4).2.1,I (y 4).2.2,Iz (y 5).1,I (y 5).2.1,I (y 5).2.2],.agg ds.toArray] wi (Re wi (Iz (decide (Mn A1 A3 A2 x y pp)))):=fun _ wi b ds C k=>Bf2 (decide (Mn A1 A3 A2 x y pp)) (by simp) (by omega) (by omega) (by omega) (r1.b b) (r2.b b) (r3.b b) ds C k
 refine (Bf4 (U6 n1 n2 n3 A1 A3 x y) (decide (Mn A1 A3 A2 x y pp)) (Lc A1 A3 A2 x y n1 n2 n3) e0 pp a1 a2 a3 n1 n2 n3 m1 m2 m3 x y w HM (fun hs wi b=>Bdd A1 A3 A2 a1 a2 a3 n1 n2 n3 m1 m2 m3 x y wi e1 e2 e3 hs s2 (r1.b b) (r2.b b) (r3.b b)) HP HS).mono ?_
 rintro e w' ⟨rfl,b⟩
 refine ⟨_,_,rfl,b,fun c1 c2 c3=>?_,fun hn=>?_⟩
 ·rw [if_pos ⟨c1,c2,decide_eq_true c3⟩,if_pos ⟨c1,c2,decide_eq_true c3⟩]
  exact ⟨rfl,rfl⟩
 ·have hn':¬ (U6 n1 n2 n3 A1 A3 x y=true∧e0=0∧decide (Mn A1 A3 A2 x y pp)=true):=fun ⟨c1,c2,c3⟩=>hn ⟨c1,c2,of_decide_eq_true c3⟩
  rw [if_neg hn',if_neg hn']
  exact ⟨rfl,rfl⟩
open Go.RowKit Go.Shelf
theorem O4 {w w':World} {B:Nat} {v1 v2 v3:Value} {A1 A3:List (Q3 × Q3)} {A2:List (Int × Int × Bool)} (h:PlZ w B v1 v2 v3 A1 A3 A2) (b:Below w.heap.size w w'):PlZ w' B v1 v2 v3 A1 A3 A2 :=
 ⟨Cg h.1 b,Cg h.2.1 b,Cg h.2.2 b⟩
theorem Bjq {w:World} {B:Nat} {v1 v2 v3:Value} {A1 A3:List (Q3 × Q3)} {A2:List (Int × Int × Bool)} {x y:Nat→Q3} (h:PlZ w B v1 v2 v3 A1 A3 A2):(Dq v1 v2 v3 (C4 x) (C4 y)).toArray.all (·.oneCell')=true:=by
 obtain ⟨o1,o2,o3⟩:=h
 obtain ⟨b1,c1,rfl⟩:=By o1
 obtain ⟨b2,c2,rfl⟩:=By o2
 obtain ⟨b3,c3,rfl⟩:=By o3
 kernel_rfl
def LV (w:World):Prop:=∀ wi,Below w.heap.size w wi→Calls Tryz.prog 21 #[] wi fun e w'=>e=.returned (Iz true)∧Below wi.heap.size wi w'
theorem Vb (a1 a2 a3:Option Addr) (n1 n2 n3 m1 m2 m3:Nat) (x y:Nat→Q3) (w:World) (h:¬ (n1≤50∧n2≤70∧n3≤20)) (HL:Hid (LV w)) :
  Calls Tryz.prog 5 #[.agg #[.slice a1 n1 m1,.slice a2 n2 m2,.slice a3 n3 m3,Iz (x 0).1,I (x 0).2.1,I (x 0).2.2,Iz (x 1).1,I (x 1).2.1,I (x 1).2.2,Iz (x 2).1,I (x 2).2.1,I (x 2).2.2,Iz (x 3).1,I (x 3).2.1,I (x 3).2.2,Iz (x 4).1,I (x 4).2.1,I (x 4).2.2,Iz (x 5).1,I (x 5).2.1,I (x 5).2.2,Iz (y 0).1,I (y 0).2.1,I (y 0).2.2,Iz (y 1).1,I (y 1).2.1,I (y 1).2.2,Iz (y 2).1,I (y 2).2.1,I (y 2).2.2,Iz (y 3).1,I (y 3).2.1,I (y 3).2.2,Iz (y 4).1,I (y 4).2.1,I (y 4).2.2,Iz (y 5).1,I (y 5).2.1,I (y 5).2.2]] w (Re w (Iz true)):=by
 have cut:(50:Int)<(n1:Int)∨(¬ (50:Int)<(n1:Int)∧(70:Int)<(n2:Int))∨(¬ (50:Int)<(n1:Int)∧¬ (70:Int)<(n2:Int)∧(20:Int)<(n3:Int)):=by omega
 clear h
 go_enter Tryz.func5,Tryz.ntmps5
 go_upto_region 1 with fail
 obtain ⟨w0,hq,kz,b0⟩:=Es w [.slice a1 n1 m1,.slice a2 n2 m2,.slice a3 n3 m3,Iz (x 0).1,I (x 0).2.1,I (x 0).2.2,Iz (x 1).1,I (x 1).2.1,I (x 1).2.2,Iz (x 2).1,I (x 2).2.1,I (x 2).2.2,Iz (x 3).1,I (x 3).2.1,I (x 3).2.2,Iz (x 4).1,I (x 4).2.1,I (x 4).2.2,Iz (x 5).1,I (x 5).2.1,I (x 5).2.2,Iz (y 0).1,I (y 0).2.1,I (y 0).2.2,Iz (y 1).1,I (y 1).2.1,I (y 1).2.2,Iz (y 2).1,I (y 2).2.1,I (y 2).2.2,Iz (y 3).1,I (y 3).2.1,I (y 3).2.2,Iz (y 4).1,I (y 4).2.1,I (y 4).2.2,Iz (y 5).1,I (y 5).2.1,I (y 5).2.2] 46
 rw [← hq]
 clear hq
 have c0:w0.cell? ⟨w.heap.size,0,none⟩=some (.slice a1 n1 m1):=kz.cell 0
 have c1:w0.cell? ⟨w.heap.size,1,none⟩=some (.slice a2 n2 m2):=kz.cell 1
 have c2:w0.cell? ⟨w.heap.size,2,none⟩=some (.slice a3 n3 m3):=kz.cell 2
 clear kz
 generalize Value.agg _=V0
 rcases cut with g1 | ⟨g1,g2⟩ | ⟨g1,g2,g3⟩ <;>
 ·go_wp2_with (go_at_call 21;refine (HL.out w0 b0).mono ?_;rintro e w1 ⟨rfl,b1⟩)
  go_ret
  exact ⟨rfl,Ia b0 b1⟩
theorem Pq (rt:ByteArray) (rc:Int) (A1 A3:List (Q3 × Q3)) (A2:List (Int × Int × Bool)) (a1 a2 a3:Option Addr) (n1 n2 n3 m1 m2 m3:Nat) (x y:Nat→Q3) (w:World) (h1:n1≤50) (h2:n2≤70) (h3:n3≤20) (HL:Hid (LV w))
  (cs:List Value) (hcs:cs=Dq (.slice a1 n1 m1) (.slice a2 n2 m2) (.slice a3 n3 m3) (C4 x) (C4 y))
  (HC':Hid (∀ wi,Below w.heap.size w wi→Calls Tryz.prog 22 #[.agg cs.toArray] wi fun e w'=>∃ v1 v2 v3,e=.returned (.agg (Dq v1 v2 v3 (C4 x) (C4 y)).toArray)∧PlZ w' wi.heap.size v1 v2 v3 A1 A3 A2∧Below wi.heap.size wi w'))
  (HP:Hid (∀ wi,Below w.heap.size w wi→∀ B v1 v2 v3,PlZ wi B v1 v2 v3 A1 A3 A2→Calls Tryz.prog 23 #[.agg (Dq v1 v2 v3 (C4 x) (C4 y)).toArray] wi (Re wi (.tuple #[I rt,.int .i64 rc]))))
  (HR':Hid (∀ wi,Below w.heap.size w wi→Calls Tryz.prog 24 #[.agg cs.toArray] wi (Re wi (.tuple #[I rt,.int .i64 rc]))))
  (HS':Hid (∀ wi,Below w.heap.size w wi→∀ B v1 v2 v3,PlZ wi B v1 v2 v3 A1 A3 A2→Calls Tryz.prog 20 #[.agg (Dq v1 v2 v3 (C4 x) (C4 y)).toArray,.agg cs.toArray] wi (Re wi (Iz true)))) :
  Calls Tryz.prog 5 #[.agg #[.slice a1 n1 m1,.slice a2 n2 m2,.slice a3 n3 m3,Iz (x 0).1,I (x 0).2.1,I (x 0).2.2,Iz (x 1).1,I (x 1).2.1,I (x 1).2.2,Iz (x 2).1,I (x 2).2.1,I (x 2).2.2,Iz (x 3).1,I (x 3).2.1,I (x 3).2.2,Iz (x 4).1,I (x 4).2.1,I (x 4).2.2,Iz (x 5).1,I (x 5).2.1,I (x 5).2.2,Iz (y 0).1,I (y 0).2.1,I (y 0).2.2,Iz (y 1).1,I (y 1).2.1,I (y 1).2.2,Iz (y 2).1,I (y 2).2.1,I (y 2).2.2,Iz (y 3).1,I (y 3).2.1,I (y 3).2.2,Iz (y 4).1,I (y 4).2.1,I (y 4).2.2,Iz (y 5).1,I (y 5).2.1,I (y 5).2.2]] w (Re w (Iz true)):=by
 have g1:¬ (50:Int)<(n1:Int):=by omega
 have g2:¬ (70:Int)<(n2:Int):=by omega
 have g3:¬ (20:Int)<(n3:Int):=by omega
 have hlc:cs.length=39:=by rw [hcs];rfl
 clear h1 h2 h3
 go_enter Tryz.func5,Tryz.ntmps5
 go_upto_region 1 with fail
 obtain ⟨w0,hq,kz,b0⟩:=Es w [.slice a1 n1 m1,.slice a2 n2 m2,.slice a3 n3 m3,Iz (x 0).1,I (x 0).2.1,I (x 0).2.2,Iz (x 1).1,I (x 1).2.1,I (x 1).2.2,Iz (x 2).1,I (x 2).2.1,I (x 2).2.2,Iz (x 3).1,I (x 3).2.1,I (x 3).2.2,Iz (x 4).1,I (x 4).2.1,I (x 4).2.2,Iz (x 5).1,I (x 5).2.1,I (x 5).2.2,Iz (y 0).1,I (y 0).2.1,I (y 0).2.2,Iz (y 1).1,I (y 1).2.1,I (y 1).2.2,Iz (y 2).1,I (y 2).2.1,I (y 2).2.2,Iz (y 3).1,I (y 3).2.1,I (y 3).2.2,Iz (y 4).1,I (y 4).2.1,I (y 4).2.2,Iz (y 5).1,I (y 5).2.1,I (y 5).2.2] 46
 rw [← hq]
 clear hq
 have c0:w0.cell? ⟨w.heap.size,0,none⟩=some (.slice a1 n1 m1):=kz.cell 0
 have c1:w0.cell? ⟨w.heap.size,1,none⟩=some (.slice a2 n2 m2):=kz.cell 1
 have c2:w0.cell? ⟨w.heap.size,2,none⟩=some (.slice a3 n3 m3):=kz.cell 2
 have kz1:Bi w0 w.heap.size (Dq (.slice a1 n1 m1) (.slice a2 n2 m2) (.slice a3 n3 m3) (C4 x) (C4 y)) 46:=kz
 clear kz
 rw [← hcs] at kz1
 generalize Value.agg #[.slice a1 n1 m1,.slice a2 n2 m2,.slice a3 n3 m3,Iz (x 0).1,I (x 0).2.1,I (x 0).2.2,Iz (x 1).1,I (x 1).2.1,I (x 1).2.2,Iz (x 2).1,I (x 2).2.1,I (x 2).2.2,Iz (x 3).1,I (x 3).2.1,I (x 3).2.2,Iz (x 4).1,I (x 4).2.1,I (x 4).2.2,Iz (x 5).1,I (x 5).2.1,I (x 5).2.2,Iz (y 0).1,I (y 0).2.1,I (y 0).2.2,Iz (y 1).1,I (y 1).2.1,I (y 1).2.2,Iz (y 2).1,I (y 2).2.1,I (y 2).2.2,Iz (y 3).1,I (y 3).2.1,I (y 3).2.2,Iz (y 4).1,I (y 4).2.1,I (y 4).2.2,Iz (y 5).1,I (y 5).2.1,I (y 5).2.2]=V0
 clear hcs
 go_upto_region 3 with fail
 clear c0 c1 c2 g1 g2 g3
 go_upto_region 4 with (first | (refine Je rfl 46 _ rfl _ rfl 46 cs.toArray (0,0) _ kz1 Tryz.underlying46 rfl (by rw [List.size_toArray,hlc];kernel_rfl) ?_) | (go_at_call 22;refine (HC'.out w0 b0).mono ?_;rintro e w1 ⟨v1,v2,v3,rfl,hp,b1⟩;have hld:(Dq v1 v2 v3 (C4 x) (C4 y)).length=39:=rfl;have hon:=Bjq (x:=x) (y:=y) hp;have hSp:=fun wi b=>HS'.out wi b w0.heap.size v1 v2 v3;have hPp:=fun wi b=>HP.out wi b w0.heap.size v1 v2 v3;generalize Dq v1 v2 v3 (C4 x) (C4 y)=ds at *;obtain ⟨w2,hst,k2,b2⟩:=Hm w1 ds hld hon))
 have B2:=Ia (Ia b0 b1) b2
 have kz2:=(kz1.b b1).b b2
 have hp2:=O4 hp b2
 have HSp:=Ba hSp
 have HPp:=Ba hPp
 clear hst kz1 hp b0 b1 b2 HC' HS' HP hon hSp hPp
 go_upto_region 5 with (first | (refine Je rfl 46 _ rfl _ rfl 46 ds.toArray (0,0) _ k2 Tryz.underlying46 rfl (by rw [List.size_toArray,hld];kernel_rfl) ?_) | (go_at_call 23;refine (HPp.out w2 B2 hp2).mono ?_;rintro e w3 ⟨rfl,b3⟩))
 have B3:=Ia B2 b3
 have kz3:=kz2.b b3
 have k3:=k2.b b3
 have hp3:=O4 hp2 b3
 clear B2 kz2 k2 hp2 b3 HPp
 go_upto_region 6 with (first | (refine Je rfl 46 _ rfl _ rfl 46 cs.toArray (0,0) _ kz3 Tryz.underlying46 rfl (by rw [List.size_toArray,hlc];kernel_rfl) ?_) | (go_at_call 24;refine (HR'.out w3 B3).mono ?_;rintro e w4 ⟨rfl,b4⟩))
 have B4:=Ia B3 b4
 have rz:=Lm (kz3.b b4)
 have rd:=Lm (k3.b b4)
 have hp4:=O4 hp3 b4
 have ht:(rt.toList == rt.toList)=true:=beq_self_eq_true _
 have hc:(rc == rc)=true:=beq_self_eq_true _
 clear B3 kz3 k3 hp3 b4 HR'
 go_wp2_with (first | (refine Bg (by rfl) 46 _ rfl w.heap.size 0 rfl cs _ rz Tryz.underlying46 rfl (by rw [hlc];kernel_rfl) ?_) | (refine Bg (by rfl) 46 _ rfl w1.heap.size 0 rfl ds _ rd Tryz.underlying46 rfl (by rw [hld];kernel_rfl) ?_) | (go_at_call 20;refine (HSp.out w4 B4 hp4).mono ?_;rintro e w5 ⟨rfl,b5⟩;have B5:=Ia B4 b5) | (go_at_call 21;refine (HL.out w5 B5).mono ?_;rintro e w6 ⟨rfl,b6⟩;have B6:=Ia B5 b6))
 go_ret
 exact ⟨rfl,B6⟩
theorem Bku (l:List (Nat × Nat × Bool)):(l.map zS).flatMap cZ=l.flatMap cS:=by
 rw [List.flatMap_map]
 rfl
open Classical in
theorem Xq (A1 A3:List (Q3 × Q3)) (A2:List (Int × Int × Bool)) (a1 a2 a3:Option Addr) (n1 n2 n3 m1 m2 m3:Nat) (x y:Nat→Q3) (w:World) (aL:Addr) (h:Na w aL) (hTP:Ee w) (e1:A1.length=n1) (e2:A2.length=n2) (e3:A3.length=n3) (s2:∀ s,s∈A2→Gg s.1∧Gg s.2.1)
  (r1:B9 w 6 (.slice a1 n1 m1) (A1.map cP)) (r2:B9 w 3 (.slice a2 n2 m2) (A2.map cZ)) (r3:B9 w 6 (.slice a3 n3 m3) (A3.map cP)) (z1:a1=none→m1=0) (z2:a2=none→m2=0) (z3:a3=none→m3=0) :
  Calls Tryz.prog 5 #[.agg #[.slice a1 n1 m1,.slice a2 n2 m2,.slice a3 n3 m3,Iz (x 0).1,I (x 0).2.1,I (x 0).2.2,Iz (x 1).1,I (x 1).2.1,I (x 1).2.2,Iz (x 2).1,I (x 2).2.1,I (x 2).2.2,Iz (x 3).1,I (x 3).2.1,I (x 3).2.2,Iz (x 4).1,I (x 4).2.1,I (x 4).2.2,Iz (x 5).1,I (x 5).2.1,I (x 5).2.2,Iz (y 0).1,I (y 0).2.1,I (y 0).2.2,Iz (y 1).1,I (y 1).2.1,I (y 1).2.2,Iz (y 2).1,I (y 2).2.1,I (y 2).2.2,Iz (y 3).1,I (y 3).2.1,I (y 3).2.2,Iz (y 4).1,I (y 4).2.1,I (y 4).2.2,Iz (y 5).1,I (y 5).2.1,I (y 5).2.2]] w (Re w (Iz true)):=by
 have HL:Hid (LV w):=Ba (fun wi (b:Below w.heap.size w wi)=>Bd8 wi aL (h.b b) (hTP.bel b))
 by_cases hn:n1≤50∧n2≤70∧n3≤20
 ·obtain ⟨h1,h2,h3⟩:=hn
  obtain ⟨P,E,hP,hP3,hG⟩:=Bnf w h.tab
  obtain ⟨cs,hcs⟩:∃ cs:List Value,cs=Dq (.slice a1 n1 m1) (.slice a2 n2 m2) (.slice a3 n3 m3) (C4 x) (C4 y):=⟨_,rfl⟩
  have HC0:=fun wi (b:Below w.heap.size w wi)=>Bh7 A1 A3 A2 a1 a2 a3 n1 n2 n3 m1 m2 m3 x y wi e1 e2 e3 (by omega) (by omega) (by omega) (r1.b b) (r2.b b) (r3.b b) z1 z2 z3
  have HC:∀ wi,Below w.heap.size w wi→Calls Tryz.prog 22 #[.agg cs.toArray] wi fun e w'=>∃ v1 v2 v3,e=.returned (.agg (Dq v1 v2 v3 (C4 x) (C4 y)).toArray)∧PlZ w' wi.heap.size v1 v2 v3 A1 A3 A2∧Below wi.heap.size wi w':=by rw [hcs];exact HC0
  have HS:∀ wi,Below w.heap.size w wi→∀ B v1 v2 v3,PlZ wi B v1 v2 v3 A1 A3 A2→Calls Tryz.prog 20 #[.agg (Dq v1 v2 v3 (C4 x) (C4 y)).toArray,.agg cs.toArray] wi (Re wi (Iz true)):=fun wi b B v1 v2 v3 hp=>by
   obtain ⟨o1,o2,o3⟩:=hp
   have q1:=B9.of cP D7 o1
   have q2:=B9.of cZ Vz o2
   have q3:=B9.of cP D7 o3
   obtain ⟨b1,c1,rfl⟩:=By o1
   obtain ⟨b2,c2,rfl⟩:=By o2
   obtain ⟨b3,c3,rfl⟩:=By o3
   have:=Bf3 A1 A3 A1 A3 A2 A2 b1 b2 b3 a1 a2 a3 _ _ _ c1 c2 c3 n1 n2 n3 m1 m2 m3 x y x y wi (by omega) (by omega) (by omega) q1 q2 q3 (r1.b b) (r2.b b) (r3.b b)
   simp only [decide_true,Bool.and_true] at this
   rw [hcs]
   exact this
  have HRf:∀ wi,Below w.heap.size w wi→Calls Tryz.prog 24 #[.agg cs.toArray] wi fun e w'=>∃ (t:ByteArray) (c:Int),e=.returned (.tuple #[I t,.int .i64 c])∧Below wi.heap.size wi w' ∧
   (U6 n1 n2 n3 A1 A3 x y=true→(Fi P E (Lc A1 A3 A2 x y n1 n2 n3)).2=0→Mn A1 A3 A2 x y (Fi P E (Lc A1 A3 A2 x y n1 n2 n3)).1→t=Lc A1 A3 A2 x y n1 n2 n3∧c=0) ∧
   (¬ (U6 n1 n2 n3 A1 A3 x y=true∧(Fi P E (Lc A1 A3 A2 x y n1 n2 n3)).2=0∧Mn A1 A3 A2 x y (Fi P E (Lc A1 A3 A2 x y n1 n2 n3)).1)→t=eS∧c=1):=fun wi b=>by
   have:=Zm P E hP3 A1 A3 A2 a1 a2 a3 n1 n2 n3 m1 m2 m3 x y wi e1 e2 e3 (by omega) (by omega) (by omega) s2 (r1.b b) (r2.b b) (r3.b b)
   rw [hcs]
   exact this
  by_cases hg:∃ s,(Fi P E s).2=0∧Mn A1 A3 A2 x y (Fi P E s).1
  ·obtain ⟨s,hs0,hi⟩:=hg
   have hq:=Bol hG hs0
   generalize (Fi P E s).1=p at hi hq
   have hb:=Xp (hq.mono fun q g=>Bn2 hP w h.tab g)
   have ht:=Bmw hi hq
   have hsm:=Bo7 hi hq
   rw [e1,e2,e3] at ht hsm
   refine Pq (Wi V9 p) 0 A1 A3 A2 a1 a2 a3 n1 n2 n3 m1 m2 m3 x y w h1 h2 h3 HL cs hcs HC (fun wi b B v1 v2 v3 hp=>?_) (fun wi b=>?_) HS
   ·obtain ⟨i1,i2,i3,i4,i5⟩:=hi
    obtain ⟨o1,o2,o3⟩:=hp
    refine Bjs P E hP p hq wi aL (h.b b) (hTP.bel b) _ B ⟨v1,v2,v3,x,y,rfl,?_,?_,?_,i4.symm,i5.symm⟩
    ·rw [← i1];exact o1
    ·rw [i2,List.length_map,Bku] at o2;exact o2
    ·rw [← i3];exact o3
   ·refine (HRf wi b).mono ?_
    rintro e w' ⟨t,c,rfl,bb,k1,-⟩
    have k:=k1 hsm (by rw [ht,hb]) (by rw [ht,hb];exact hi)
    rw [ht] at k
    rw [k.1,k.2]
    exact ⟨rfl,bb⟩
  ·have hne:∀ s,(Fi P E s).2=0→¬ Mn A1 A3 A2 x y (Fi P E s).1:=fun s a b=>hg ⟨s,a,b⟩
   refine Pq eS 1 A1 A3 A2 a1 a2 a3 n1 n2 n3 m1 m2 m3 x y w h1 h2 h3 HL cs hcs HC (fun wi b B v1 v2 v3 hp=>?_) (fun wi b=>?_) HS
   ·obtain ⟨o1,o2,o3⟩:=hp
    have q1:=B9.of cP D7 o1
    have q2:=B9.of cZ Vz o2
    have q3:=B9.of cP D7 o3
    obtain ⟨b1,c1,rfl⟩:=By o1
    obtain ⟨b2,c2,rfl⟩:=By o2
    obtain ⟨b3,c3,rfl⟩:=By o3
    by_cases hm:A1.length≤40∧A2.length≤60∧A3.length≤10
    ·exact Bad P E hP A1 A3 A2 b1 b2 b3 _ _ _ c1 c2 c3 x y wi aL (h.b b) (hTP.bel b) rfl rfl rfl hm.1 hm.2.1 hm.2.2 q1 q2 q3 s2 hne
    ·exact Xr b1 b2 b3 _ _ _ c1 c2 c3 x y wi hm
   ·refine (HRf wi b).mono ?_
    rintro e w' ⟨t,c,rfl,bb,-,k2⟩
    have k:=k2 (fun hh=>hne _ hh.2.1 hh.2.2)
    rw [k.1,k.2]
    exact ⟨rfl,bb⟩
 ·exact Vb a1 a2 a3 n1 n2 n3 m1 m2 m3 x y w hn HL
end Go.Proofs.YtnplifkgeeicjaaGreatDoor
