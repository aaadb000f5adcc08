import Derived.Test.YtnplifkgeeicjaaGreatDoorV48
import Derived.Test.YtnplifkgeeicjaaGreatDoorV49
set_option maxRecDepth 1000000
set_option maxHeartbeats 8000000
namespace Go.Proofs.YtnplifkgeeicjaaGreatDoor
open Go.RowKit
def Xz (l:List (Int × Int × Bool)):List (List ByteArray):=l.map fun s=>[IE s.1,IE s.2.1,Py s.2.2]
def M0 (T:Q3→ByteArray) (A1 A3:List (Q3 × Q3)) (A2:List (Int × Int × Bool)) (F G:List Q3):List (List ByteArray) :=
 ((((((([[wP]] ++ [[wV,dg A1.length]]) ++ Mm T A1) ++ [[wS,dg A2.length]]) ++ Xz A2) ++ [[wH,dg A3.length]]) ++ Mm T A3) ++ [[wF] ++ F.map T,[wG] ++ G.map T,[wE]])
def Bi0 (T:Q3→ByteArray) (A1 A3:List (Q3 × Q3)) (A2:List (Int × Int × Bool)) (F G:List Q3):ByteArray:=⟨(He (M0 T A1 A3 A2 F G)).toArray⟩
def Gg (n:Int):Prop:=-9223372036854775808≤n∧n≤9223372036854775807
theorem Bj8 (l:List (Int × Int × Bool)) (k:Nat):(Xz (l.take k)).length≤k:=by
 unfold Xz
 rw [List.length_map,List.length_take]
 omega
theorem Bnc (l:List (Int × Int × Bool)) (k:Nat) (q:Int × Int × Bool) (h:l[k]?=some q) (L:List (List ByteArray)):(L ++ Xz (l.take k)) ++ [[IE q.1,IE q.2.1,Py q.2.2]]=L ++ Xz (l.take (k+1)):=by
 rw [List.take_add_one,h]
 unfold Xz
 simp
theorem Bec (a b:Int) (f:Bool) (w:World):Calls Tryz.prog 98 #[.agg #[.int .i64 a,.int .i64 b,Iz f]] w (Re w (I (Py f))):=by
 go_enter Tryz.func98,Tryz.ntmps98
 go_upto_region 1 with fail
 obtain ⟨w0,hq,kz,b0⟩:=Es w [.int .i64 a,.int .i64 b,Iz f] 103
 rw [← hq]
 clear hq
 have k2:=kz.cell 2
 have c2:w0.cell? ⟨w.heap.size,2,none⟩=some (Iz f):=k2
 clear k2 kz
 cases f <;> (go_wp2;go_ret;exact ⟨rfl,b0⟩)
theorem Beg (l:List ByteArray) (v:Value) (w:World) (hr:B9 w 1 v (l.map fun u=>[Value.string u])) (h0:0<l.length) (hl:l.length≤10) (hz:∀ u,u∈l→u.size≤50000) :
  Calls Tryz.prog 101 #[v,I ⟨#[32]⟩] w (Re w (I ⟨(M5 l).toArray⟩)):=by
 match l,hr,h0,hl,hz with
 | [t],hr,_,_,_=>exact Bhj t v w hr
 | t :: u :: r,hr,_,hl,hz=>exact Bef t (u :: r) v w hr (by simp at hl ⊢;omega) (by simp) (fun q hq=>Nat.le_trans (hz q hq) (by decide))
def Ov (L:List (List ByteArray)):Prop:=∀ l,l∈L→0<l.length∧l.length≤10∧∀ t,t∈l→t.size≤50000
theorem Sk (n:Nat) (h:n<100):(dg n).size≤50000:=by
 have:∀ n,n<100→(dg n).size≤50000:=by decide +kernel
 exact this n h
theorem Bed (f:Bool):(Py f).size≤50000:=by cases f <;> decide
theorem F3 {L M:List (List ByteArray)} (h:Ov L) (k:Ov M):Ov (L ++ M):=fun l hl=>by
 rcases List.mem_append.1 hl with q | q
 ·exact h l q
 ·exact k l q
theorem L9 {a b:ByteArray} (ha:a.size≤50000) (hb:b.size≤50000):Ov [[a,b]]:=fun l hl=>by
 rw [List.mem_singleton.1 hl]
 refine ⟨by simp,by simp,fun t ht=>?_⟩
 rcases List.mem_cons.1 ht with rfl | ht
 ·exact ha
 ·rw [List.mem_singleton.1 ht];exact hb
theorem Bcd {T:Q3→ByteArray} (hT:∀ q,(T q).size≤50000) (l:List (Q3 × Q3)):Ov (Mm T l):=fun m hm=>by
 obtain ⟨q,-,rfl⟩:=List.mem_map.1 hm
 exact L9 (hT _) (hT _) _ (List.mem_singleton.2 rfl)
theorem Bj9 (l:List (Int × Int × Bool)):Ov (Xz l):=fun m hm=>by
 obtain ⟨q,hq,rfl⟩:=List.mem_map.1 hm
 refine ⟨by simp,by simp,fun t ht=>?_⟩
 rcases List.mem_cons.1 ht with rfl | ht
 ·exact Jf (Bc3 _) (by decide)
 rcases List.mem_cons.1 ht with rfl | ht
 ·exact Jf (Bc3 _) (by decide)
 ·rw [List.mem_singleton.1 ht];exact Bed _
theorem Bce {T:Q3→ByteArray} (hT:∀ q,(T q).size≤50000) (c:ByteArray) (hc:c.size≤50000) (F:List Q3) (hF:F.length≤9) (l:List ByteArray) (hl:l=[c] ++ F.map T):0<l.length∧l.length≤10∧∀ t,t∈l→t.size≤50000:=by
 subst hl
 refine ⟨by simp,by simp;omega,fun t ht=>?_⟩
 rcases List.mem_append.1 ht with ht | ht
 ·rw [List.mem_singleton.1 ht];exact hc
 ·obtain ⟨q,-,rfl⟩:=List.mem_map.1 ht
  exact hT q
theorem Bd9 {T:Q3→ByteArray} (hT:∀ q,(T q).size≤50000) (A1 A3:List (Q3 × Q3)) (A2:List (Int × Int × Bool)) (F G:List Q3) (h1:A1.length<100) (h2:A2.length<100) (h3:A3.length<100) (hF:F.length≤9) (hG:G.length≤9):Ov (M0 T A1 A3 A2 F G):=by
 unfold M0
 have w1:∀ c:ByteArray,c.size≤50000→Ov [[c]]:=fun c hc l hl=>by
  rw [List.mem_singleton.1 hl]
  exact ⟨by simp,by simp,fun t ht=>by rw [List.mem_singleton.1 ht];exact hc⟩
 refine F3 (F3 (F3 (F3 (F3 (F3 (F3 (w1 _ (by decide)) (L9 (by decide) (Sk _ h1))) (Bcd hT _)) (L9 (by decide) (Sk _ h2))) (Bj9 _)) (L9 (by decide) (Sk _ h3))) (Bcd hT _)) ?_
 intro l hl
 rcases List.mem_cons.1 hl with h | hl
 ·exact Bce hT _ (by decide) F hF l h
 rcases List.mem_cons.1 hl with h | hl
 ·exact Bce hT _ (by decide) G hG l h
 ·rw [List.mem_singleton.1 hl]
  exact w1 wE (by decide) _ (List.mem_singleton.2 rfl)
theorem Bhk (l:List ByteArray) (h:∀ t,t∈l→t.size≤50000):(M5 l).length≤l.length*50001:=by
 have hs:∀ t:ByteArray,t.data.toList.length=t.size:=fun t=>Array.length_toList
 have hr:∀ r:List ByteArray,(∀ t,t∈r→t.size≤50000)→(r.flatMap fun u=>32 :: u.data.toList).length≤r.length*50001:=by
  intro r
  induction r with
  | nil=>intro _;exact Jb _
  | cons a r ih =>
   intro h
   have h1:=ih (fun t ht=>h t (List.mem_cons_of_mem _ ht))
   have h2:=h a (List.mem_cons_self ..)
   rw [List.flatMap_cons,Ji,List.length_cons,hs,List.length_cons]
   omega
 cases l with
 | nil=>exact Jb _
 | cons t r =>
  have h1:=hr r (fun u hu=>h u (List.mem_cons_of_mem _ hu))
  have h2:=h t (List.mem_cons_self ..)
  unfold M5
  rw [Ji,hs,List.length_cons]
  omega
theorem Nd (T:Q3→ByteArray) (A1 A3:List (Q3 × Q3)) (A2:List (Int × Int × Bool)) (a1 a2 a3:Option Addr) (n1 n2 n3 m1 m2 m3:Nat) (x y:Nat→Q3) (w:World) (e1:A1.length=n1) (e2:A2.length=n2) (e3:A3.length=n3)
  (h1:n1<100) (h2:n2<100) (h3:n3<100) (r1:B9 w 6 (.slice a1 n1 m1) (A1.map cP)) (r2:B9 w 3 (.slice a2 n2 m2) (A2.map cZ)) (r3:B9 w 6 (.slice a3 n3 m3) (A3.map cP))
  (t1:∀ q,q∈A1→TX T q.1 w∧TX T q.2 w) (t3:∀ q,q∈A3→TX T q.1 w∧TX T q.2 w) (tx:∀ i,TX T (x i) w) (ty:∀ i,TX T (y i) w) (s2:∀ s,s∈A2→Gg s.1∧Gg s.2.1) (zT:∀ q,(T q).size≤50000) (hTP:Ee w) :
  Calls Tryz.prog 52 #[.agg #[.slice a1 n1 m1,.slice a2 n2 m2,.slice a3 n3 m3,Iz (x 0).1,I (x 0).2.1,I (x 0).2.2,Iz (x 1).1,I (x 1).2.1,I (x 1).2.2,Iz (x 2).1,I (x 2).2.1,I (x 2).2.2,Iz (x 3).1,I (x 3).2.1,I (x 3).2.2,Iz (x 4).1,I (x 4).2.1,I (x 4).2.2,Iz (x 5).1,I (x 5).2.1,I (x 5).2.2,Iz (y 0).1,I (y 0).2.1,I (y 0).2.2,Iz (y 1).1,I (y 1).2.1,I (y 1).2.2,Iz (y 2).1,I (y 2).2.1,I (y 2).2.2,Iz (y 3).1,I (y 3).2.1,I (y 3).2.2,Iz (y 4).1,I (y 4).2.1,I (y 4).2.2,Iz (y 5).1,I (y 5).2.1,I (y 5).2.2]] w (Re w (I (Bi0 T A1 A3 A2 [x 0,x 1,x 2,x 3,x 4,x 5] [y 0,y 1,y 2,y 3,y 4,y 5]))):=by
 go_enter Tryz.func52,Tryz.ntmps52
 go_upto_region 1 with fail
 obtain ⟨w0,hq,kz,b0⟩:=Es w [.slice a1 n1 m1,.slice a2 n2 m2,.slice a3 n3 m3,Iz (x 0).1,I (x 0).2.1,I (x 0).2.2,Iz (x 1).1,I (x 1).2.1,I (x 1).2.2,Iz (x 2).1,I (x 2).2.1,I (x 2).2.2,Iz (x 3).1,I (x 3).2.1,I (x 3).2.2,Iz (x 4).1,I (x 4).2.1,I (x 4).2.2,Iz (x 5).1,I (x 5).2.1,I (x 5).2.2,Iz (y 0).1,I (y 0).2.1,I (y 0).2.2,Iz (y 1).1,I (y 1).2.1,I (y 1).2.2,Iz (y 2).1,I (y 2).2.1,I (y 2).2.2,Iz (y 3).1,I (y 3).2.1,I (y 3).2.2,Iz (y 4).1,I (y 4).2.1,I (y 4).2.2,Iz (y 5).1,I (y 5).2.1,I (y 5).2.2] 46
 rw [← hq]
 clear hq
 have R1:=Ba (fun wi (b:Below w0.heap.size w0 wi)=>(r1.b b0).b b)
 have R2:=Ba (fun wi (b:Below w0.heap.size w0 wi)=>(r2.b b0).b b)
 have R3:=Ba (fun wi (b:Below w0.heap.size w0 wi)=>(r3.b b0).b b)
 have T1:=Ba (fun q hq=>And.intro ((t1 q hq).1.b b0) ((t1 q hq).2.b b0))
 have T3:=Ba (fun q hq=>And.intro ((t3 q hq).1.b b0) ((t3 q hq).2.b b0))
 have TX':=Ba (fun i=>(tx i).b b0)
 have TY:=Ba (fun i=>(ty i).b b0)
 have hG:=kz.lt
 have ZT:=Ba zT
 have S2:=Ba s2
 have HPw:=Ba (fun wi (b:Below w0.heap.size w0 wi)=>(hTP.bel b0).bel b)
 have E1:=Ba e1
 have E2:=Ba e2
 have E3:=Ba e3
 clear r1 r2 r3 t1 t3 tx ty zT s2 e1 e2 e3 hTP
 obtain ⟨G,hGG⟩:∃ G,G=w.heap.size:=⟨_,rfl⟩
 rw [← hGG] at kz hG ⊢
 have kz':Bi w0 G (Dq (.slice a1 n1 m1) (.slice a2 n2 m2) (.slice a3 n3 m3) (C4 x) (C4 y)) 46:=kz
 clear kz hGG
 obtain ⟨cs,hcs⟩:∃ cs:List Value,cs=Dq (.slice a1 n1 m1) (.slice a2 n2 m2) (.slice a3 n3 m3) (C4 x) (C4 y):=⟨_,rfl⟩
 rw [← hcs] at kz'
 have C0:Hid (∀ wi,Bi wi G cs 46→wi.cell? ⟨G,0,none⟩=some (.slice a1 n1 m1)):=fun wi k=>by rw [k.cell 0,hcs];rfl
 have C1:Hid (∀ wi,Bi wi G cs 46→wi.cell? ⟨G,1,none⟩=some (.slice a2 n2 m2)):=fun wi k=>by rw [k.cell 1,hcs];rfl
 have C2:Hid (∀ wi,Bi wi G cs 46→wi.cell? ⟨G,2,none⟩=some (.slice a3 n3 m3)):=fun wi k=>by rw [k.cell 2,hcs];rfl
 have CF:Hid (∀ wi,Bi wi G cs 46→B9 wi 3 (.slice (some ⟨G,3,none⟩) 6 6) ([x 0,x 1,x 2,x 3,x 4,x 5].map cQ)):=fun wi k=>Bn9 k 3 x (by rw [hcs];rfl)
 have CG:Hid (∀ wi,Bi wi G cs 46→B9 wi 3 (.slice (some ⟨G,21,none⟩) 6 6) ([y 0,y 1,y 2,y 3,y 4,y 5].map cQ)):=fun wi k=>Bn9 k 21 y (by rw [hcs];rfl)
 clear hcs
 go_upto_region 2 with fail
 obtain ⟨w2,hq,ka,kb,b2⟩:=Yu w0 [I wP] [.slice (some ⟨w0.heap.size,0,none⟩) 1 1] 9 91
 rw [← hq]
 clear hq
 generalize Value.agg _=V0
 have H2:WL w0 G cs (.slice (some ⟨w0.heap.size+1,0,none⟩) 1 1) [[wP]] w2:=by
  refine ⟨kz'.b b2,⟨[.slice (some ⟨w0.heap.size,0,none⟩) 1 1],Ks kb (by omega) rfl (by decide),fun j l hj=>?_⟩,b2,hG⟩
  cases j with
  | zero=>injection hj with hj;subst hj;exact ⟨_,rfl,Ks ka (Jb _) rfl (by decide)⟩
  | succ j=>simp at hj
 clear ka kb kz'
 have c0:=C0.out _ H2.kz
 have HI:=Ba (fun w1=>R6 n1 h1 w1)
 have zz:([[wP]]).length+1≤1000000:=by decide
 go_upto_region 3 with (first | (go_at_call 96;refine (HI.out _).mono ?_;rintro e w3 ⟨rfl,b3⟩;have K3:=H2.b b3) | (refine Gt rfl _ _ rfl (.slice (some ⟨w0.heap.size+1,0,none⟩) 1 1) w0.heap.size ([[wP]]) rfl (w3.alloc (.cells [I wV,I (dg n1)].toArray 9)) (.slice (some ⟨w3.heap.size,0,none⟩) 2 2) [wV,dg n1] rfl (K3.ln.b (Qt _)) (Jf K3.bw.size (Qt _).size) (w3.heap.size+1) (by simp) rfl (Ks (Bi.new _ _ _) K3.bw.size rfl (by decide)) zz ?_;intro v3 w4 l4 b4))
 have H3:=K3.app (Qt _) l4 b4
 clear H2 K3 l4 b4 b3 c0 HI zz
 obtain ⟨L1,hL1⟩:∃ L,L=[[wP]] ++ [[wV,dg n1]]:=⟨_,rfl⟩
 rw [← hL1] at H3
 have zL1:L1.length≤2:=by rw [hL1];exact Jb 2
 have HL1:=Ba hL1
 clear hL1
 have c0:=C0.out _ H3.kz
 go_upto_region 4 with fail
 clear c0
 go_loopw [3,26] (fun v i wr=>∃ k:Nat,k≤n1∧i=.int .i64 (k:Nat)∧WL w0 G cs v (L1 ++ Mm T (A1.take k)) wr) (fun _ i _=>n1 - (intOf i).toNat)
 case atStart=>exact ⟨0,Nat.zero_le _,rfl,by simpa [Mm,Xz] using H3⟩
 case round =>
  clear H3
  obtain ⟨k,hk,rfl,HW⟩:=hrel
  by_cases hgo:k<n1
  ·have hgo':(k:Int)<(n1:Int):=by omega
   obtain ⟨q,hq⟩:∃ q,A1[k]?=some q:=⟨_,List.getElem?_eq_getElem (by rw [E1.out];exact hgo)⟩
   obtain ⟨a,c,ea,-,hR⟩:=R1.out _ HW.bw
   obtain ⟨g,o,eg,-,hc⟩:=hR k _ (by rw [List.getElem?_map,hq];rfl)
   replace ea:=(Value.slice.inj ea).1
   rw [eg] at ea
   subst ea
   obtain ⟨tqx,tqy⟩:=T1.out q (List.mem_of_getElem? hq)
   have hup:=Ba (Bha T A1 k q hq L1)
   obtain ⟨⟨xn,xs,xd⟩,yn,ys,yd⟩:=q
   have qA:wr.rangeAt g (o+k*6) (Ko xn xs xd yn ys yd):=hc
   have hlen:=Bcb T A1 k
   clear hc hR eg hq
   go_upto_region 6 with (refine wpList_load_mid rfl 30 _ rfl g (o+k*6) rfl (Ko xn xs xd yn ys yd) _ qA Tryz.underlying30 rfl (by kernel_rfl) ?_)
   obtain ⟨w5,hq,kp,b5⟩:=Es wr (Ko xn xs xd yn ys yd) 30
   rw [← hq]
   clear hq qA
   have K5:=HW.b b5
   have rX:w5.rangeAt wr.heap.size 0 (D6 xn xs xd):=Dm kp 0 3
   have rY:w5.rangeAt wr.heap.size 3 (D6 yn ys yd):=Dm kp 3 3
   have HTX:Hid (∀ q,q∈[((xn,xs,xd):Q3),(yn,ys,yd)]→TX T q (w5.alloc (.cells (Ko xn xs xd yn ys yd).toArray 26))):=fun q hq=>by
    have hb:=Ia K5.bw (Qt (.cells (Ko xn xs xd yn ys yd).toArray 26))
    rcases List.mem_cons.1 hq with rfl | hq
    ·exact tqx.b hb
    ·rw [List.mem_singleton.1 hq];exact tqy.b hb
   have hlen':(L1 ++ Mm T (A1.take k)).length+1≤1000000:=by rw [Ji];omega
   clear kp b5 HW tqx tqy hlen
   generalize L1 ++ Mm T (A1.take k)=LL at *
   go_upto_region 7 with (first | (refine wpList_load_mid rfl 26 _ rfl wr.heap.size 0 rfl (D6 xn xs xd) _ rX Tryz.underlying26 rfl (by kernel_rfl) ?_) | (refine wpList_load_mid rfl 26 _ rfl wr.heap.size 3 rfl (D6 yn ys yd) _ rY Tryz.underlying26 rfl (by kernel_rfl) ?_) | (go_at_call 97;refine (Ls T [(xn,xs,xd),(yn,ys,yd)] (Nat.le_of_ble_eq_true rfl) _ _ (Boa (Bi.new w5 _ 26)) HTX.out).mono ?_;rintro e w6 ⟨v6,rfl,o5,b6⟩;have K6:=(K5.b (Qt _)).b b6;have o6:w6.ownsRow _ 9 1 v6 2 ([T (xn,xs,xd),T (yn,ys,yd)].map Value.string):=o5;obtain ⟨a6,c6,rfl⟩:=By o6) | (refine Gt rfl _ _ rfl u3 w0.heap.size LL rfl w6 (.slice a6 2 c6) [T (xn,xs,xd),T (yn,ys,yd)] rfl K6.ln K6.bw.size w6.heap.size rfl rfl (Cf o6 (Jf K5.bw.size (Qt _).size)) hlen' ?_;intro v7 w7 l7 b7))
   have K7:=WL.app K6 (Jg _ _) l7 b7
   rw [hup.out] at K7
   clear K6 K5 l7 b7 o6 o5 b6 HTX rX rY hlen' hup
   go_wp2
   go_roundw
   case rel=>exact ⟨k+1,by omega,by go_num,K7⟩
   case measure=>simp [intOf];omega
  ·have hgo':¬ (k:Int)<(n1:Int):=by omega
   have hkn:k=A1.length:=by rw [E1.out];omega
   rw [hkn,List.take_length] at HW
   clear hgo hk
   obtain ⟨L2,hL2⟩:∃ L,L=L1 ++ Mm T A1:=⟨_,rfl⟩
   rw [← hL2] at HW
   have zL2:L2.length≤102:=by rw [hL2];rw [Ji];unfold Mm;rw [List.length_map,E1.out];omega
   have HL2:=Ba hL2
   clear hL2
   go_upto_region 8 with fail
   have c0:=C1.out _ HW.kz
   have HI:=Ba (fun w1=>R6 n2 h2 w1)
   have zz:(L2).length+1≤1000000:=by omega
   go_upto_region 9 with (first | (go_at_call 96;refine (HI.out _).mono ?_;rintro e w3 ⟨rfl,b3⟩;have K3:=HW.b b3) | (refine Gt rfl _ _ rfl u3 w0.heap.size (L2) rfl (w3.alloc (.cells [I wS,I (dg n2)].toArray 9)) (.slice (some ⟨w3.heap.size,0,none⟩) 2 2) [wS,dg n2] rfl (K3.ln.b (Qt _)) (Jf K3.bw.size (Qt _).size) (w3.heap.size+1) (by simp) rfl (Ks (Bi.new _ _ _) K3.bw.size rfl (by decide)) zz ?_;intro v3 w4 l4 b4))
   have H4:=K3.app (Qt _) l4 b4
   clear HW K3 l4 b4 b3 c0 HI zz
   obtain ⟨L3,hL3⟩:∃ L,L=L2 ++ [[wS,dg n2]]:=⟨_,rfl⟩
   rw [← hL3] at H4
   have zL3:L3.length≤103:=by rw [hL3];rw [Ji];exact Nat.add_le_add_right zL2 1
   have HL3:=Ba hL3
   clear hL3
   have c0:=C1.out _ H4.kz
   go_upto_region 10 with fail
   clear c0
   go_loopw [3,51] (fun v i wr=>∃ k:Nat,k≤n2∧i=.int .i64 (k:Nat)∧WL w0 G cs v (L3 ++ Xz (A2.take k)) wr) (fun _ i _=>n2 - (intOf i).toNat)
   case atStart=>exact ⟨0,Nat.zero_le _,rfl,by simpa [Mm,Xz] using H4⟩
   case round =>
    clear H4
    obtain ⟨k,hk,rfl,HW⟩:=hrel
    by_cases hgo:k<n2
    ·have hgo':(k:Int)<(n2:Int):=by omega
     obtain ⟨q,hq⟩:∃ q,A2[k]?=some q:=⟨_,List.getElem?_eq_getElem (by rw [E2.out];exact hgo)⟩
     obtain ⟨a,c,ea,-,hR⟩:=R2.out _ HW.bw
     obtain ⟨g,o,eg,-,hc⟩:=hR k _ (by rw [List.getElem?_map,hq];rfl)
     replace ea:=(Value.slice.inj ea).1
     rw [eg] at ea
     subst ea
     obtain ⟨sa,sb⟩:=S2.out q (List.mem_of_getElem? hq)
     have hup:=Ba (Bnc A2 k q hq L3)
     obtain ⟨a,b,f⟩:=q
     have qA:wr.rangeAt g (o+k*3) [.int .i64 a,.int .i64 b,Iz f]:=hc
     have hlen:=Bj8 A2 k
     clear hc hR eg hq
     go_upto_region 12 with (refine wpList_load_mid rfl 103 _ rfl g (o+k*3) rfl [.int .i64 a,.int .i64 b,Iz f] _ qA Tryz.underlying103 rfl (by kernel_rfl) ?_)
     obtain ⟨w5,hq,kp,b5⟩:=Es wr [.int .i64 a,.int .i64 b,Iz f] 103
     rw [← hq]
     clear hq qA
     have K5:=(HW.b b5).b (Fe w5)
     have kp':=kp.b (Fe w5)
     have hlen':(L3 ++ Xz (A2.take k)).length+1≤1000000:=by rw [Ji];omega
     have I1:=Ba (fun w1 (b:Below w0.heap.size w0 w1)=>Bl7 a sa.1 sa.2 w1 (HPw.out w1 b))
     have I2:=Ba (fun w1 (bb:Below w0.heap.size w0 w1)=>Bl7 b sb.1 sb.2 w1 (HPw.out w1 bb))
     have I3:=Ba (fun w1=>Bec a b f w1)
     clear b5 HW hlen kp
     generalize L3 ++ Xz (A2.take k)=LL at *
     obtain ⟨gS,hgS⟩:∃ g,g=wr.heap.size:=⟨_,rfl⟩
     rw [← hgS] at kp' ⊢
     clear hgS
     refine Jc (S:=fun w'=>w'.cell? ⟨gS,0,none⟩=some (.int .i64 a)∧w'.cell? ⟨gS,1,none⟩=some (.int .i64 b)∧w'.rangeAt gS 0 [.int .i64 a,.int .i64 b,Iz f]) (by kernel_rfl) ⟨kp'.cell 0,kp'.cell 1,Dm kp' 0 3⟩ (fun hS=>?_)
     generalize w5.drew=wd at *
     refine WA.start (n:=13) (by kernel_rfl) ?_
     refine WA.tp 0 rfl ?_
     refine WA.tp 1 rfl ?_
     refine WA.tp 2 rfl ?_
     refine WA.tp 4 rfl ?_
     refine WA.tp 5 rfl ?_
     refine WA.tp 7 rfl ?_ (hy:=Jd (by rfl) 103 _ rfl gS 0 rfl [.int .i64 a,.int .i64 b,Iz f] _ (fun w' h=>h.2.2) Tryz.underlying103 rfl (by kernel_rfl))
     refine WA.cal 3 rfl (fun K hK=>?_)
     simp only [Jq]
     go_simp
     go_fit (I1.out _ K5.bw)
     rintro e wa ⟨rfl,bq⟩
     have Kwa:=K5.b bq
     replace kp':=kp'.b bq
     try go_wp2_with fail
     refine hK.out _ _ ⟨Bh hS.1 bq,Bh hS.2.1 bq,fun i v hv=>Bh (hS.2.2 i v hv) bq⟩ (fun hS=>?_)
     clear hK K bq K5
     refine WA.cal 6 rfl (fun K hK=>?_)
     simp only [Jq]
     go_simp
     go_fit (I2.out _ Kwa.bw)
     rintro e wb ⟨rfl,bq⟩
     have Kwb:=Kwa.b bq
     replace kp':=kp'.b bq
     try go_wp2_with fail
     refine hK.out _ _ ⟨Bh hS.1 bq,Bh hS.2.1 bq,fun i v hv=>Bh (hS.2.2 i v hv) bq⟩ (fun hS=>?_)
     clear hK K bq Kwa
     refine WA.cal 8 rfl (fun K hK=>?_)
     simp only [Jq]
     go_simp
     go_fit (I3.out _)
     rintro e wc ⟨rfl,bq⟩
     have Kwc:=Kwb.b bq
     replace kp':=kp'.b bq
     try go_wp2_with fail
     refine hK.out _ _ ⟨Bh hS.1 bq,Bh hS.2.1 bq,fun i v hv=>Bh (hS.2.2 i v hv) bq⟩ (fun hS=>?_)
     clear hK K bq Kwb
     have kq:=kp'.b (Qt (.cells [I (IE a),I (IE b),I (Py f)].toArray 9))
     have kr:=kq.b (Qt (.cells [.slice (some ⟨wc.heap.size,0,none⟩) 3 3].toArray 91))
     refine WA.cal 9 rfl (fun K hK=>?_)
     rw [if_pos (by rfl)]
     unfold Oper.wp execOp
     go_simp
     refine hK.out _ _ ⟨kq.cell 0,kq.cell 1,Dm kq 0 3⟩ (fun hS=>?_)
     clear hK K
     refine WA.cal 10 rfl (fun K hK=>?_)
     rw [if_pos (by rfl)]
     unfold Oper.wp execOp
     go_simp
     refine hK.out _ _ ⟨kr.cell 0,kr.cell 1,Dm kr 0 3⟩ (fun hS=>?_)
     clear hK K
     refine WA.cal 11 rfl (fun K hK=>?_)
     rw [if_pos (by rfl)]
     refine Bfd _ _ rfl u3 w0.heap.size LL rfl (wc.alloc (.cells [I (IE a),I (IE b),I (Py f)].toArray 9)) (.slice (some ⟨wc.heap.size,0,none⟩) 3 3) [IE a,IE b,Py f] rfl (Kwc.ln.b (Qt _)) (Jf Kwc.bw.size (Qt _).size) (wc.heap.size+1) (by simp) rfl (Ks (Bi.new _ _ _) Kwc.bw.size rfl (by decide)) hlen' ?_
     intro v7 w7 l7 b7 q7
     have ks:=q7 _ _ _ (by decide) kq
     refine hK.out _ _ ⟨ks.cell 0,ks.cell 1,Dm ks 0 3⟩ (fun hS=>?_)
     clear hK K q7
     refine WA.tp 12 rfl ?_
     refine WA.done (by kernel_rfl) ?_
     have K7:=Kwc.app (Qt _) l7 b7
     rw [hup.out] at K7
     clear hS ks kr kq kp' Kwc l7 b7 I1 I2 I3 hlen' hup sa sb
     go_wp2
     go_roundw
     case rel=>exact ⟨k+1,by omega,by go_num,K7⟩
     case measure=>simp [intOf];omega
    ·have hgo':¬ (k:Int)<(n2:Int):=by omega
     have hkn:k=A2.length:=by rw [E2.out];omega
     rw [hkn,List.take_length] at HW
     clear hgo hk
     obtain ⟨L4,hL4⟩:∃ L,L=L3 ++ Xz A2:=⟨_,rfl⟩
     rw [← hL4] at HW
     have zL4:L4.length≤203:=by rw [hL4];rw [Ji];unfold Xz;rw [List.length_map,E2.out];omega
     have HL4:=Ba hL4
     clear hL4
     go_upto_region 14 with fail
     have c0:=C2.out _ HW.kz
     have HI:=Ba (fun w1=>R6 n3 h3 w1)
     have zz:(L4).length+1≤1000000:=by omega
     go_upto_region 15 with (first | (go_at_call 96;refine (HI.out _).mono ?_;rintro e w3 ⟨rfl,b3⟩;have K3:=HW.b b3) | (refine Gt rfl _ _ rfl u3 w0.heap.size (L4) rfl (w3.alloc (.cells [I wH,I (dg n3)].toArray 9)) (.slice (some ⟨w3.heap.size,0,none⟩) 2 2) [wH,dg n3] rfl (K3.ln.b (Qt _)) (Jf K3.bw.size (Qt _).size) (w3.heap.size+1) (by simp) rfl (Ks (Bi.new _ _ _) K3.bw.size rfl (by decide)) zz ?_;intro v3 w4 l4 b4))
     have H5:=K3.app (Qt _) l4 b4
     clear HW K3 l4 b4 b3 c0 HI zz
     obtain ⟨L5,hL5⟩:∃ L,L=L4 ++ [[wH,dg n3]]:=⟨_,rfl⟩
     rw [← hL5] at H5
     have zL5:L5.length≤204:=by rw [hL5];rw [Ji];exact Nat.add_le_add_right zL4 1
     have HL5:=Ba hL5
     clear hL5
     have c0:=C2.out _ H5.kz
     go_upto_region 16 with fail
     clear c0
     go_loopw [3,79] (fun v i wr=>∃ k:Nat,k≤n3∧i=.int .i64 (k:Nat)∧WL w0 G cs v (L5 ++ Mm T (A3.take k)) wr) (fun _ i _=>n3 - (intOf i).toNat)
     case atStart=>exact ⟨0,Nat.zero_le _,rfl,by simpa [Mm,Xz] using H5⟩
     case round =>
      clear H5
      obtain ⟨k,hk,rfl,HW⟩:=hrel
      by_cases hgo:k<n3
      ·have hgo':(k:Int)<(n3:Int):=by omega
       obtain ⟨q,hq⟩:∃ q,A3[k]?=some q:=⟨_,List.getElem?_eq_getElem (by rw [E3.out];exact hgo)⟩
       obtain ⟨a,c,ea,-,hR⟩:=R3.out _ HW.bw
       obtain ⟨g,o,eg,-,hc⟩:=hR k _ (by rw [List.getElem?_map,hq];rfl)
       replace ea:=(Value.slice.inj ea).1
       rw [eg] at ea
       subst ea
       obtain ⟨tqx,tqy⟩:=T3.out q (List.mem_of_getElem? hq)
       have hup:=Ba (Bha T A3 k q hq L5)
       obtain ⟨⟨xn,xs,xd⟩,yn,ys,yd⟩:=q
       have qA:wr.rangeAt g (o+k*6) (Ko xn xs xd yn ys yd):=hc
       have hlen:=Bcb T A3 k
       clear hc hR eg hq
       go_upto_region 18 with (refine wpList_load_mid rfl 30 _ rfl g (o+k*6) rfl (Ko xn xs xd yn ys yd) _ qA Tryz.underlying30 rfl (by kernel_rfl) ?_)
       obtain ⟨w5,hq,kp,b5⟩:=Es wr (Ko xn xs xd yn ys yd) 30
       rw [← hq]
       clear hq qA
       have K5:=HW.b b5
       have rX:w5.rangeAt wr.heap.size 0 (D6 xn xs xd):=Dm kp 0 3
       have rY:w5.rangeAt wr.heap.size 3 (D6 yn ys yd):=Dm kp 3 3
       have HTX:Hid (∀ q,q∈[((xn,xs,xd):Q3),(yn,ys,yd)]→TX T q (w5.alloc (.cells (Ko xn xs xd yn ys yd).toArray 26))):=fun q hq=>by
        have hb:=Ia K5.bw (Qt (.cells (Ko xn xs xd yn ys yd).toArray 26))
        rcases List.mem_cons.1 hq with rfl | hq
        ·exact tqx.b hb
        ·rw [List.mem_singleton.1 hq];exact tqy.b hb
       have hlen':(L5 ++ Mm T (A3.take k)).length+1≤1000000:=by rw [Ji];omega
       clear kp b5 HW tqx tqy hlen
       generalize L5 ++ Mm T (A3.take k)=LL at *
       go_upto_region 19 with (first | (refine wpList_load_mid rfl 26 _ rfl wr.heap.size 0 rfl (D6 xn xs xd) _ rX Tryz.underlying26 rfl (by kernel_rfl) ?_) | (refine wpList_load_mid rfl 26 _ rfl wr.heap.size 3 rfl (D6 yn ys yd) _ rY Tryz.underlying26 rfl (by kernel_rfl) ?_) | (go_at_call 97;refine (Ls T [(xn,xs,xd),(yn,ys,yd)] (Nat.le_of_ble_eq_true rfl) _ _ (Boa (Bi.new w5 _ 26)) HTX.out).mono ?_;rintro e w6 ⟨v6,rfl,o5,b6⟩;have K6:=(K5.b (Qt _)).b b6;have o6:w6.ownsRow _ 9 1 v6 2 ([T (xn,xs,xd),T (yn,ys,yd)].map Value.string):=o5;obtain ⟨a6,c6,rfl⟩:=By o6) | (refine Gt rfl _ _ rfl u3 w0.heap.size LL rfl w6 (.slice a6 2 c6) [T (xn,xs,xd),T (yn,ys,yd)] rfl K6.ln K6.bw.size w6.heap.size rfl rfl (Cf o6 (Jf K5.bw.size (Qt _).size)) hlen' ?_;intro v7 w7 l7 b7))
       have K7:=WL.app K6 (Jg _ _) l7 b7
       rw [hup.out] at K7
       clear K6 K5 l7 b7 o6 o5 b6 HTX rX rY hlen' hup
       go_wp2
       go_roundw
       case rel=>exact ⟨k+1,by omega,by go_num,K7⟩
       case measure=>simp [intOf];omega
      ·have hgo':¬ (k:Int)<(n3:Int):=by omega
       have hkn:k=A3.length:=by rw [E3.out];omega
       rw [hkn,List.take_length] at HW
       clear hgo hk
       obtain ⟨L6,hL6⟩:∃ L,L=L5 ++ Mm T A3:=⟨_,rfl⟩
       rw [← hL6] at HW
       have zL6:L6.length≤304:=by rw [hL6];rw [Ji];unfold Mm;rw [List.length_map,E3.out];omega
       have HL6:=Ba hL6
       clear hL6
       go_upto_region 20 with fail
       have K5:=HW.b (Fe wr)
       have hlen:=zL6
       refine Jc (S:=SB w0) (by kernel_rfl) K5.bw (fun hS=>?_)
       clear HW
       generalize wr.drew=wd at *
       refine WA.start (n:=17) (by kernel_rfl) ?_
       refine WA.tp 0 rfl ?_
       refine WA.tp 2 rfl ?_
       refine WA.tp 3 rfl ?_
       refine WA.tp 8 rfl ?_
       refine WA.tp 9 rfl ?_
       have HF:=Ba (fun w1 (b:Below wd.heap.size wd w1)=>Ls T [x 0,x 1,x 2,x 3,x 4,x 5] (Nat.le_of_ble_eq_true rfl) _ w1 (CF.out _ (K5.b b).kz) (fun q hq=>Y7 (fun i=>(TX'.out i).b (K5.b b).bw) q hq))
       refine WA.genr3 (W:=w0) (i1:=1) (s1:=94) (i2:=7) (s2:=100) (i3:=13) (s3:=106) undef undef undef [I wF] [I wG] [I wE] 9 ?_
       refine WA.rows3 4 1 7 13 false false false rfl rfl rfl rfl hS ?_ (hR:=by intro b1 b2 b3;cases b1 <;> cases b2 <;> cases b3 <;> decide +kernel)
       intro b1 b2 b3 x1 x2 x3 w6 f1 f2 f3 q1 q2 q3 hS6 bn K hK
       clear q1 q2 q3
       simp only [ly]
       go_simp
       go_fit (HF.out _ bn)
       rintro e w7 ⟨v7,rfl,o7,b7⟩
       have o8:w7.ownsRow _ 9 1 v7 6 (([x 0,x 1,x 2,x 3,x 4,x 5].map T).map Value.string):=o7
       obtain ⟨a7,c7,rfl⟩:=By o8
       try go_wp2_with fail
       refine hK.out _ _ (Ia hS6 b7) (fun hS=>?_)
       clear hK K
       replace K5:=(K5.b bn).b b7
       replace o8:=Cf o8 hS6.size
       replace f1:=fun e=>(f1 e).b b7
       replace f2:=fun e=>(f2 e).b b7
       replace f3:=fun e=>(f3 e).b b7
       clear o7 b7 bn HF hS6
       revert b1 b2 b3 x1 x2 x3 f1 f2 f3
       refine WA.rows3 5 1 7 13 true false false rfl rfl rfl rfl hS ?_ (hR:=by intro b1 b2 b3;cases b1 <;> cases b2 <;> cases b3 <;> decide +kernel)
       intro b1 b2 b3 x1 x2 x3 w8 f1 f2 f3 r1 q2 q3 hS8 bn K hK
       clear q2 q3
       have r2:=r1 rfl
       subst r2
       obtain ⟨g1,rfl,hg1,k1⟩:=f1 rfl
       simp only [ly]
       rw [if_pos (by rfl)]
       unfold Oper.wp execOp
       go_simp
       refine hK.out _ _ (Th hS8) (fun hS=>?_)
       clear hK K
       obtain ⟨w9,hq,k9,b9⟩:=Es w8 [.slice (some ⟨g1,0,none⟩) 1 1,.slice a7 6 c7] 91
       rw [← hq] at hS ⊢
       clear hq
       replace K5:=(K5.b bn).b b9
       replace o8:=Cg (Cg o8 bn) b9
       replace k1:=k1.b b9
       replace f2:=fun e=>(f2 e).b b9
       replace f3:=fun e=>(f3 e).b b9
       have HC:=Ba (fun w1 (b:Below w9.heap.size w9 w1)=>Sn _ _ _ wF (T (x 0)) [] [T (x 1),T (x 2),T (x 3),T (x 4),T (x 5)] w1 (k9.b b) ((Bbu ⟨g1,rfl,k1⟩).b b) ((Rm o8).b b) (Nat.le_of_ble_eq_true rfl))
       clear bn f1 r1 b9 hS8
       revert b2 b3 x2 x3 f2 f3
       refine WA.rows2 6 7 13 false false rfl rfl rfl hS ?_ (hR:=by intro b2 b3;cases b2 <;> cases b3 <;> decide +kernel)
       intro b2 b3 x2 x3 w10 f2 f3 q2 q3 hS10 bn K hK
       clear q2 q3
       simp only [ly]
       go_simp
       go_fit (HC.out _ bn)
       rintro e w11 ⟨v11,rfl,o11,b11⟩
       have oF:w11.ownsRow _ 9 1 v11 7 (([wF] ++ [x 0,x 1,x 2,x 3,x 4,x 5].map T).map Value.string):=o11
       obtain ⟨aF,cF,rfl⟩:=By oF
       try go_wp2_with fail
       refine hK.out _ _ (Ia hS10 b11) (fun hS=>?_)
       clear hK K
       replace K5:=(K5.b bn).b b11
       replace oF:=Cf oF hS10.size
       replace f2:=fun e=>(f2 e).b b11
       replace f3:=fun e=>(f3 e).b b11
       clear o11 b11 bn HC hS10 k9 o8 k1 hg1
       have HG:=Ba (fun w1 (b:Below w11.heap.size w11 w1)=>Ls T [y 0,y 1,y 2,y 3,y 4,y 5] (Nat.le_of_ble_eq_true rfl) _ w1 (CG.out _ (K5.b b).kz) (fun q hq=>Y7 (fun i=>(TY.out i).b (K5.b b).bw) q hq))
       revert b2 b3 x2 x3 f2 f3
       refine WA.rows2 10 7 13 false false rfl rfl rfl hS ?_ (hR:=by intro b2 b3;cases b2 <;> cases b3 <;> decide +kernel)
       intro b2 b3 x2 x3 w12 f2 f3 q2 q3 hS12 bn K hK
       clear q2 q3
       simp only [ly]
       go_simp
       go_fit (HG.out _ bn)
       rintro e w13 ⟨v13,rfl,o13,b13⟩
       have oY:w13.ownsRow _ 9 1 v13 6 (([y 0,y 1,y 2,y 3,y 4,y 5].map T).map Value.string):=o13
       obtain ⟨aY,cY,rfl⟩:=By oY
       try go_wp2_with fail
       refine hK.out _ _ (Ia hS12 b13) (fun hS=>?_)
       clear hK K
       replace K5:=(K5.b bn).b b13
       replace oF:=Cg (Cg oF bn) b13
       replace oY:=Cf oY hS12.size
       replace f2:=fun e=>(f2 e).b b13
       replace f3:=fun e=>(f3 e).b b13
       clear o13 b13 bn HG hS12
       revert b2 b3 x2 x3 f2 f3
       refine WA.rows2 11 7 13 true false rfl rfl rfl hS ?_ (hR:=by intro b2 b3;cases b2 <;> cases b3 <;> decide +kernel)
       intro b2 b3 x2 x3 w14 f2 f3 r2 q3 hS14 bn K hK
       clear q3
       have r3:=r2 rfl
       subst r3
       obtain ⟨g2,rfl,hg2,k2⟩:=f2 rfl
       simp only [ly]
       rw [if_pos (by rfl)]
       unfold Oper.wp execOp
       go_simp
       refine hK.out _ _ (Th hS14) (fun hS=>?_)
       clear hK K
       obtain ⟨w15,hq,k15,b15⟩:=Es w14 [.slice (some ⟨g2,0,none⟩) 1 1,.slice aY 6 cY] 91
       rw [← hq] at hS ⊢
       clear hq
       replace K5:=(K5.b bn).b b15
       replace oF:=Cg (Cg oF bn) b15
       replace oY:=Cg (Cg oY bn) b15
       replace k2:=k2.b b15
       replace f3:=fun e=>(f3 e).b b15
       have HC:=Ba (fun w1 (b:Below w15.heap.size w15 w1)=>Sn _ _ _ wG (T (y 0)) [] [T (y 1),T (y 2),T (y 3),T (y 4),T (y 5)] w1 (k15.b b) ((Bbu ⟨g2,rfl,k2⟩).b b) ((Rm oY).b b) (Nat.le_of_ble_eq_true rfl))
       clear bn f2 r2 b15 hS14
       revert b3 x3 f3
       refine WA.rows1 12 13 false rfl rfl hS ?_ (hR:=by intro b3;cases b3 <;> decide +kernel)
       intro b3 x3 w16 f3 q3 hS16 bn K hK
       clear q3
       simp only [ly]
       go_simp
       go_fit (HC.out _ bn)
       rintro e w17 ⟨v17,rfl,o17,b17⟩
       have oG:w17.ownsRow _ 9 1 v17 7 (([wG] ++ [y 0,y 1,y 2,y 3,y 4,y 5].map T).map Value.string):=o17
       obtain ⟨aG,cG,rfl⟩:=By oG
       try go_wp2_with fail
       refine hK.out _ _ (Ia hS16 b17) (fun hS=>?_)
       clear hK K
       replace K5:=(K5.b bn).b b17
       replace oF:=Cg (Cg oF bn) b17
       replace oG:=Cf oG hS16.size
       replace f3:=fun e=>(f3 e).b b17
       clear o17 b17 bn HC hS16 k15 oY k2 hg2
       revert b3 x3 f3
       refine WA.rows1 14 13 true rfl rfl hS ?_ (hR:=by intro b3;cases b3 <;> decide +kernel)
       intro b3 x3 w18 f3 r3 hS18 bn K hK
       have r4:=r3 rfl
       subst r4
       obtain ⟨g3,rfl,hg3,k3⟩:=f3 rfl
       simp only [ly]
       rw [if_pos (by rfl)]
       unfold Oper.wp execOp
       go_simp
       refine hK.out _ _ (Th hS18) (fun hS=>?_)
       clear hK K
       obtain ⟨w19,hq,k19,b19⟩:=Es w18 [.slice aF 7 cF,.slice aG 7 cG,.slice (some ⟨g3,0,none⟩) 1 1] 91
       rw [← hq] at hS ⊢
       clear hq
       replace K5:=(K5.b bn).b b19
       replace oF:=Cg (Cg oF bn) b19
       replace oG:=Cg (Cg oG bn) b19
       have oE:w19.ownsRow w0.heap.size 9 1 (.slice (some ⟨g3,0,none⟩) 1 1) 1 ([wE].map Value.string):=Ks (k3.b b19) hg3 rfl (by decide)
       clear bn f3 r3 b19 hS18 k3
       refine WA.cal 15 rfl (fun K hK=>?_)
       rw [if_pos (by rfl)]
       refine Bfc _ _ rfl u3 w0.heap.size L6 rfl K5.ln K5.bw.size w18.heap.size 3 3 rfl [.slice aF 7 cF,.slice aG 7 cG,.slice (some ⟨g3,0,none⟩) 1 1] [[wF] ++ [x 0,x 1,x 2,x 3,x 4,x 5].map T,[wG] ++ [y 0,y 1,y 2,y 3,y 4,y 5].map T,[wE]] k19 rfl rfl (fun j l hj=>?_) (fun u hu=>?_) (by omega) ?_
       ·match j,hj with
        | 0,hj=>injection hj with hj;subst hj;exact ⟨_,rfl,oF⟩
        | 1,hj=>injection hj with hj;subst hj;exact ⟨_,rfl,oG⟩
        | 2,hj=>injection hj with hj;subst hj;exact ⟨_,rfl,oE⟩
       ·rcases List.mem_cons.1 hu with rfl | hu
        ·rfl
        rcases List.mem_cons.1 hu with rfl | hu
        ·rfl
        rw [List.mem_singleton.1 hu];rfl
       intro v20 w20 l20 b20 q20
       refine hK.out _ _ (K5.bw.trans b20) (fun hS=>?_)
       clear hK K q20
       refine WA.tp 16 rfl ?_
       refine WA.done (by kernel_rfl) ?_
       have K20:=K5.app (Jg _ _) l20 b20
       clear hS K5 l20 b20 k19 oF oG oE hg3 hlen
       obtain ⟨LA,hLA⟩:∃ L,L=L6 ++ [[wF] ++ [x 0,x 1,x 2,x 3,x 4,x 5].map T,[wG] ++ [y 0,y 1,y 2,y 3,y 4,y 5].map T,[wE]]:=⟨_,rfl⟩
       rw [← hLA] at K20
       have HLA:Hid (LA=M0 T A1 A3 A2 [x 0,x 1,x 2,x 3,x 4,x 5] [y 0,y 1,y 2,y 3,y 4,y 5]):=by
        show LA=_
        rw [hLA,HL6.out,HL5.out,HL4.out,HL3.out,HL2.out,HL1.out]
        unfold M0
        rw [E1.out,E2.out,E3.out]
       have hok:=Ba (show Ov LA by rw [HLA.out];exact Bd9 ZT.out A1 A3 A2 _ _ (by rw [E1.out];exact h1) (by rw [E2.out];exact h2) (by rw [E3.out];exact h3) (by simp) (by simp))
       obtain ⟨nL,hnL⟩:∃ n,n=LA.length:=⟨_,rfl⟩
       have znL:nL≤400:=by rw [hnL,hLA,Ji];show L6.length+3≤400;omega
       obtain ⟨vs,oL,hL⟩:=K20.ln
       rw [← hnL] at oL
       obtain ⟨aL,cL,rfl⟩:=By oL
       have B20:=K20.bw
       have HRd:=Ba (fun j l hl=>Bkc oL hL j l hl)
       have HnL:=Ba hnL
       clear K20 oL hL hLA hnL HL1 HL2 HL3 HL4 HL5 HL6 zL1 zL2 zL3 zL4 zL5 zL6 R1 R2 R3 T1 T3 TX' TY S2 HPw ZT C0 C1 C2 CF CG E1 E2 E3
       go_upto_region 22 with fail
       obtain ⟨w21,hq,kb,b21⟩:=Es w20 [.pointer none,.slice none 0 0] 158
       rw [← hq]
       clear hq
       have A21:Lib.IsBuilder 158 5 w20.heap.size w20.heap.size (Lib.byteCells []) w21:=Or.inl ⟨Jb _,.slice none 0 0,kb,World.ownsRow_nil _ _ _ _,by intro h;cases h⟩
       go_upto_region 23 with fail
       go_loopw [111] (fun i wr=>∃ (k:Nat) (Lb:List UInt8),k≤nL∧i=.int .i64 (k:Nat)∧Lib.IsBuilder 158 5 w20.heap.size w20.heap.size (Lib.byteCells Lb) wr∧Lb.length≤1000000*k∧Below w20.heap.size w20 wr∧Hid (Lb=He (LA.take k))) (fun i _=>nL - (intOf i).toNat)
       case atStart=>exact ⟨0,[],Nat.zero_le _,rfl,A21,Jb _,b21,rfl⟩
       case round =>
        clear A21 kb b21
        obtain ⟨k,Lb,hk,rfl,A,hLb,bw,HB⟩:=hrel
        by_cases hgo:k<nL
        ·have hgo':(k:Int)<(nL:Int):=by omega
         obtain ⟨l,hl⟩:∃ l,LA[k]?=some l:=⟨_,List.getElem?_eq_getElem (by rw [← HnL.out];exact hgo)⟩
         obtain ⟨g,o,au,cu,rfl,hc,hr⟩:=HRd.out k l hl
         obtain ⟨ok1,ok2,ok3⟩:=hok.out l (List.mem_of_getElem? hl)
         have c1:wr.cell? ⟨g,o+k,none⟩=some (.slice au l.length cu):=Bh hc bw
         have HJ:=Ba (Beg l (.slice au l.length cu) wr (hr.b bw) ok1 ok2 ok3)
         have hjl:=Bhk l ok3
         have hjl':(M5 l).length≤500010:=Jf hjl (Jo 50001 ok2)
         have hup:=Ba (Bme LA k l hl)
         have hsz:=bw.size
         clear hc hr ok1 ok2 ok3 hjl hl
         go_upto_region 26 with (first | (go_at_call 101;refine HJ.out.mono ?_;rintro e w6 ⟨rfl,b6⟩;have A6:=Bei A b6) | (go_at_call 100;refine (Y3 w20.heap.size Lb (M5 l) w6 A6 (by omega) (Jf hsz b6.size)).mono ?_;rintro e w7 ⟨nn,rfl,A7,b7⟩))
         have B7:=(bw.trans (b6.mono hsz)).trans b7
         have e7:Lb ++ (M5 l ++ [10])=He (LA.take (k+1)):=by rw [HB.out];exact hup.out
         have E7:=Ba e7
         have l7:(Lb ++ (M5 l ++ [10])).length≤1000000*(k+1):=by rw [Ji,Ji,List.length_cons,List.length_nil];omega
         clear A A6 b6 b7 bw c1 HJ hup e7 HB hLb hjl' hsz
         go_wp2
         go_roundw
         case rel=>exact ⟨k+1,Lb ++ (M5 l ++ [10]),by omega,by go_num,A7,l7,B7,E7.out⟩
         case measure=>simp [intOf];omega
        ·have hgo':¬ (k:Int)<(nL:Int):=by omega
         have e8:Lb=He (M0 T A1 A3 A2 [x 0,x 1,x 2,x 3,x 4,x 5] [y 0,y 1,y 2,y 3,y 4,y 5]):=by rw [HB.out,show k=LA.length by rw [← HnL.out];omega,List.take_length,HLA.out]
         have HS:=Ba (M7 w20.heap.size w20.heap.size Lb wr A bw.size)
         rw [e8] at HS
         have hf:Below w.heap.size w w20:=Ia b0 B20
         clear A HB hLb HRd hok e8
         go_wp2_with (go_at_call 102;refine HS.out.mono ?_;rintro e w9 ⟨rfl,b9⟩)
         go_ret
         exact ⟨rfl,Ia hf (bw.trans b9)⟩
theorem Bmb:∀ n:Fin 100,IE ((n:Nat):Int)=dg n:=by decide +kernel
theorem Bnb (l:List (Nat × Nat × Bool)) (h:∀ s,s∈l→s.1<100∧s.2.1<100):Xz (l.map zS)=lnS l:=by
 unfold Xz lnS
 rw [List.map_map]
 refine List.map_congr_left fun s hs=>?_
 show [IE (s.1:Int),IE (s.2.1:Int),Py s.2.2]=_
 rw [Bmb ⟨s.1,(h s hs).1⟩,Bmb ⟨s.2.1,(h s hs).2⟩]
theorem Biz (T:Q3→ByteArray) (A1 A3:List (Q3 × Q3)) (A2:List (Nat × Nat × Bool)) (F G:List Q3) (h:∀ s,s∈A2→s.1<100∧s.2.1<100):Bi0 T A1 A3 (A2.map zS) F G=Wi T ⟨A1,A2,A3,F,G⟩:=by
 unfold Bi0 Wi M0 F4
 rw [Bnb A2 h,List.length_map]
theorem Bnx (A2:List (Nat × Nat × Bool)) (h:∀ s,s∈A2→s.1<100∧s.2.1<100):∀ s,s∈A2.map zS→Gg s.1∧Gg s.2.1:=fun s hs=>by
 obtain ⟨q,hq,rfl⟩:=List.mem_map.1 hs
 obtain ⟨h1,h2⟩:=h q hq
 unfold Gg zS
 show (-9223372036854775808≤(q.1:Int)∧(q.1:Int)≤_)∧(-9223372036854775808≤(q.2.1:Int)∧(q.2.1:Int)≤_)
 omega
theorem Bdz (P:ByteArray→Q3) (E:ByteArray→Int) (hP:PR P E) (T:Q3→ByteArray) (A1 A3:List (Q3 × Q3)) (A2:List (Nat × Nat × Bool)) (a1 a2 a3:Option Addr) (n1 n2 n3 m1 m2 m3:Nat) (x y:Nat→Q3) (B:Nat) (w:World) (aL:Addr) (h:Na w aL) (hTP:Ee w) (e1:A1.length=n1) (e2:A2.length=n2) (e3:A3.length=n3)
  (h1:n1≤40) (h2:n2≤60) (h3:n3≤10) (r1:B9 w 6 (.slice a1 n1 m1) (A1.map cP)) (r2:B9 w 3 (.slice a2 n2 m2) (A2.map cS)) (r3:B9 w 6 (.slice a3 n3 m3) (A3.map cP))
  (t1:∀ q,q∈A1→TX T q.1 w∧TX T q.2 w) (t3:∀ q,q∈A3→TX T q.1 w∧TX T q.2 w) (tx:∀ i,TX T (x i) w) (ty:∀ i,TX T (y i) w) (s2:∀ s,s∈A2→s.1<100∧s.2.1<100) (zT:∀ q,(T q).size≤1000)
  (hp:Co w B (Dq (.slice a1 n1 m1) (.slice a2 n2 m2) (.slice a3 n3 m3) (C4 x) (C4 y)) ⟨A1,A2,A3,[x 0,x 1,x 2,x 3,x 4,x 5],[y 0,y 1,y 2,y 3,y 4,y 5]⟩)
  (s:ByteArray) (hs:s=Wi T ⟨A1,A2,A3,[x 0,x 1,x 2,x 3,x 4,x 5],[y 0,y 1,y 2,y 3,y 4,y 5]⟩) (hr:(Fi P E s).2=0→(Fi P E s).1=⟨A1,A2,A3,[x 0,x 1,x 2,x 3,x 4,x 5],[y 0,y 1,y 2,y 3,y 4,y 5]⟩) :
  Calls Tryz.prog 23 #[.agg #[.slice a1 n1 m1,.slice a2 n2 m2,.slice a3 n3 m3,Iz (x 0).1,I (x 0).2.1,I (x 0).2.2,Iz (x 1).1,I (x 1).2.1,I (x 1).2.2,Iz (x 2).1,I (x 2).2.1,I (x 2).2.2,Iz (x 3).1,I (x 3).2.1,I (x 3).2.2,Iz (x 4).1,I (x 4).2.1,I (x 4).2.2,Iz (x 5).1,I (x 5).2.1,I (x 5).2.2,Iz (y 0).1,I (y 0).2.1,I (y 0).2.2,Iz (y 1).1,I (y 1).2.1,I (y 1).2.2,Iz (y 2).1,I (y 2).2.1,I (y 2).2.2,Iz (y 3).1,I (y 3).2.1,I (y 3).2.2,Iz (y 4).1,I (y 4).2.1,I (y 4).2.2,Iz (y 5).1,I (y 5).2.1,I (y 5).2.2]] w (Re w (.tuple #[I (if (Fi P E s).2=0 then s else eS),.int .i64 (if (Fi P E s).2=0 then 0 else 1)])):=by
 have HW0:=fun wi (b:Below w.heap.size w wi)=>Nd T A1 A3 (A2.map zS) a1 a2 a3 n1 n2 n3 m1 m2 m3 x y wi e1 (by rw [List.length_map];exact e2) e3 (by omega) (by omega) (by omega) (r1.b b) (by rw [← Vi];exact r2.b b) (r3.b b) (fun q hq=>⟨(t1 q hq).1.b b,(t1 q hq).2.b b⟩) (fun q hq=>⟨(t3 q hq).1.b b,(t3 q hq).2.b b⟩) (fun i=>(tx i).b b) (fun i=>(ty i).b b) (Bnx A2 s2) (fun q=>Jf (zT q) (by decide)) (hTP.bel b)
 rw [Biz T A1 A3 A2 _ _ s2] at HW0
 rw [← hs] at HW0
 have HRd:=Ba (fun wi (b:Below w.heap.size w wi)=>Xb P E hP s wi aL (h.b b))
 obtain ⟨p,hpp⟩:∃ p:Pl,p=⟨A1,A2,A3,[x 0,x 1,x 2,x 3,x 4,x 5],[y 0,y 1,y 2,y 3,y 4,y 5]⟩:=⟨_,rfl⟩
 rw [← hpp] at hp hr
 have l1:p.pts.length≤100000:=by rw [hpp];show A1.length≤_;omega
 have l2:p.segs.length≤100000:=by rw [hpp];show A2.length≤_;omega
 have l3:p.holes.length≤100000:=by rw [hpp];show A3.length≤_;omega
 obtain ⟨cs,hcs⟩:∃ cs:List Value,cs=Dq (.slice a1 n1 m1) (.slice a2 n2 m2) (.slice a3 n3 m3) (C4 x) (C4 y):=⟨_,rfl⟩
 have HW:Hid (∀ wi,Below w.heap.size w wi→Calls Tryz.prog 52 #[.agg cs.toArray] wi (Re wi (I s))):=by rw [hcs];exact HW0
 rw [← hcs] at hp
 have HS:=Ba (fun wi (b:Below w.heap.size w wi) ds C (k:Co wi C ds p)=>Bgm p cs ds B C wi (hp.b b) k l1 l2 l3)
 have hlc:=hp.len
 clear HW0 hpp hs r1 r2 r3 t1 t3 tx ty s2 zT h hTP l1 l2 l3 hp e1 e2 e3
 generalize Fi P E s=r at *
 obtain ⟨pr,er0⟩:=r
 have g1:¬ 40<n1:=by omega
 have g2:¬ 60<n2:=by omega
 have g3:¬ 10<n3:=by omega
 have g1':¬ (40:Int)<(n1:Int):=by omega
 have g2':¬ (60:Int)<(n2:Int):=by omega
 have g3':¬ (10:Int)<(n3:Int):=by omega
 clear h1 h2 h3
 go_enter Tryz.func23,Tryz.ntmps23
 go_upto_region 1 with fail
 obtain ⟨w0,hq,kz,b0⟩:=Es w [.slice a1 n1 m1,.slice a2 n2 m2,.slice a3 n3 m3,Iz (x 0).1,I (x 0).2.1,I (x 0).2.2,Iz (x 1).1,I (x 1).2.1,I (x 1).2.2,Iz (x 2).1,I (x 2).2.1,I (x 2).2.2,Iz (x 3).1,I (x 3).2.1,I (x 3).2.2,Iz (x 4).1,I (x 4).2.1,I (x 4).2.2,Iz (x 5).1,I (x 5).2.1,I (x 5).2.2,Iz (y 0).1,I (y 0).2.1,I (y 0).2.2,Iz (y 1).1,I (y 1).2.1,I (y 1).2.2,Iz (y 2).1,I (y 2).2.1,I (y 2).2.2,Iz (y 3).1,I (y 3).2.1,I (y 3).2.2,Iz (y 4).1,I (y 4).2.1,I (y 4).2.2,Iz (y 5).1,I (y 5).2.1,I (y 5).2.2] 46
 rw [← hq]
 clear hq
 have kz':Bi w0 w.heap.size (Dq (.slice a1 n1 m1) (.slice a2 n2 m2) (.slice a3 n3 m3) (C4 x) (C4 y)) 46:=kz
 clear kz
 rw [← hcs] at kz'
 generalize Value.agg #[.slice a1 n1 m1,.slice a2 n2 m2,.slice a3 n3 m3,Iz (x 0).1,I (x 0).2.1,I (x 0).2.2,Iz (x 1).1,I (x 1).2.1,I (x 1).2.2,Iz (x 2).1,I (x 2).2.1,I (x 2).2.2,Iz (x 3).1,I (x 3).2.1,I (x 3).2.2,Iz (x 4).1,I (x 4).2.1,I (x 4).2.2,Iz (x 5).1,I (x 5).2.1,I (x 5).2.2,Iz (y 0).1,I (y 0).2.1,I (y 0).2.2,Iz (y 1).1,I (y 1).2.1,I (y 1).2.2,Iz (y 2).1,I (y 2).2.1,I (y 2).2.2,Iz (y 3).1,I (y 3).2.1,I (y 3).2.2,Iz (y 4).1,I (y 4).2.1,I (y 4).2.2,Iz (y 5).1,I (y 5).2.1,I (y 5).2.2]=V0
 have c0:w0.cell? ⟨w.heap.size,0,none⟩=some (.slice a1 n1 m1):=by rw [kz'.cell 0,hcs];rfl
 have c1:w0.cell? ⟨w.heap.size,1,none⟩=some (.slice a2 n2 m2):=by rw [kz'.cell 1,hcs];rfl
 have c2:w0.cell? ⟨w.heap.size,2,none⟩=some (.slice a3 n3 m3):=by rw [kz'.cell 2,hcs];rfl
 clear hcs
 go_upto_region 3 with fail
 clear c0 c1 c2 g1 g2 g3 g1' g2' g3'
 go_upto_region 4 with (first | (refine Je rfl 46 _ rfl _ rfl 46 cs.toArray (0,0) _ kz' Tryz.underlying46 rfl (by rw [List.size_toArray,hlc];kernel_rfl) ?_) | (go_at_call 52;refine (HW.out _ b0).mono ?_;rintro e w1 ⟨rfl,b1⟩;have B1:=Ia b0 b1))
 have kz1:=kz'.b b1
 go_upto_region 5 with (go_at_call 42;refine (HRd.out _ B1).mono ?_;rintro e w2 ⟨ds,er,p',rfl,hq,b2,q0,q1⟩;have hlen:=hq.len;obtain ⟨w3,hst,k3,b3⟩:=Hm w2 ds hq.len hq.one)
 have kz3:=(kz1.b b2).b b3
 have hq3:=hq.b b3
 have B3:=Ia (Ia B1 b2) b3
 clear hst hq b3 b2 b1 kz1 kz' b0 B1 HW HRd
 have rz:=Lm kz3
 have rd:=Lm k3
 by_cases he:er0=0
 ·obtain ⟨rfl,rfl⟩:=q0 he
  have hpe:=hr he
  subst he
  rw [hpe] at hq3
  clear q0 q1 hr kz3 k3
  go_wp2_with (first | (refine Bg (by rfl) 46 _ rfl w.heap.size 0 rfl cs _ rz Tryz.underlying46 rfl (by rw [hlc];kernel_rfl) ?_) | (refine Bg (by rfl) 46 _ rfl w2.heap.size 0 rfl ds _ rd Tryz.underlying46 rfl (by rw [hlen];kernel_rfl) ?_) | (go_at_call 53;refine (HS.out _ B3 ds _ hq3).mono ?_;rintro e w4 ⟨rfl,b4⟩))
  go_ret2
  exact ⟨rfl,Ia B3 b4⟩
 ·obtain ⟨q,rfl⟩:=q1 he
  clear q0 q1 hr kz3 k3 rz rd hq3
  go_wp2
  go_ret2
  exact ⟨rfl,B3⟩
end Go.Proofs.YtnplifkgeeicjaaGreatDoor
