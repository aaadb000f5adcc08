import Derived.Test.YtnplifkgeeicjaaGreatDoorV50
import Derived.Test.YtnplifkgeeicjaaGreatDoorV52
set_option maxRecDepth 20000
set_option maxHeartbeats 16000000
namespace Go.Proofs.YtnplifkgeeicjaaGreatDoor
open Go.RowKit
def Mn (A1 A3:List (Q3 × Q3)) (A2:List (Int × Int × Bool)) (x y:Nat→Q3) (p:Pl):Prop:=A1=p.pts∧A2=p.segs.map zS∧A3=p.holes∧[x 0,x 1,x 2,x 3,x 4,x 5]=p.F∧[y 0,y 1,y 2,y 3,y 4,y 5]=p.G
theorem Xr (a1 a2 a3:Option Addr) (n1 n2 n3 m1 m2 m3:Nat) (x y:Nat→Q3) (w:World) (h:¬ (n1≤40∧n2≤60∧n3≤10)) :
  Calls Tryz.prog 23 #[.agg #[.slice a1 n1 m1,.slice a2 n2 m2,.slice a3 n3 m3,Iz (x 0).1,I (x 0).2.1,I (x 0).2.2,Iz (x 1).1,I (x 1).2.1,I (x 1).2.2,Iz (x 2).1,I (x 2).2.1,I (x 2).2.2,Iz (x 3).1,I (x 3).2.1,I (x 3).2.2,Iz (x 4).1,I (x 4).2.1,I (x 4).2.2,Iz (x 5).1,I (x 5).2.1,I (x 5).2.2,Iz (y 0).1,I (y 0).2.1,I (y 0).2.2,Iz (y 1).1,I (y 1).2.1,I (y 1).2.2,Iz (y 2).1,I (y 2).2.1,I (y 2).2.2,Iz (y 3).1,I (y 3).2.1,I (y 3).2.2,Iz (y 4).1,I (y 4).2.1,I (y 4).2.2,Iz (y 5).1,I (y 5).2.1,I (y 5).2.2]] w (Re w (.tuple #[I eS,.int .i64 1])):=by
 have cut:(40:Int)<(n1:Int)∨(¬ (40:Int)<(n1:Int)∧(60:Int)<(n2:Int))∨(¬ (40:Int)<(n1:Int)∧¬ (60:Int)<(n2:Int)∧(10:Int)<(n3:Int)):=by omega
 clear h
 go_enter Tryz.func23,Tryz.ntmps23
 go_upto_region 1 with fail
 obtain ⟨w0,hq,kz,b0⟩:=Es w [.slice a1 n1 m1,.slice a2 n2 m2,.slice a3 n3 m3,Iz (x 0).1,I (x 0).2.1,I (x 0).2.2,Iz (x 1).1,I (x 1).2.1,I (x 1).2.2,Iz (x 2).1,I (x 2).2.1,I (x 2).2.2,Iz (x 3).1,I (x 3).2.1,I (x 3).2.2,Iz (x 4).1,I (x 4).2.1,I (x 4).2.2,Iz (x 5).1,I (x 5).2.1,I (x 5).2.2,Iz (y 0).1,I (y 0).2.1,I (y 0).2.2,Iz (y 1).1,I (y 1).2.1,I (y 1).2.2,Iz (y 2).1,I (y 2).2.1,I (y 2).2.2,Iz (y 3).1,I (y 3).2.1,I (y 3).2.2,Iz (y 4).1,I (y 4).2.1,I (y 4).2.2,Iz (y 5).1,I (y 5).2.1,I (y 5).2.2] 46
 rw [← hq]
 clear hq
 have c0:w0.cell? ⟨w.heap.size,0,none⟩=some (.slice a1 n1 m1):=kz.cell 0
 have c1:w0.cell? ⟨w.heap.size,1,none⟩=some (.slice a2 n2 m2):=kz.cell 1
 have c2:w0.cell? ⟨w.heap.size,2,none⟩=some (.slice a3 n3 m3):=kz.cell 2
 clear kz
 generalize Value.agg _=V0
 rcases cut with g1 | ⟨g1,g2⟩ | ⟨g1,g2,g3⟩ <;>
 ·go_wp2
  go_ret2
  exact ⟨rfl,b0⟩
theorem Bgn {A1 A3:List (Q3 × Q3)} {A2:List (Int × Int × Bool)} {a1 a2 a3:Option Addr} {n1 n2 n3 m1 m2 m3:Nat} {x y:Nat→Q3} {w:World} {p:Pl} (hne:¬ Mn A1 A3 A2 x y p) (h1:A1.length≤100000) (h2:A2.length≤100000) (h3:A3.length≤100000)
  (r1:B9 w 6 (.slice a1 n1 m1) (A1.map cP)) (r2:B9 w 3 (.slice a2 n2 m2) (A2.map cZ)) (r3:B9 w 6 (.slice a3 n3 m3) (A3.map cP)) (ds:List Value) (C:Nat) (k:Co w C ds p) :
  Calls Tryz.prog 53 #[.agg #[.slice a1 n1 m1,.slice a2 n2 m2,.slice a3 n3 m3,Iz (x 0).1,I (x 0).2.1,I (x 0).2.2,Iz (x 1).1,I (x 1).2.1,I (x 1).2.2,Iz (x 2).1,I (x 2).2.1,I (x 2).2.2,Iz (x 3).1,I (x 3).2.1,I (x 3).2.2,Iz (x 4).1,I (x 4).2.1,I (x 4).2.2,Iz (x 5).1,I (x 5).2.1,I (x 5).2.2,Iz (y 0).1,I (y 0).2.1,I (y 0).2.2,Iz (y 1).1,I (y 1).2.1,I (y 1).2.2,Iz (y 2).1,I (y 2).2.1,I (y 2).2.2,Iz (y 3).1,I (y 3).2.1,I (y 3).2.2,Iz (y 4).1,I (y 4).2.1,I (y 4).2.2,Iz (y 5).1,I (y 5).2.1,I (y 5).2.2],.agg ds.toArray] w (Re w (Iz false)):=by
 obtain ⟨v1,v2,v3,x',y',rfl,o1,o2,o3,hF,hG⟩:=k
 have s1:=B9.of cP D7 o1
 have s2:=B9.of cS Pf o2
 have s3:=B9.of cP D7 o3
 rw [Vi] at s2
 obtain ⟨b1,c1,rfl⟩:=By o1
 obtain ⟨b2,c2,rfl⟩:=By o2
 obtain ⟨b3,c3,rfl⟩:=By o3
 have:=Bgo A1 A3 p.pts p.holes A2 (p.segs.map zS) a1 a2 a3 b1 b2 b3 n1 n2 n3 m1 m2 m3 _ _ _ c1 c2 c3 x y x' y' w h1 h2 h3 r1 r2 r3 s1 s2 s3
 have e:(decide (A1=p.pts) && decide (A2=p.segs.map zS) && decide (A3=p.holes) && decide ([x 0,x 1,x 2,x 3,x 4,x 5]=[x' 0,x' 1,x' 2,x' 3,x' 4,x' 5]) && decide ([y 0,y 1,y 2,y 3,y 4,y 5]=[y' 0,y' 1,y' 2,y' 3,y' 4,y' 5]))=false:=by
  rw [← hF,← hG,← Bool.not_eq_true]
  simp only [Bool.and_eq_true,decide_eq_true_eq]
  rintro ⟨⟨⟨⟨q1,q2⟩,q3⟩,q4⟩,q5⟩
  exact hne ⟨q1,q2,q3,q4,q5⟩
 rw [e] at this
 exact this
theorem Bad (P:ByteArray→Q3) (E:ByteArray→Int) (hP:PR P E) (A1 A3:List (Q3 × Q3)) (A2:List (Int × Int × Bool)) (a1 a2 a3:Option Addr) (n1 n2 n3 m1 m2 m3:Nat) (x y:Nat→Q3) (w:World) (aL:Addr) (h:Na w aL) (hTP:Ee w) (e1:A1.length=n1) (e2:A2.length=n2) (e3:A3.length=n3)
  (h1:n1≤40) (h2:n2≤60) (h3:n3≤10) (r1:B9 w 6 (.slice a1 n1 m1) (A1.map cP)) (r2:B9 w 3 (.slice a2 n2 m2) (A2.map cZ)) (r3:B9 w 6 (.slice a3 n3 m3) (A3.map cP)) (s2:∀ s,s∈A2→Gg s.1∧Gg s.2.1)
  (hne:∀ s,(Fi P E s).2=0→¬ Mn A1 A3 A2 x y (Fi P E s).1) :
  Calls Tryz.prog 23 #[.agg #[.slice a1 n1 m1,.slice a2 n2 m2,.slice a3 n3 m3,Iz (x 0).1,I (x 0).2.1,I (x 0).2.2,Iz (x 1).1,I (x 1).2.1,I (x 1).2.2,Iz (x 2).1,I (x 2).2.1,I (x 2).2.2,Iz (x 3).1,I (x 3).2.1,I (x 3).2.2,Iz (x 4).1,I (x 4).2.1,I (x 4).2.2,Iz (x 5).1,I (x 5).2.1,I (x 5).2.2,Iz (y 0).1,I (y 0).2.1,I (y 0).2.2,Iz (y 1).1,I (y 1).2.1,I (y 1).2.2,Iz (y 2).1,I (y 2).2.1,I (y 2).2.2,Iz (y 3).1,I (y 3).2.1,I (y 3).2.2,Iz (y 4).1,I (y 4).2.1,I (y 4).2.2,Iz (y 5).1,I (y 5).2.1,I (y 5).2.2]] w (Re w (.tuple #[I eS,.int .i64 1])):=by
 have HW0:=fun wi (b:Below w.heap.size w wi)=>Nd TE A1 A3 A2 a1 a2 a3 n1 n2 n3 m1 m2 m3 x y wi e1 e2 e3 (by omega) (by omega) (by omega) (r1.b b) (r2.b b) (r3.b b) (fun q hq=>⟨txE q.1 wi (h.b b).tab (hTP.bel b),txE q.2 wi (h.b b).tab (hTP.bel b)⟩) (fun q hq=>⟨txE q.1 wi (h.b b).tab (hTP.bel b),txE q.2 wi (h.b b).tab (hTP.bel b)⟩) (fun i=>txE _ wi (h.b b).tab (hTP.bel b)) (fun i=>txE _ wi (h.b b).tab (hTP.bel b)) s2 Blp (hTP.bel b)
 generalize Bi0 TE A1 A3 A2 [x 0,x 1,x 2,x 3,x 4,x 5] [y 0,y 1,y 2,y 3,y 4,y 5]=s at HW0
 have HRd:=Ba (fun wi (b:Below w.heap.size w wi)=>Xb P E hP s wi aL (h.b b))
 obtain ⟨cs,hcs⟩:∃ cs:List Value,cs=Dq (.slice a1 n1 m1) (.slice a2 n2 m2) (.slice a3 n3 m3) (C4 x) (C4 y):=⟨_,rfl⟩
 have HW:Hid (∀ wi,Below w.heap.size w wi→Calls Tryz.prog 52 #[.agg cs.toArray] wi (Re wi (I s))):=by rw [hcs];exact HW0
 have hn:=hne s
 have HS:=Ba (fun (he:(Fi P E s).2=0) wi (b:Below w.heap.size w wi) ds C (k:Co wi C ds (Fi P E s).1)=>Bgn (hn he) (by omega) (by omega) (by omega) (r1.b b) (r2.b b) (r3.b b) ds C k)
 have HS2:Hid ((Fi P E s).2=0→∀ wi,Below w.heap.size w wi→∀ ds C,Co wi C ds (Fi P E s).1→Calls Tryz.prog 53 #[.agg cs.toArray,.agg ds.toArray] wi (Re wi (Iz false))):=by rw [hcs];exact HS.out
 have hlc:cs.length=39:=by rw [hcs];rfl
 clear HW0 r1 r2 r3 s2 h hTP e1 e2 e3 hne hn HS
 generalize Fi P E s=r at *
 obtain ⟨pr,er0⟩:=r
 have g1:¬ 40<n1:=by omega
 have g2:¬ 60<n2:=by omega
 have g3:¬ 10<n3:=by omega
 have g1':¬ (40:Int)<(n1:Int):=by omega
 have g2':¬ (60:Int)<(n2:Int):=by omega
 have g3':¬ (10:Int)<(n3:Int):=by omega
 clear h1 h2 h3
 go_enter Tryz.func23,Tryz.ntmps23
 go_upto_region 1 with fail
 obtain ⟨w0,hq,kz,b0⟩:=Es w [.slice a1 n1 m1,.slice a2 n2 m2,.slice a3 n3 m3,Iz (x 0).1,I (x 0).2.1,I (x 0).2.2,Iz (x 1).1,I (x 1).2.1,I (x 1).2.2,Iz (x 2).1,I (x 2).2.1,I (x 2).2.2,Iz (x 3).1,I (x 3).2.1,I (x 3).2.2,Iz (x 4).1,I (x 4).2.1,I (x 4).2.2,Iz (x 5).1,I (x 5).2.1,I (x 5).2.2,Iz (y 0).1,I (y 0).2.1,I (y 0).2.2,Iz (y 1).1,I (y 1).2.1,I (y 1).2.2,Iz (y 2).1,I (y 2).2.1,I (y 2).2.2,Iz (y 3).1,I (y 3).2.1,I (y 3).2.2,Iz (y 4).1,I (y 4).2.1,I (y 4).2.2,Iz (y 5).1,I (y 5).2.1,I (y 5).2.2] 46
 rw [← hq]
 clear hq
 have kz':Bi w0 w.heap.size (Dq (.slice a1 n1 m1) (.slice a2 n2 m2) (.slice a3 n3 m3) (C4 x) (C4 y)) 46:=kz
 clear kz
 rw [← hcs] at kz'
 generalize Value.agg #[.slice a1 n1 m1,.slice a2 n2 m2,.slice a3 n3 m3,Iz (x 0).1,I (x 0).2.1,I (x 0).2.2,Iz (x 1).1,I (x 1).2.1,I (x 1).2.2,Iz (x 2).1,I (x 2).2.1,I (x 2).2.2,Iz (x 3).1,I (x 3).2.1,I (x 3).2.2,Iz (x 4).1,I (x 4).2.1,I (x 4).2.2,Iz (x 5).1,I (x 5).2.1,I (x 5).2.2,Iz (y 0).1,I (y 0).2.1,I (y 0).2.2,Iz (y 1).1,I (y 1).2.1,I (y 1).2.2,Iz (y 2).1,I (y 2).2.1,I (y 2).2.2,Iz (y 3).1,I (y 3).2.1,I (y 3).2.2,Iz (y 4).1,I (y 4).2.1,I (y 4).2.2,Iz (y 5).1,I (y 5).2.1,I (y 5).2.2]=V0
 have c0:w0.cell? ⟨w.heap.size,0,none⟩=some (.slice a1 n1 m1):=by rw [kz'.cell 0,hcs];rfl
 have c1:w0.cell? ⟨w.heap.size,1,none⟩=some (.slice a2 n2 m2):=by rw [kz'.cell 1,hcs];rfl
 have c2:w0.cell? ⟨w.heap.size,2,none⟩=some (.slice a3 n3 m3):=by rw [kz'.cell 2,hcs];rfl
 clear hcs
 go_upto_region 3 with fail
 clear c0 c1 c2 g1 g2 g3 g1' g2' g3'
 go_upto_region 4 with (first | (refine Je rfl 46 _ rfl _ rfl 46 cs.toArray (0,0) _ kz' Tryz.underlying46 rfl (by rw [List.size_toArray,hlc];kernel_rfl) ?_) | (go_at_call 52;refine (HW.out _ b0).mono ?_;rintro e w1 ⟨rfl,b1⟩;have B1:=Ia b0 b1))
 have kz1:=kz'.b b1
 go_upto_region 5 with (go_at_call 42;refine (HRd.out _ B1).mono ?_;rintro e w2 ⟨ds,er,p',rfl,hq,b2,q0,q1⟩;have hlen:=hq.len;obtain ⟨w3,hst,k3,b3⟩:=Hm w2 ds hq.len hq.one)
 have kz3:=(kz1.b b2).b b3
 have hq3:=hq.b b3
 have B3:=Ia (Ia B1 b2) b3
 clear hst hq b3 b2 b1 kz1 kz' b0 B1 HW HRd
 have rz:=Lm kz3
 have rd:=Lm k3
 by_cases he:er0=0
 ·obtain ⟨rfl,rfl⟩:=q0 he
  have HS3:=HS2.out he
  subst he
  clear q0 q1 kz3 k3 HS2
  go_wp2_with (first | (refine Bg (by rfl) 46 _ rfl w.heap.size 0 rfl cs _ rz Tryz.underlying46 rfl (by rw [hlc];kernel_rfl) ?_) | (refine Bg (by rfl) 46 _ rfl w2.heap.size 0 rfl ds _ rd Tryz.underlying46 rfl (by rw [hlen];kernel_rfl) ?_) | (go_at_call 53;refine (HS3 _ B3 ds _ hq3).mono ?_;rintro e w4 ⟨rfl,b4⟩))
  go_ret2
  exact ⟨rfl,Ia B3 b4⟩
 ·obtain ⟨q,rfl⟩:=q1 he
  clear q0 q1 kz3 k3 rz rd hq3 HS2
  go_wp2
  go_ret2
  exact ⟨rfl,B3⟩
open Go.RowKit Go.Shelf
def RI (n:Int):ByteArray:=Gc (decide (n<0)) (Bw n.natAbs) ⟨#[1]⟩
theorem Bly (n:Int) (h:Gg n):Yv (decide (n<0)) (Bw n.natAbs) ⟨#[1]⟩∧(Bw n.natAbs).size≤8:=by
 obtain ⟨nf,sf,hf,hok,hsz,hzz,hnat,hneg,hstr,hnn,hfn⟩:=Rx
 have o:=hok n
 have e:=hf n
 unfold zI zV at e
 have e':[Value.bool (decide (n<0)),I (Bw n.natAbs)]=[Iz (nf n),I (sf n)]:=congrArg (fun v=>match v with | .agg a=>a.toList | _=>[]) e
 simp only [List.cons.injEq,Value.bool.injEq,Value.string.injEq,and_true] at e'
 rw [← e'.1,← e'.2] at o
 refine ⟨⟨o,Gy.1,by rw [Ch];omega,by rw [Ch,Nat.gcd_one_right]⟩,Wx (k:=8) ?_⟩
 obtain ⟨h1,h2⟩:=h
 have:(256:Nat) ^ 8=18446744073709551616:=by decide
 omega
theorem Qv (n:Int) (h:Gg n):(RI n).size≤1000:=by
 obtain ⟨o,z⟩:=Bly n h
 have hd:=Md (Bw n.natAbs) 8 z
 unfold RI Gc
 rw [if_pos Ch]
 unfold Dh
 split
 ·decide
 ·split
  ·rw [Cl,List.length_cons];omega
  ·rw [Cl];omega
theorem Bc2 (n:Nat) (hn:n<100):RI (n:Int)=dg n:=by
 have h0:decide ((n:Int)<0)=false:=decide_eq_false (by omega)
 unfold RI
 rw [h0]
 unfold Gc
 rw [if_pos Ch]
 unfold Dh
 rw [Cx,Int.natAbs_natCast]
 exact Bgy n hn
theorem Qm (n:Int) (h:Gg n) (w:World):Calls Tryz.prog 107 #[.int .i64 n] w (Re w (I (RI n))):=by
 obtain ⟨o,z⟩:=Bly n h
 have H1:=Ba (fun w1=>Bdo n h.1 (by have:=h.2;omega) w1)
 have hq:qI (n:Rat)=(D8 (decide (n<0)) (Bw n.natAbs) ⟨#[1]⟩):=Va n rfl
 rw [hq] at H1
 have H2:=Ba (fun w1=>Rg (decide (n<0)) (Bw n.natAbs) ⟨#[1]⟩ w1 o (by omega) (by decide))
 obtain ⟨R,hR⟩:∃ R,R=RI n:=⟨_,rfl⟩
 have H3:Hid (∀ w1,Calls Tryz.prog 56 #[(D8 (decide (n<0)) (Bw n.natAbs) ⟨#[1]⟩)] w1 (Re w1 (I R))):=by rw [hR];exact H2.out
 rw [← hR]
 clear hq o z H2 hR h
 generalize decide (n<0)=dn at *
 generalize Bw n.natAbs=sn at *
 go_enter Tryz.func107,Tryz.ntmps107
 go_wp2_with (first | (go_at_call 40;refine (H1.out _).mono ?_;rintro e w1 ⟨rfl,b1⟩) | (go_at_call 56;refine (H3.out _).mono ?_;rintro e w2 ⟨rfl,b2⟩))
 go_ret
 exact ⟨rfl,Ia b1 b2⟩
theorem Bfm (q:Q3) (h:Gu q=true) (w:World):Calls Tryz.prog 56 #[(D8 q.1 q.2.1 q.2.2)] w (Re w (I (TE q))):=by
 obtain ⟨n,s,d⟩:=q
 unfold Gu at h
 rw [decide_eq_true_eq] at h
 obtain ⟨h1,h2,h3⟩:=h
 have e:TE (n,s,d)=Gc n s d:=if_pos h3
 rw [e]
 exact Rg n s d w (C6 h3).1 (Jf h1 (by omega)) (Jf h2 (by omega))
theorem Kf (q:Q3) (h:Gu q=true):(TE q).size≤3000:=by
 obtain ⟨n,s,d⟩:=q
 unfold Gu at h
 rw [decide_eq_true_eq] at h
 obtain ⟨h1,h2,h3⟩:=h
 have e:TE (n,s,d)=Gc n s d:=if_pos h3
 have a1:=Fb n s (Jf h1 (by omega))
 have a2:=Fb false d (Jf h2 (by omega))
 rw [e]
 unfold Gc
 split
 ·omega
 ·rw [Cd,Cd]
  show _+1+_≤3000
  omega
def Fx (A:List (Q3 × Q3)):Nat→ByteArray→ByteArray
 | 0,s=>s
 | k+1,s=>(((Fx A k s ++ TE ((A.getD k (zQ,zQ)).1)) ++ ⟨#[32]⟩) ++ TE ((A.getD k (zQ,zQ)).2)) ++ ⟨#[10]⟩
theorem Lw (A:List (Q3 × Q3)) (s:ByteArray) (hA:∀ q,q∈A→Gu q.1=true∧Gu q.2=true):∀ k,k≤A.length→(Fx A k s).size≤s.size+k*10000
 | 0,_=>by rw [Fx];omega
 | k+1,h=>by
  have ih:=Lw A s hA k (by omega)
  have hm:A.getD k (zQ,zQ)∈A:=by
   rw [Jh,List.getElem?_eq_getElem (by omega)]
   exact List.getElem_mem _
  have h1:=Kf _ (hA _ hm).1
  have h2:=Kf _ (hA _ hm).2
  rw [Fx,Cd,Cd,Cd,Cd,Nat.succ_mul]
  show _+_+1+_+1≤_
  omega
theorem Bb3 (c:ByteArray) (A:List (Q3 × Q3)) (a:Option Addr) (n m:Nat) (w:World) (hc1:c.size≤100) (hA:∀ q,q∈A→Gu q.1=true∧Gu q.2=true) (e1:A.length=n) (hn:n<100) (r1:B9 w 6 (.slice a n m) (A.map cP)) :
  Calls Tryz.prog 106 #[I c,.slice a n m] w (Re w (I (Fx A n (((c ++ ⟨#[32]⟩) ++ dg n) ++ ⟨#[10]⟩)))):=by
 have HD:=Ba (fun wi=>Qm (n:Int) ⟨by omega,by omega⟩ wi)
 rw [Bc2 n hn] at HD
 have zd:=Of n hn
 obtain ⟨dn,hdn⟩:∃ t,t=dg n:=⟨_,rfl⟩
 rw [← hdn] at HD zd ⊢
 have R1:=Ba (fun wi (b:Below w.heap.size w wi)=>r1.b b)
 have E1:=Ba e1
 have ZA:=Ba (fun s k hk=>Lw A s hA k hk)
 have HSh:=Ba hA
 clear r1 e1 hA hdn
 go_enter Tryz.func106,Tryz.ntmps106
 go_wp2_with (go_at_call 107;refine (HD.out w).mono ?_;rintro e w1 ⟨rfl,b1⟩)
 have zs:(((c ++ ⟨#[32]⟩) ++ dn) ++ ⟨#[10]⟩).size≤200:=by
  rw [Cd,Cd,Cd]
  show _+1+_+1≤_
  omega
 obtain ⟨s0,hs0⟩:∃ s,s=((c ++ ⟨#[32]⟩) ++ dn) ++ ⟨#[10]⟩:=⟨_,rfl⟩
 rw [← hs0] at zs ⊢
 have HS0:=Ba hs0
 clear zd HD hc1 hs0
 go_loopw [5,6] (fun s i wr=>∃ k:Nat,k≤n∧i=.int .i64 (k:Nat)∧s=I (Fx A k s0)∧Below w.heap.size w wr) (fun _ i _=>n - (intOf i).toNat)
 case atStart=>exact ⟨0,Nat.zero_le _,rfl,by rw [Fx,HS0.out],b1⟩
 case round =>
  obtain ⟨k,hk,rfl,rfl,HW⟩:=hrel
  have hz:=ZA.out s0 k (by rw [E1.out];omega)
  have hz2:(Fx A k s0).size≤1000200:=by omega
  by_cases hgo:k<n
  ·have hgo':(k:Int)<(n:Int):=by omega
   obtain ⟨q,hq⟩:∃ q,A[k]?=some q:=⟨_,List.getElem?_eq_getElem (by rw [E1.out];exact hgo)⟩
   obtain ⟨a',c',ea,-,hR⟩:=R1.out _ HW
   obtain ⟨g,o,eg,hgl,hc⟩:=hR k _ (by rw [List.getElem?_map,hq];rfl)
   replace ea:=(Value.slice.inj ea).1
   rw [eg] at ea
   subst ea
   have hm:=HSh.out q (List.mem_of_getElem? hq)
   have hup:Hid (Fx A (k+1) s0=(((Fx A k s0 ++ TE q.1) ++ ⟨#[32]⟩) ++ TE q.2) ++ ⟨#[10]⟩):=by
    show _=_
    rw [Fx,Jh,hq]
    rfl
   have S1:=Ba (fun wi=>Bfm q.1 hm.1 wi)
   have S2:=Ba (fun wi=>Bfm q.2 hm.2 wi)
   have t1:=Kf q.1 hm.1
   have t2:=Kf q.2 hm.2
   generalize TE q.1=x1 at *
   generalize TE q.2=x2 at *
   obtain ⟨⟨xn,xs,xd⟩,yn,ys,yd⟩:=q
   have q1:wr.rangeAt g (o+k*6) (D6 xn xs xd):=fun i v hv=>hc i v (by match i,hv with | 0,hv=>exact hv | 1,hv=>exact hv | 2,hv=>exact hv)
   have q2:wr.rangeAt g (o+k*6+3) (D6 yn ys yd):=fun i v hv=>by
    have:=hc (3+i) v (by match i,hv with | 0,hv=>exact hv | 1,hv=>exact hv | 2,hv=>exact hv)
    rwa [← Nat.add_assoc] at this
   clear hc hR eg hq hm hgl hz
   generalize Fx A k s0=sk at *
   go_wp2
   refine Jc (S:=fun w'=>w'.rangeAt g (o+k*6) (D6 xn xs xd)∧w'.rangeAt g (o+k*6+3) (D6 yn ys yd)) (by kernel_rfl) ⟨(World.rangeAt_drew _ _ _ _).2 q1,(World.rangeAt_drew _ _ _ _).2 q2⟩ (fun hS=>?_)
   have bd:=Fe wr
   have B2:=Ia HW bd
   clear q1 q2 HW bd
   generalize wr.drew=wd at *
   refine WA.start (n:=18) (by kernel_rfl) ?_
   refine WA.tp 0 rfl ?_
   refine WA.tp 1 rfl ?_
   refine WA.tp 2 rfl ?_
   refine WA.tp 9 rfl ?_
   refine WA.tp 10 rfl ?_
   refine WA.tp 3 rfl ?_
   refine WA.tp 4 rfl ?_
   refine WA.tp 5 rfl ?_ (hy:=Jd (by rfl) 26 _ rfl g (o+k*6) rfl (D6 xn xs xd) _ (fun w' h=>h.1) Tryz.underlying26 rfl (by kernel_rfl))
   refine WA.tp 11 rfl ?_
   refine WA.tp 12 rfl ?_
   refine WA.tp 13 rfl ?_ (hy:=Jd (by rfl) 26 _ rfl g (o+k*6+3) rfl (D6 yn ys yd) _ (fun w' h=>h.2) Tryz.underlying26 rfl (by kernel_rfl))
   refine WA.cal 6 rfl (fun K hK=>?_)
   simp only [Jq]
   go_simp
   go_fit (S1.out _)
   rintro e wa ⟨rfl,bq⟩
   have B3:=Ia B2 bq
   try go_wp2_with fail
   refine hK.out _ _ ⟨fun i v hv=>Bh (hS.1 i v hv) bq,fun i v hv=>Bh (hS.2 i v hv) bq⟩ (fun hS=>?_)
   clear hK K bq B2
   refine WA.tp 7 rfl ?_ (hy:=Or.inl ⟨by rfl,by (intro w hSw;(try dsimp only at hSw);go_simp;rw [if_neg (by omega)];try with_reducible rfl)⟩)
   refine WA.tp 8 rfl ?_ (hy:=Or.inl ⟨by rfl,by (intro w hSw;(try dsimp only at hSw);go_simp;rw [if_neg (by omega)];try with_reducible rfl)⟩)
   refine WA.cal 14 rfl (fun K hK=>?_)
   simp only [Jq]
   go_simp
   go_fit (S2.out _)
   rintro e wb ⟨rfl,bq⟩
   have B4:=Ia B3 bq
   try go_wp2_with fail
   refine hK.out _ _ ⟨fun i v hv=>Bh (hS.1 i v hv) bq,fun i v hv=>Bh (hS.2 i v hv) bq⟩ (fun hS=>?_)
   clear hK K bq B3
   refine WA.tp 15 rfl ?_ (hy:=Or.inl ⟨by rfl,by (intro w hSw;(try dsimp only at hSw);go_simp;rw [if_neg (by omega)];try with_reducible rfl)⟩)
   refine WA.tp 16 rfl ?_ (hy:=Or.inl ⟨by rfl,by (intro w hSw;(try dsimp only at hSw);go_simp;rw [if_neg (by omega)];try with_reducible rfl)⟩)
   refine WA.tp 17 rfl ?_
   refine WA.done (by kernel_rfl) ?_
   clear hS
   go_wp2
   go_roundw
   case rel=>exact ⟨k+1,by omega,by go_num,by rw [hup.out],B4⟩
   case measure=>simp [intOf];omega
  ·obtain rfl:k=n:=by omega
   have hgo':¬ (k:Int)<(k:Int):=by omega
   go_wp2
   go_ret
   exact ⟨by rw [← HS0.out];rfl,HW⟩
open Go.RowKit Go.Shelf
def Kb (x:Nat→Q3):Nat→ByteArray→ByteArray
 | 0,s=>s
 | k+1,s=>(Kb x k s ++ ⟨#[32]⟩) ++ TE (x k)
theorem Lv (x:Nat→Q3) (s:ByteArray) (hx:∀ j,j<6→Gu (x j)=true):∀ k,k≤6→(Kb x k s).size≤s.size+k*5000
 | 0,_=>by rw [Kb];omega
 | k+1,h=>by
  have ih:=Lv x s hx k (by omega)
  have h1:=Kf _ (hx k (by omega))
  rw [Kb,Cd,Cd,Nat.succ_mul]
  show _+1+_≤_
  omega
theorem Bl3 (c:ByteArray) (x:Nat→Q3) (w:World) (hc1:c.size≤100) (hx:∀ j,j<6→Gu (x j)=true) :
  Calls Tryz.prog 108 #[I c,.agg #[Iz (x 0).1,I (x 0).2.1,I (x 0).2.2,Iz (x 1).1,I (x 1).2.1,I (x 1).2.2,Iz (x 2).1,I (x 2).2.1,I (x 2).2.2,Iz (x 3).1,I (x 3).2.1,I (x 3).2.2,Iz (x 4).1,I (x 4).2.1,I (x 4).2.2,Iz (x 5).1,I (x 5).2.1,I (x 5).2.2]] w (Re w (I (Kb x 6 c ++ ⟨#[10]⟩))):=by
 have ZA:=Ba (fun k hk=>Lv x c hx k hk)
 have HX:=Ba hx
 clear hx
 go_enter Tryz.func108,Tryz.ntmps108
 go_upto_region 1 with fail
 obtain ⟨w0,hq,kz,b0⟩:=Es w [Iz (x 0).1,I (x 0).2.1,I (x 0).2.2,Iz (x 1).1,I (x 1).2.1,I (x 1).2.2,Iz (x 2).1,I (x 2).2.1,I (x 2).2.2,Iz (x 3).1,I (x 3).2.1,I (x 3).2.2,Iz (x 4).1,I (x 4).2.1,I (x 4).2.2,Iz (x 5).1,I (x 5).2.1,I (x 5).2.2] 28
 rw [← hq]
 clear hq
 generalize Value.agg _=V0
 obtain ⟨G,hG⟩:∃ G,G=w.heap.size:=⟨_,rfl⟩
 rw [← hG] at kz ⊢
 have CF:Hid (∀ wi,Below w0.heap.size w0 wi→∀ k,k<6→wi.rangeAt G (k*3) [Iz (x k).1,I (x k).2.1,I (x k).2.2]):=fun wi b k hk i v hv=>by
  have h:=(kz.b b).cell (k*3+i)
  rw [show [Value.bool (x 0).1,I (x 0).2.1,I (x 0).2.2,Iz (x 1).1,I (x 1).2.1,I (x 1).2.2,Iz (x 2).1,I (x 2).2.1,I (x 2).2.2,Iz (x 3).1,I (x 3).2.1,I (x 3).2.2,Iz (x 4).1,I (x 4).2.1,I (x 4).2.2,Iz (x 5).1,I (x 5).2.1,I (x 5).2.2]=C4 x from rfl,Ban x k hk i v hv] at h
  exact h
 clear hG kz
 have BW:=Jg w0.heap.size w0
 go_wp2_with fail
 go_loopw [5,6] (fun s i wr=>∃ k:Nat,k≤6∧i=.int .i64 (k:Nat)∧s=I (Kb x k c)∧Below w0.heap.size w0 wr) (fun _ i _=>6 - (intOf i).toNat)
 case atStart=>exact ⟨0,Nat.zero_le _,rfl,rfl,BW⟩
 case round =>
  obtain ⟨k,hk,rfl,rfl,HW⟩:=hrel
  have hz:=ZA.out k hk
  have hz2:(Kb x k c).size≤40000:=by omega
  by_cases hgo:k<6
  ·have hgo':(k:Int)<6:=by omega
   have S1:=Ba (fun wi=>Bfm (x k) (HX.out k hgo) wi)
   have t1:=Kf (x k) (HX.out k hgo)
   have q1:=CF.out _ HW k hgo
   have hup:Hid (Kb x (k+1) c=(Kb x k c ++ ⟨#[32]⟩) ++ TE (x k)):=rfl
   generalize TE (x k)=x1 at *
   generalize x k=xk at *
   obtain ⟨xn,xs,xd⟩:=xk
   clear hz
   generalize Kb x k c=sk at *
   go_wp2_with (first | (refine wpList_load_mid rfl 26 _ rfl G (k*3) rfl (D6 xn xs xd) _ q1 Tryz.underlying26 rfl (by kernel_rfl) ?_) | (go_at_call 56;refine (S1.out wr).mono ?_;rintro e w2 ⟨rfl,b2⟩))
   go_roundw
   case rel=>exact ⟨k+1,by omega,by go_num,by rw [hup.out],Ia HW b2⟩
   case measure=>simp [intOf];omega
  ·obtain rfl:k=6:=by omega
   have hgo':¬ ((6:Nat):Int)<6:=by omega
   go_wp2
   go_ret
   exact ⟨rfl,Ia b0 HW⟩
def Bkn (f:Bool):ByteArray:=if f then ⟨#[32,100,10]⟩ else ⟨#[32,110,10]⟩
def Ml (A:List (Int × Int × Bool)):Nat→ByteArray→ByteArray
 | 0,s=>s
 | k+1,s=>(((Ml A k s ++ RI ((A.getD k (0,0,false)).1)) ++ ⟨#[32]⟩) ++ RI ((A.getD k (0,0,false)).2.1)) ++ Bkn ((A.getD k (0,0,false)).2.2)
theorem Bee (f:Bool):(Bkn f).size=3:=by cases f <;> rfl
theorem Tr (A:List (Int × Int × Bool)) (s:ByteArray) (hA:∀ q,q∈A→Gg q.1∧Gg q.2.1):∀ k,k≤A.length→(Ml A k s).size≤s.size+k*3000
 | 0,_=>by rw [Ml];omega
 | k+1,h=>by
  have ih:=Tr A s hA k (by omega)
  have hm:A.getD k (0,0,false)∈A:=by
   rw [Jh,List.getElem?_eq_getElem (by omega)]
   exact List.getElem_mem _
  have h1:=Qv _ (hA _ hm).1
  have h2:=Qv _ (hA _ hm).2
  have h3:=Bee (A.getD k (0,0,false)).2.2
  rw [Ml,Cd,Cd,Cd,Cd,Nat.succ_mul]
  show _+_+1+_+_≤_
  omega
def Kk (c:ByteArray) (n:Nat):ByteArray:=((c ++ ⟨#[32]⟩) ++ dg n) ++ ⟨#[10]⟩
def rt1 (A1:List (Q3 × Q3)) (n1 n2:Nat):ByteArray:=(((⟨#[112,115,108,103,10]⟩ ++ Fx A1 n1 (Kk wV n1)) ++ ⟨#[115,32]⟩) ++ dg n2) ++ ⟨#[10]⟩
def Lc (A1 A3:List (Q3 × Q3)) (A2:List (Int × Int × Bool)) (x y:Nat→Q3) (n1 n2 n3:Nat):ByteArray :=
 (((Ml A2 n2 (rt1 A1 n1 n2) ++ Fx A3 n3 (Kk wH n3)) ++ (Kb x 6 wF ++ ⟨#[10]⟩)) ++ (Kb y 6 wG ++ ⟨#[10]⟩)) ++ ⟨#[101,110,100,10]⟩
theorem Bdd (A1 A3:List (Q3 × Q3)) (A2:List (Int × Int × Bool)) (a1 a2 a3:Option Addr) (n1 n2 n3 m1 m2 m3:Nat) (x y:Nat→Q3) (w:World) (e1:A1.length=n1) (e2:A2.length=n2) (e3:A3.length=n3) (hs:U6 n1 n2 n3 A1 A3 x y=true) (s2:∀ s,s∈A2→Gg s.1∧Gg s.2.1)
  (r1:B9 w 6 (.slice a1 n1 m1) (A1.map cP)) (r2:B9 w 3 (.slice a2 n2 m2) (A2.map cZ)) (r3:B9 w 6 (.slice a3 n3 m3) (A3.map cP)) :
  Calls Tryz.prog 55 #[.agg #[.slice a1 n1 m1,.slice a2 n2 m2,.slice a3 n3 m3,Iz (x 0).1,I (x 0).2.1,I (x 0).2.2,Iz (x 1).1,I (x 1).2.1,I (x 1).2.2,Iz (x 2).1,I (x 2).2.1,I (x 2).2.2,Iz (x 3).1,I (x 3).2.1,I (x 3).2.2,Iz (x 4).1,I (x 4).2.1,I (x 4).2.2,Iz (x 5).1,I (x 5).2.1,I (x 5).2.2,Iz (y 0).1,I (y 0).2.1,I (y 0).2.2,Iz (y 1).1,I (y 1).2.1,I (y 1).2.2,Iz (y 2).1,I (y 2).2.1,I (y 2).2.2,Iz (y 3).1,I (y 3).2.1,I (y 3).2.2,Iz (y 4).1,I (y 4).2.1,I (y 4).2.2,Iz (y 5).1,I (y 5).2.1,I (y 5).2.2]] w (Re w (I (Lc A1 A3 A2 x y n1 n2 n3))):=by
 obtain ⟨⟨z1,z2,z3⟩,hA1,hA3,hxy⟩:=U5 hs
 have HV:=Ba (fun wi (b:Below w.heap.size w wi)=>Bb3 wV A1 a1 n1 m1 wi (by decide) hA1 e1 (by omega) (r1.b b))
 have HH:=Ba (fun wi (b:Below w.heap.size w wi)=>Bb3 wH A3 a3 n3 m3 wi (by decide) hA3 e3 (by omega) (r3.b b))
 have HF:=Ba (fun wi=>Bl3 wF x wi (by decide) fun j hj=>(hxy j hj).1)
 have HG:=Ba (fun wi=>Bl3 wG y wi (by decide) fun j hj=>(hxy j hj).2)
 have HD:=Ba (fun wi=>Qm (n2:Int) ⟨by omega,by omega⟩ wi)
 rw [Bc2 n2 (by omega)] at HD
 have zv:=Lw A1 (Kk wV n1) hA1 n1 (by omega)
 have zh:=Lw A3 (Kk wH n3) hA3 n3 (by omega)
 have zf:=Lv x wF (fun j hj=>(hxy j hj).1) 6 (by omega)
 have zg:=Lv y wG (fun j hj=>(hxy j hj).2) 6 (by omega)
 have zd:=Of n2 (by omega)
 have zd1:=Of n1 (by omega)
 have zd3:=Of n3 (by omega)
 have zhv:(Kk wV n1).size≤10:=by unfold Kk;rw [Cd,Cd,Cd];show 1+1+_+1≤10;omega
 have zhh:(Kk wH n3).size≤10:=by unfold Kk;rw [Cd,Cd,Cd];show 1+1+_+1≤10;omega
 have zwF:wF.size=1:=rfl
 have zwG:wG.size=1:=rfl
 have HT:Hid (Lc A1 A3 A2 x y n1 n2 n3=(((Ml A2 n2 (rt1 A1 n1 n2) ++ Fx A3 n3 (Kk wH n3)) ++ (Kb x 6 wF ++ ⟨#[10]⟩)) ++ (Kb y 6 wG ++ ⟨#[10]⟩)) ++ ⟨#[101,110,100,10]⟩):=rfl
 have HT1:Hid (rt1 A1 n1 n2=(((⟨#[112,115,108,103,10]⟩ ++ Fx A1 n1 (Kk wV n1)) ++ ⟨#[115,32]⟩) ++ dg n2) ++ ⟨#[10]⟩):=rfl
 have zt1:(rt1 A1 n1 n2).size≤500000:=by
  rw [HT1.out,Cd,Cd,Cd,Cd]
  show 5+_+2+_+1≤_
  omega
 have hv0:Fx A1 n1 (((wV ++ ⟨#[32]⟩) ++ dg n1) ++ ⟨#[10]⟩)=Fx A1 n1 (Kk wV n1):=rfl
 have hh0:Fx A3 n3 (((wH ++ ⟨#[32]⟩) ++ dg n3) ++ ⟨#[10]⟩)=Fx A3 n3 (Kk wH n3):=rfl
 rw [hv0] at HV
 rw [hh0] at HH
 clear hv0 hh0 zd1 zd3 hxy hA1 hA3 hs
 have hZS:=Ba (fun s k hk=>Tr A2 s s2 k hk)
 have zvb:(Fx A1 n1 (Kk wV n1)).size≤450000:=by omega
 have zhb:(Fx A3 n3 (Kk wH n3)).size≤450000:=by omega
 have zfb:(Kb x 6 wF ++ ⟨#[10]⟩).size≤50000:=by rw [Cd];show _+1≤_;omega
 have zgb:(Kb y 6 wG ++ ⟨#[10]⟩).size≤50000:=by rw [Cd];show _+1≤_;omega
 clear zv zh zf zg zhv zhh zwF zwG
 generalize Fx A1 n1 (Kk wV n1)=tv at *
 generalize Fx A3 n3 (Kk wH n3)=th at *
 generalize Kb x 6 wF ++ ⟨#[10]⟩=tf at *
 generalize Kb y 6 wG ++ ⟨#[10]⟩=tg at *
 generalize rt1 A1 n1 n2=t1 at *
 generalize Lc A1 A3 A2 x y n1 n2 n3=tx at *
 generalize dg n2=d2 at *
 go_enter Tryz.func55,Tryz.ntmps55
 go_upto_region 1 with fail
 obtain ⟨w0,hq,kz,b0⟩:=Es w [.slice a1 n1 m1,.slice a2 n2 m2,.slice a3 n3 m3,Iz (x 0).1,I (x 0).2.1,I (x 0).2.2,Iz (x 1).1,I (x 1).2.1,I (x 1).2.2,Iz (x 2).1,I (x 2).2.1,I (x 2).2.2,Iz (x 3).1,I (x 3).2.1,I (x 3).2.2,Iz (x 4).1,I (x 4).2.1,I (x 4).2.2,Iz (x 5).1,I (x 5).2.1,I (x 5).2.2,Iz (y 0).1,I (y 0).2.1,I (y 0).2.2,Iz (y 1).1,I (y 1).2.1,I (y 1).2.2,Iz (y 2).1,I (y 2).2.1,I (y 2).2.2,Iz (y 3).1,I (y 3).2.1,I (y 3).2.2,Iz (y 4).1,I (y 4).2.1,I (y 4).2.2,Iz (y 5).1,I (y 5).2.1,I (y 5).2.2] 46
 rw [← hq]
 clear hq
 have kz':Bi w0 w.heap.size (Dq (.slice a1 n1 m1) (.slice a2 n2 m2) (.slice a3 n3 m3) (C4 x) (C4 y)) 46:=kz
 clear kz
 generalize Value.agg _=V0
 obtain ⟨G,hG⟩:∃ G,G=w.heap.size:=⟨_,rfl⟩
 rw [← hG] at kz' ⊢
 have R2:=Ba (fun wi (b:Below w0.heap.size w0 wi)=>(r2.b b0).b b)
 have E2:=Ba e2
 have S2:=Ba s2
 have C0:=kz'.cell 0
 have C1:Hid (∀ wi,Below w0.heap.size w0 wi→wi.cell? ⟨G,1,none⟩=some (.slice a2 n2 m2)):=fun wi b=>(kz'.b b).cell 1
 have C2:Hid (∀ wi,Below w0.heap.size w0 wi→wi.cell? ⟨G,2,none⟩=some (.slice a3 n3 m3)):=fun wi b=>(kz'.b b).cell 2
 have CF:Hid (∀ wi,Below w0.heap.size w0 wi→wi.rangeAt G 3 [Iz (x 0).1,I (x 0).2.1,I (x 0).2.2,Iz (x 1).1,I (x 1).2.1,I (x 1).2.2,Iz (x 2).1,I (x 2).2.1,I (x 2).2.2,Iz (x 3).1,I (x 3).2.1,I (x 3).2.2,Iz (x 4).1,I (x 4).2.1,I (x 4).2.2,Iz (x 5).1,I (x 5).2.1,I (x 5).2.2]):=fun wi b=>Dm (kz'.b b) 3 18
 have CG:Hid (∀ wi,Below w0.heap.size w0 wi→wi.rangeAt G 21 [Iz (y 0).1,I (y 0).2.1,I (y 0).2.2,Iz (y 1).1,I (y 1).2.1,I (y 1).2.2,Iz (y 2).1,I (y 2).2.1,I (y 2).2.2,Iz (y 3).1,I (y 3).2.1,I (y 3).2.2,Iz (y 4).1,I (y 4).2.1,I (y 4).2.2,Iz (y 5).1,I (y 5).2.1,I (y 5).2.2]):=fun wi b=>Dm (kz'.b b) 21 18
 have c0:w0.cell? ⟨G,0,none⟩=some (.slice a1 n1 m1):=C0
 have c1:=C1.out _ (Jg _ _)
 clear hG kz' r1 r2 r3 e1 e2 e3 s2 C0
 have bd:Below w0.heap.size w0 w0.drew:=Fe w0
 refine Jc (S:=fun w'=>w'.cell? ⟨G,0,none⟩=some (.slice a1 n1 m1)∧w'.cell? ⟨G,1,none⟩=some (.slice a2 n2 m2)) (by kernel_rfl) ⟨c0,c1⟩ (fun hS=>?_)
 generalize w0.drew=wd at *
 refine WA.start (n:=12) (by kernel_rfl) ?_
 refine WA.tp 0 rfl ?_
 refine WA.tp 1 rfl ?_
 refine WA.tp 5 rfl ?_
 refine WA.tp 6 rfl ?_
 refine WA.tp 7 rfl ?_
 refine WA.cal 2 rfl (fun K hK=>?_)
 simp only [Jq]
 go_simp
 go_fit (HV.out wd (Ia b0 bd))
 rintro e wa ⟨rfl,bq⟩
 have B3:=Ia bd bq
 try go_wp2_with fail
 refine hK.out _ _ ⟨Bh hS.1 bq,Bh hS.2 bq⟩ (fun hS=>?_)
 clear hK K bq bd
 refine WA.tp 3 rfl ?_ (hy:=Or.inl ⟨by rfl,by (intro w hSw;(try dsimp only at hSw);go_simp;rw [if_neg (by omega)];try with_reducible rfl)⟩)
 refine WA.tp 4 rfl ?_ (hy:=Or.inl ⟨by rfl,by (intro w hSw;(try dsimp only at hSw);go_simp;rw [if_neg (by omega)];try with_reducible rfl)⟩)
 refine WA.cal 8 rfl (fun K hK=>?_)
 simp only [Jq]
 go_simp
 go_fit (HD.out wa)
 rintro e wb ⟨rfl,bq⟩
 have B4:=Ia B3 bq
 try go_wp2_with fail
 refine hK.out _ _ ⟨Bh hS.1 bq,Bh hS.2 bq⟩ (fun hS=>?_)
 clear hK K bq B3
 refine WA.tp 9 rfl ?_ (hy:=Or.inl ⟨by rfl,by (intro w hSw;(try dsimp only at hSw);go_simp;rw [if_neg (by omega)];try with_reducible rfl)⟩)
 refine WA.tp 10 rfl ?_ (hy:=Or.inl ⟨by rfl,by (intro w hSw;(try dsimp only at hSw);go_simp;rw [if_neg (by omega)];try with_reducible rfl)⟩)
 refine WA.tp 11 rfl ?_
 refine WA.done (by kernel_rfl) ?_
 clear hS c0 c1 HV HD
 rw [← HT1.out]
 go_wp2_with fail
 go_loopw [3,4] (fun s i wr=>∃ k:Nat,k≤n2∧i=.int .i64 (k:Nat)∧s=I (Ml A2 k t1)∧Below w0.heap.size w0 wr) (fun _ i _=>n2 - (intOf i).toNat)
 case atStart=>exact ⟨0,Nat.zero_le _,rfl,rfl,B4⟩
 case round =>
  obtain ⟨k,hk,rfl,rfl,HW⟩:=hrel
  have hz:=hZS.out t1 k (by rw [E2.out];omega)
  have hz2:(Ml A2 k t1).size≤900000:=by omega
  have c1:=C1.out _ HW
  by_cases hgo:k<n2
  ·have hgo':(k:Int)<(n2:Int):=by omega
   obtain ⟨q,hq⟩:∃ q,A2[k]?=some q:=⟨_,List.getElem?_eq_getElem (by rw [E2.out];exact hgo)⟩
   obtain ⟨a',c',ea,-,hR⟩:=R2.out _ HW
   obtain ⟨g,o,eg,hgl,hc⟩:=hR k _ (by rw [List.getElem?_map,hq];rfl)
   replace ea:=(Value.slice.inj ea).1
   rw [eg] at ea
   subst ea
   have hm:=S2.out q (List.mem_of_getElem? hq)
   have hup:Hid (Ml A2 (k+1) t1=(((Ml A2 k t1 ++ RI q.1) ++ ⟨#[32]⟩) ++ RI q.2.1) ++ Bkn q.2.2):=by
    show _=_
    rw [Ml,Jh,hq]
    rfl
   have D1:=Ba (fun wi=>Qm q.1 hm.1 wi)
   have D2:=Ba (fun wi=>Qm q.2.1 hm.2 wi)
   have y1:=Qv q.1 hm.1
   have y2:=Qv q.2.1 hm.2
   generalize RI q.1=x1 at *
   generalize RI q.2.1=x2 at *
   obtain ⟨xa,xb,xf⟩:=q
   have q0:wr.cell? ⟨g,o+k*3,none⟩=some (.int .i64 xa):=hc 0 _ rfl
   have q1:wr.cell? ⟨g,o+k*3+1,none⟩=some (.int .i64 xb):=hc 1 _ rfl
   have q2:wr.cell? ⟨g,o+k*3+2,none⟩=some (Iz xf):=hc 2 _ rfl
   clear hc hR eg hq hm hgl hz
   generalize Ml A2 k t1=sk at *
   cases xf <;>
   ·go_upto_region 8 with fail
    have bd:Below wr.heap.size wr wr.drew:=Fe wr
    have B2:=Ia HW bd
    refine Jc (S:=fun w'=>w'.cell? ⟨G,1,none⟩=some (.slice (some ⟨g,o,none⟩) n2 m2)∧w'.cell? ⟨g,o+k*3,none⟩=some (.int .i64 xa)∧w'.cell? ⟨g,o+k*3+1,none⟩=some (.int .i64 xb)) (by kernel_rfl) ⟨c1,q0,q1⟩ (fun hS=>?_)
    clear bd q0 q1 q2 HW c1
    generalize wr.drew=wd at *
    refine WA.start (n:=21) (by kernel_rfl) ?_
    refine WA.tp 0 rfl ?_
    refine WA.tp 1 rfl ?_
    refine WA.tp 2 rfl ?_
    refine WA.tp 3 rfl ?_
    refine WA.tp 10 rfl ?_
    refine WA.tp 11 rfl ?_
    refine WA.tp 12 rfl ?_
    refine WA.tp 18 rfl ?_
    refine WA.tp 4 rfl ?_
    refine WA.tp 5 rfl ?_
    refine WA.tp 6 rfl ?_
    refine WA.tp 13 rfl ?_
    refine WA.tp 14 rfl ?_
    refine WA.tp 15 rfl ?_
    refine WA.cal 7 rfl (fun K hK=>?_)
    simp only [Jq]
    go_simp
    go_fit (D1.out wd)
    rintro e wa ⟨rfl,bq⟩
    have B3:=Ia B2 bq
    try go_wp2_with fail
    refine hK.out _ _ ⟨Bh hS.1 bq,Bh hS.2.1 bq,Bh hS.2.2 bq⟩ (fun hS=>?_)
    clear hK K bq B2
    refine WA.tp 8 rfl ?_ (hy:=Or.inl ⟨by rfl,by (intro w hSw;(try dsimp only at hSw);go_simp;rw [if_neg (by omega)];try with_reducible rfl)⟩)
    refine WA.tp 9 rfl ?_ (hy:=Or.inl ⟨by rfl,by (intro w hSw;(try dsimp only at hSw);go_simp;rw [if_neg (by omega)];try with_reducible rfl)⟩)
    refine WA.cal 16 rfl (fun K hK=>?_)
    simp only [Jq]
    go_simp
    go_fit (D2.out wa)
    rintro e wb ⟨rfl,bq⟩
    have B4:=Ia B3 bq
    try go_wp2_with fail
    refine hK.out _ _ ⟨Bh hS.1 bq,Bh hS.2.1 bq,Bh hS.2.2 bq⟩ (fun hS=>?_)
    clear hK K bq B3
    refine WA.tp 17 rfl ?_ (hy:=Or.inl ⟨by rfl,by (intro w hSw;(try dsimp only at hSw);go_simp;rw [if_neg (by omega)];try with_reducible rfl)⟩)
    refine WA.tp 19 rfl ?_ (hy:=Or.inl ⟨by rfl,by (intro w hSw;(try dsimp only at hSw);go_simp;rw [if_neg (by omega)];try with_reducible rfl)⟩)
    refine WA.tp 20 rfl ?_
    refine WA.done (by kernel_rfl) ?_
    clear hS
    go_wp2
    go_roundw
    case rel=>exact ⟨k+1,by omega,by go_num,by rw [hup.out];rfl,B4⟩
    case measure=>simp [intOf];omega
  ·obtain rfl:k=n2:=by omega
   have hgo':¬ (k:Int)<(k:Int):=by omega
   have c2:=C2.out _ HW
   have cf:=CF.out _ HW
   have cg:=CG.out _ HW
   generalize Ml A2 k t1=sk at *
   go_upto_region 9 with fail
   have bd:Below wr.heap.size wr wr.drew:=Fe wr
   have B2:=Ia HW bd
   refine Jc (S:=fun w'=>w'.cell? ⟨G,2,none⟩=some (.slice a3 n3 m3)∧w'.rangeAt G 3 [Iz (x 0).1,I (x 0).2.1,I (x 0).2.2,Iz (x 1).1,I (x 1).2.1,I (x 1).2.2,Iz (x 2).1,I (x 2).2.1,I (x 2).2.2,Iz (x 3).1,I (x 3).2.1,I (x 3).2.2,Iz (x 4).1,I (x 4).2.1,I (x 4).2.2,Iz (x 5).1,I (x 5).2.1,I (x 5).2.2]∧w'.rangeAt G 21 [Iz (y 0).1,I (y 0).2.1,I (y 0).2.2,Iz (y 1).1,I (y 1).2.1,I (y 1).2.2,Iz (y 2).1,I (y 2).2.1,I (y 2).2.2,Iz (y 3).1,I (y 3).2.1,I (y 3).2.2,Iz (y 4).1,I (y 4).2.1,I (y 4).2.2,Iz (y 5).1,I (y 5).2.1,I (y 5).2.2]) (by kernel_rfl) ⟨c2,(World.rangeAt_drew _ _ _ _).2 cf,(World.rangeAt_drew _ _ _ _).2 cg⟩ (fun hS=>?_)
   clear bd c1 c2 cf cg HW hz
   generalize wr.drew=wd at *
   refine WA.start (n:=15) (by kernel_rfl) ?_
   refine WA.tp 0 rfl ?_
   refine WA.tp 1 rfl ?_
   refine WA.tp 2 rfl ?_
   refine WA.tp 5 rfl ?_
   refine WA.tp 6 rfl ?_ (hy:=Jd (by rfl) 28 _ rfl G 3 rfl [Iz (x 0).1,I (x 0).2.1,I (x 0).2.2,Iz (x 1).1,I (x 1).2.1,I (x 1).2.2,Iz (x 2).1,I (x 2).2.1,I (x 2).2.2,Iz (x 3).1,I (x 3).2.1,I (x 3).2.2,Iz (x 4).1,I (x 4).2.1,I (x 4).2.2,Iz (x 5).1,I (x 5).2.1,I (x 5).2.2] _ (fun w' h=>h.2.1) Tryz.underlying28 rfl (by kernel_rfl))
   refine WA.tp 9 rfl ?_
   refine WA.tp 10 rfl ?_ (hy:=Jd (by rfl) 28 _ rfl G 21 rfl [Iz (y 0).1,I (y 0).2.1,I (y 0).2.2,Iz (y 1).1,I (y 1).2.1,I (y 1).2.2,Iz (y 2).1,I (y 2).2.1,I (y 2).2.2,Iz (y 3).1,I (y 3).2.1,I (y 3).2.2,Iz (y 4).1,I (y 4).2.1,I (y 4).2.2,Iz (y 5).1,I (y 5).2.1,I (y 5).2.2] _ (fun w' h=>h.2.2) Tryz.underlying28 rfl (by kernel_rfl))
   refine WA.cal 3 rfl (fun K hK=>?_)
   simp only [Jq]
   go_simp
   go_fit (HH.out wd (Ia b0 B2))
   rintro e wa ⟨rfl,bq⟩
   have B3:=Ia B2 bq
   try go_wp2_with fail
   refine hK.out _ _ ⟨Bh hS.1 bq,fun i v hv=>Bh (hS.2.1 i v hv) bq,fun i v hv=>Bh (hS.2.2 i v hv) bq⟩ (fun hS=>?_)
   clear hK K bq B2
   refine WA.tp 4 rfl ?_ (hy:=Or.inl ⟨by rfl,by (intro w hSw;(try dsimp only at hSw);go_simp;rw [if_neg (by omega)];try with_reducible rfl)⟩)
   refine WA.cal 7 rfl (fun K hK=>?_)
   simp only [Jq]
   go_simp
   go_fit (HF.out wa)
   rintro e wb ⟨rfl,bq⟩
   have B4:=Ia B3 bq
   try go_wp2_with fail
   refine hK.out _ _ ⟨Bh hS.1 bq,fun i v hv=>Bh (hS.2.1 i v hv) bq,fun i v hv=>Bh (hS.2.2 i v hv) bq⟩ (fun hS=>?_)
   clear hK K bq B3
   refine WA.tp 8 rfl ?_ (hy:=Or.inl ⟨by rfl,by (intro w hSw;(try dsimp only at hSw);go_simp;rw [if_neg (by omega)];try with_reducible rfl)⟩)
   refine WA.cal 11 rfl (fun K hK=>?_)
   simp only [Jq]
   go_simp
   go_fit (HG.out wb)
   rintro e wc ⟨rfl,bq⟩
   have B5:=Ia B4 bq
   try go_wp2_with fail
   refine hK.out _ _ ⟨Bh hS.1 bq,fun i v hv=>Bh (hS.2.1 i v hv) bq,fun i v hv=>Bh (hS.2.2 i v hv) bq⟩ (fun hS=>?_)
   clear hK K bq B4
   refine WA.tp 12 rfl ?_ (hy:=Or.inl ⟨by rfl,by (intro w hSw;(try dsimp only at hSw);go_simp;rw [if_neg (by omega)];try with_reducible rfl)⟩)
   refine WA.tp 13 rfl ?_ (hy:=Or.inl ⟨by rfl,by (intro w hSw;(try dsimp only at hSw);go_simp;rw [if_neg (by omega)];try with_reducible rfl)⟩)
   refine WA.tp 14 rfl ?_
   refine WA.done (by kernel_rfl) ?_
   clear hS
   go_wp2
   go_ret
   exact ⟨by rw [HT.out];rfl,Ia b0 B5⟩
end Go.Proofs.YtnplifkgeeicjaaGreatDoor
