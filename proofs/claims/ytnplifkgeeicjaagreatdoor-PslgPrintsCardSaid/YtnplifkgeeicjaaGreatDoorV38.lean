import Derived.Test.YtnplifkgeeicjaaGreatDoorV34
import Derived.Test.YtnplifkgeeicjaaGreatDoorV37
set_option maxRecDepth 100000
set_option maxHeartbeats 8000000
namespace Go.Proofs.YtnplifkgeeicjaaGreatDoor
open Go.RowKit Go.Shelf
theorem Bj5 (n0 gN:Bool) (s0 s1 gS:ByteArray) (w:World) (hg:(gS.toList == [1])=true)
  (H1:Hid (∀ w1,Calls Tryz.prog 110 #[.agg #[Iz n0,I s0],.agg #[Iz false,I s1]] w1 (Re w1 (.agg #[Iz gN,I gS])))) :
  Calls Tryz.prog 57 #[.agg #[Iz n0,I s0],.agg #[Iz false,I s1]] w (Re w ((D8 n0 s0 s1))):=by
 go_enter Tryz.func57,Tryz.ntmps57
 go_wp2_with fail
 go_fit (H1.out _)
 rintro e w1 ⟨rfl,b1⟩
 obtain ⟨ka,kb,kr,b1⟩:=al3 b1
 have sz:=b1.size
 have bb:=b1
 clear b1
 have ta:=ka.lt
 have tb:=kb.lt
 have tr:=kr.lt
 clear ta tb tr
 obtain ⟨ca_0,ca_1⟩:=Dc (ka.alloc (.cells #[Iz gN,I gS] 24))
 obtain ⟨cb_2,cb_3⟩:=Dc (kb.alloc (.cells #[Iz gN,I gS] 24))
 have cr_4:=Cw (kr.alloc (.cells #[Iz gN,I gS] 24))
 have fr_5:=Bi.o (kr.alloc (.cells #[Iz gN,I gS] 24)) 0
 have cr_6:=Cv (kr.alloc (.cells #[Iz gN,I gS] 24))
 have fr_7:=Bi.o (kr.alloc (.cells #[Iz gN,I gS] 24)) 1
 have cr_8:=Cu (kr.alloc (.cells #[Iz gN,I gS] 24))
 have fr_9:=Bi.o (kr.alloc (.cells #[Iz gN,I gS] 24)) 2
 go_wp2
 have kr':=kr.alloc (.cells #[Iz gN,I gS] 24)
 exact Ht (p:=4) (by kernel_rfl) rfl rfl (((kr'.set 0 _).set 1 _).set 2 _) ⟨rfl,Cr (Cr (Cr (ba bb _) (by omega) 0 _) (by omega) 1 _) (by omega) 2 _⟩
open Go.RowKit Go.Shelf
theorem Cd (a b:ByteArray):(a ++ b).size=a.size+b.size:=by simp
theorem Bay:dt 0=[]:=rfl
section
open Go.RowKit Go.Shelf
theorem Sl (b:List Nat) (m:Nat):∀ k,k≤m→Ce (b.take m) k=Ce b k
 | 0,_=>rfl
 | k+1,h=>by
  unfold Ce
  rw [Sl b m k (by omega),Ma (by omega)]
end
section
open Go.RowKit Go.Shelf
theorem Bl5 {s:ByteArray} (h:s≠⟨#[45,48]⟩):(s.toList == [45,48])=false:=by
 rw [beq_eq_false_iff_ne]
 intro e
 rw [ByteArray.toList_eq] at e
 apply h
 obtain ⟨⟨l⟩⟩:=s
 have e':l=[45,48]:=e
 rw [e']
theorem L7 (s:ByteArray) (w:World) (hn:0<s.size∧lm (Bj s) 0=45) (h0:s≠⟨#[45,48]⟩) (h:Lp (Bj (s.extract 1 s.size))) :
  Calls Tryz.prog 216 #[I s] w (Re w (.tuple #[zI (Fk true (Ce (Bj (s.extract 1 s.size)) (s.extract 1 s.size).size)),.int .i64 0])):=by
 have hp:=pfx s
 rw [decide_eq_true hn] at hp
 have hs1:¬ (s.size:Int)<1:=by omega
 have hs2:1≤s.size:=by omega
 have hne:=Bl5 h0
 have hne':¬ s.toList=[45,48]:=by simpa using hne
 obtain ⟨t,ht⟩:∃ t,t=s.extract 1 s.size:=⟨_,rfl⟩
 rw [← ht] at h ⊢
 have HI:=Ba (fun w=>Kd t w true (by simp [h]))
 have HRo:=Ba (fun w=>Tv t w (by have:=h.2.1;rwa [Bt] at this) (fun j hj=>h.2.2.2 j (by rwa [Bt])))
 have h4:=Me h
 rw [Bt] at h4
 have HT:=Ba (fun v w hr=>Wq true v w h4 hr)
 generalize hR:zI (Fk true (Ce (Bj t) t.size))=R at *
 obtain ⟨za,zb,rfl⟩:∃ a b,R=.agg #[Iz a,I b]:=⟨_,_,hR.symm⟩
 have HPx:=Ba hp
 have HTT:=Ba ht
 clear hR h4 h hp ht
 go_enter Tryz.func216,Tryz.ntmps216
 go_wp2_with fail
 obtain ⟨w0,hw0⟩:∃ w0,w0=(w.alloc (.cells #[Iz false,.string { data:=#[] }] 24)).alloc (.cells #[Iz false,.slice none 0 0] 228):=⟨_,rfl⟩
 have k0:Bi w0 w.heap.size [Iz false,.string { data:=#[] }] 24:=by rw [hw0];exact (Bi.new w _ _).alloc _
 have k1:Bi w0 (w.heap.size+1) [Iz false,.slice none 0 0] 228:=by
  rw [hw0]
  have:=Bi.new (w.alloc (.cells #[Iz false,.string { data:=#[] }] 24)) [Iz false,.slice none 0 0] 228
  simpa using this
 have hb0:Below w.heap.size w w0:=by rw [hw0];go_grown
 rw [← hw0]
 clear hw0
 refine (Dn _ _ w0).mono ?_
 rintro e w1 ⟨rfl,hw⟩
 subst hw
 rw [HPx.out]
 have c0:=C7 k1
 have f0:=k1.o 0
 go_wp2_with fail
 rw [← HTT.out]
 obtain ⟨wa,hwa⟩:∃ wa,wa=w1.setCell ⟨w.heap.size+1,0,none⟩ (Iz true):=⟨_,rfl⟩
 have k0':Bi wa w.heap.size [Iz false,.string { data:=#[] }] 24:=by rw [hwa];exact k0.t (by omega) _ _
 have k1':Bi wa (w.heap.size+1) [Iz true,.slice none 0 0] 228:=by rw [hwa];exact k1.set 0 _
 have hb0':Below w.heap.size w wa:=by rw [hwa];exact hb0.setCell (by simp) _
 rw [← hwa]
 clear hwa c0 f0 k0 k1 hb0
 have k0:=k0'
 have k1:=k1'
 have hb0:=hb0'
 clear k0' k1' hb0'
 refine (HI.out wa).mono ?_
 rintro e w2 ⟨rfl,b2⟩
 replace k0:=k0.b b2
 replace k1:=k1.b b2
 replace hb0:=Ia hb0 b2
 clear b2
 go_wp2_with fail
 refine (HRo.out w2).mono ?_
 rintro e w3 ⟨v,rfl,rv,b3⟩
 obtain ⟨av,cv,rfl,-,-⟩:=id rv
 replace k0:=k0.b b3
 replace k1:=k1.b b3
 replace hb0:=Ia hb0 b3
 clear b3
 obtain ⟨c0,c1⟩:=Dc k1
 have f1:=k1.o 1
 obtain ⟨e0,e1⟩:=Dc (k1.set 1 (.slice av (M.digs Bb (Ce (Bj t) t.size)).length cv))
 go_wp2_with fail
 have rx:=(Gw rv k1 (Rw _ _ _ _)).setX 1 (.slice av (M.digs Bb (Ce (Bj t) t.size)).length cv)
 obtain ⟨w4,hw4⟩:∃ w4,w4=w3.setCell ⟨w.heap.size+1,1,none⟩ (.slice av (M.digs Bb (Ce (Bj t) t.size)).length cv):=⟨_,rfl⟩
 have k4:Bi w4 w.heap.size [Iz false,.string { data:=#[] }] 24:=by rw [hw4];exact k0.t (by omega) _ _
 have b4:Below w.heap.size w w4:=by rw [hw4];exact hb0.setCell (by simp) _
 rw [← hw4] at rx ⊢
 clear hw4 c0 c1 f1 e0 e1 k0 k1 hb0 rv
 refine (HT.out _ w4 rx.rd).mono ?_
 rintro e w5 ⟨rfl,b5⟩
 replace k4:=k4.b b5
 replace b4:=Ia b4 b5
 obtain ⟨g0,g1⟩:=Dc k4
 have q0:=k4.o 0
 have q1:=k4.o 1
 go_wp2
 exact Di (p:=2) (u:=3) (by kernel_rfl) rfl rfl rfl ((k4.set 0 _).set 1 _) ⟨rfl,(b4.setCell (by simp) _).setCell (by simp) _⟩
end
section
open Go.RowKit Go.Shelf
theorem Bhw (n:Nat):M.Low 256 (dt n):=by
 intro x hx
 unfold dt at hx
 rw [List.mem_reverse,List.mem_map] at hx
 obtain ⟨y,hy,rfl⟩:=hx
 have:=M.digs_lt (b:=10) (by omega) n y hy
 omega
end
section
open Go.RowKit Go.Shelf
theorem Bey (b c:List Nat) (k:Nat) (hk:k≤b.length):Ce (b ++ c) k=Ce b k:=by
 rw [← Sl (b ++ c) b.length k hk,List.take_left' rfl]
theorem Bka (b c:List Nat) (k:Nat) (hk:k<b.length):lm (b ++ c) k=lm b k:=by
 unfold lm
 rw [Jh,Jh,List.getElem?_append_left hk]
theorem Sd:∀ (n V:Nat),V<n→Ce (dt V) (dt V).length=V
 | 0,V,h=>absurd h (Nat.not_lt_zero _)
 | n+1,V,h=>by
  by_cases h0:V=0
  ·subst h0;rfl
  ·rw [Sc (by omega),Ji,List.length_singleton]
   unfold Ce
   rw [Bey _ _ _ (Jb _),Sd n (V / 10) (by omega),Oa _ _ _ _ rfl]
   omega
theorem Vu (V j:Nat) (h:j<(dt V).length):48≤lm (dt V) j∧lm (dt V) j≤57:=by
 have hm:lm (dt V) j∈dt V:=by
  unfold lm
  rw [Jh,List.getElem?_eq_getElem h]
  exact List.getElem_mem h
 generalize lm (dt V) j=x at hm ⊢
 unfold dt at hm
 rw [List.mem_reverse,List.mem_map] at hm
 obtain ⟨y,hy,rfl⟩:=hm
 have:=M.digs_lt (b:=10) (by omega) V y hy
 omega
theorem Oc:∀ (n V:Nat),V<n→0<V→0<(dt V).length∧lm (dt V) 0≠48
 | 0,V,h,_=>absurd h (Nat.not_lt_zero _)
 | n+1,V,h,h0=>by
  by_cases h1:V<10
  ·rw [Sc h0,Nat.div_eq_of_lt h1,Nat.mod_eq_of_lt h1,Bay]
   refine ⟨by simp,?_⟩
   show 48+V≠48
   omega
  ·obtain ⟨a,b⟩:=Oc n (V / 10) (by omega) (by omega)
   rw [Sc h0,Ji]
   refine ⟨by omega,?_⟩
   rw [Bka _ _ _ a]
   exact b
theorem Bky {V:Nat} (h0:0<V) (h:V<256 ^ 24):Lp (dt V):=by
 obtain ⟨a,b⟩:=Oc (V+1) V (by omega) h0
 refine ⟨a,?_,fun e=>absurd e b,fun j hj=>Vu V j hj⟩
 unfold dt
 rw [List.length_reverse,List.length_map]
 refine Jf (M.digs_len_of_lt (k:=58) (by omega) (Jl h (by decide))) (by omega)
theorem F9 (V:Nat):Bj (Cs (dt V))=dt V:=Pg (Bhw V)
theorem Ln (V:Nat):Bj (Cs (45 :: dt V))=45 :: dt V:=Pg (fun x hx=>by
 rcases List.mem_cons.1 hx with rfl | hx
 ·omega
 ·exact Bhw V x hx)
theorem Qf (V:Nat):(Cs (45 :: dt V)).extract 1 (Cs (45 :: dt V)).size=Cs (dt V):=by
 rw [← Tm ((Cs (45 :: dt V)).extract 1 (Cs (45 :: dt V)).size),Gn,Ln,Cl]
 congr 1
 rw [List.take_of_length_le (Jb _)]
 rfl
theorem Bah (n0:Bool) (s:ByteArray) (w:World) (o:Hc n0 s) (z:s.size≤24) (T:List Nat) (hT:T=dt (Bc s)) :
  Calls Tryz.prog 216 #[I (if T=[] then ⟨#[48]⟩ else if n0 then Cs (45 :: T) else Cs T)] w (Re w (.tuple #[.agg #[Iz n0,I s],.int .i64 0])):=by
 have hz:Value.agg #[Iz n0,I s]=zI (Fk n0 (Bc s)):=Bbc o
 rw [hz]
 have hlt:Bc s<256 ^ 24:=Jl (Gd s) (Nat.pow_le_pow_right (by omega) z)
 by_cases h0:Bc s=0
 ·have ht:T=[]:=by rw [hT,h0,Bay]
  have hs:¬ 0<s.size:=fun h=>by have:=Dw o.1 h;omega
  have hn:n0=false:=by
   cases n0 with
   | false=>rfl
   | true=>exact absurd (o.2 rfl) hs
  rw [if_pos ht,h0,hn]
  exact Gr ⟨#[48]⟩ w (by decide) (by
   refine ⟨by decide,by decide,fun _=>by decide,fun j hj=>?_⟩
   have:j=0:=by have:j<1:=hj;omega
   subst this
   decide)
 ·have hp:0<Bc s:=by omega
  have ns:=Bky hp hlt
  have hne:T≠[]:=by
   intro e
   have:=ns.1
   rw [← hT,e] at this
   simp at this
  rw [if_neg hne]
  subst hT
  cases n0 with
  | false =>
   rw [if_neg (by simp)]
   have:=Gr (Cs (dt (Bc s))) w (by
    rw [F9]
    intro h
    have:=(Vu (Bc s) 0 ns.1).1
    omega) (by rw [F9];exact ns)
   rw [F9,Cl,Sd _ _ (Nat.lt_succ_self _)] at this
   exact this
  | true =>
   rw [if_pos rfl]
   have:=L7 (Cs (45 :: dt (Bc s))) w (by
    rw [Ln,Cl]
    exact ⟨by simp,rfl⟩) (by
    intro e
    have e2:=congrArg Bj e
    rw [Ln] at e2
    have e3:dt (Bc s)=[48]:=(List.cons.inj e2).2
    have:=(Oc _ _ (Nat.lt_succ_self _) hp).2
    rw [e3] at this
    exact this rfl) (by rw [Qf,F9];exact ns)
   rw [Qf,F9,Cl,Sd _ _ (Nat.lt_succ_self _)] at this
   exact this
end
open Go.RowKit Go.Shelf
theorem T6 (n:Bool) (s d t:ByteArray) (w:World) (hd:(d.toList == [1])=true)
  (HC:Hid (∀ w1,Below w.heap.size w w1→Calls Tryz.prog 163 #[(D8 n s d)] w1 (Re w1 (.int .i64 0))))
  (H1:Hid (∀ w1,Below w.heap.size w w1→Calls Tryz.prog 189 #[.agg #[Iz n,I s]] w1 (Re w1 (.tuple #[I t,.int .i64 0])))) :
  Calls Tryz.prog 155 #[(D8 n s d)] w (Re w (.tuple #[I t,.int .i64 0])):=by
 go_enter Tryz.func155,Tryz.ntmps155
 go_wp2_with fail
 go_fit (HC.out _ (ba (Jg _ _) _))
 rintro e w1 ⟨rfl,b1⟩
 obtain ⟨ka,b1⟩:=Hv b1
 have sz:=b1.size
 have bb:=b1
 clear b1
 have ta:=ka.lt
 obtain ⟨ca_0,ca_1,ca_2⟩:=Hw ka
 go_wp2_with fail
 clear ca_0 ca_1 ca_2
 go_fit (H1.out _ bb)
 rintro e w2 ⟨rfl,b1⟩
 have sz:=b1.size
 replace ka:=ka.b b1
 replace bb:=Ia bb b1
 clear b1
 obtain ⟨ca_0,ca_1,ca_2⟩:=Hw ka
 go_wp2
 go_ret2
 exact ⟨rfl,bb⟩
theorem Bdx (n:Bool) (s d t u:ByteArray) (w:World) (hd:(d.toList == [1])=false) (ht:t.size≤10000) (hu:u.size≤10000)
  (HC:Hid (∀ w1,Below w.heap.size w w1→Calls Tryz.prog 163 #[(D8 n s d)] w1 (Re w1 (.int .i64 0))))
  (H1:Hid (∀ w1,Below w.heap.size w w1→Calls Tryz.prog 189 #[.agg #[Iz n,I s]] w1 (Re w1 (.tuple #[I t,.int .i64 0]))))
  (H2:Hid (∀ w1,Below w.heap.size w w1→Calls Tryz.prog 189 #[.agg #[Iz false,I d]] w1 (Re w1 (.tuple #[I u,.int .i64 0])))) :
  Calls Tryz.prog 155 #[(D8 n s d)] w (Re w (.tuple #[I ((t ++ ⟨#[47]⟩) ++ u),.int .i64 0])):=by
 go_enter Tryz.func155,Tryz.ntmps155
 go_wp2_with fail
 go_fit (HC.out _ (ba (Jg _ _) _))
 rintro e w1 ⟨rfl,b1⟩
 obtain ⟨ka,b1⟩:=Hv b1
 have sz:=b1.size
 have bb:=b1
 clear b1
 have ta:=ka.lt
 obtain ⟨ca_0,ca_1,ca_2⟩:=Hw ka
 go_wp2_with fail
 clear ca_0 ca_1 ca_2
 go_fit (H1.out _ bb)
 rintro e w2 ⟨rfl,b1⟩
 have sz:=b1.size
 replace ka:=ka.b b1
 replace bb:=Ia bb b1
 clear b1
 obtain ⟨ca_0,ca_1,ca_2⟩:=Hw ka
 go_wp2_with fail
 clear ca_0 ca_1 ca_2
 go_fit (Qn _ _ _ _)
 rintro e w3 ⟨rfl,b1⟩
 have sz:=b1.size
 replace ka:=ka.b b1
 replace bb:=Ia bb b1
 clear b1
 go_wp2_with fail
 go_fit (H2.out _ bb)
 rintro e w4 ⟨rfl,b1⟩
 have sz:=b1.size
 replace ka:=ka.b b1
 replace bb:=Ia bb b1
 clear b1
 go_wp2
 go_ret2
 exact ⟨rfl,bb⟩
def Dh (n:Bool) (s:ByteArray):ByteArray:=if dt (Bc s)=[] then ⟨#[48]⟩ else if n then Cs (45 :: dt (Bc s)) else Cs (dt (Bc s))
theorem Fb (n:Bool) (s:ByteArray) (h:s.size≤400):(Dh n s).size≤1201:=by
 have:=Md s 400 h
 unfold Dh
 split
 ·decide
 ·split
  ·rw [Cl,List.length_cons];omega
  ·rw [Cl];omega
theorem Bm4 (n:Bool) (s:ByteArray) (w:World) (hT:Ee w) (o:Hc n s) (z:s.size≤400) :
  Calls Tryz.prog 189 #[.agg #[Iz n,I s]] w (Re w (.tuple #[I (Dh n s),.int .i64 0])):=Bdy n s w hT o z _ rfl
theorem Ee.bel {w w':World} (h:Ee w) (b:Below w.heap.size w w'):Ee w':=h.b b h.lt
def Gc (n:Bool) (s d:ByteArray):ByteArray:=if Bc d=1 then Dh n s else (Dh n s ++ ⟨#[47]⟩) ++ Dh false d
theorem T4 (n:Bool) (s d:ByteArray) (w:World) (hT:G9 w) (hP:Ee w) (h:Ed n s d=0) (zs:s.size≤400) (zd:d.size≤400) :
  Calls Tryz.prog 155 #[(D8 n s d)] w (Re w (.tuple #[I (Gc n s d),.int .i64 0])):=by
 obtain ⟨o,-,-⟩:=C6 h
 have HC:Hid (∀ w1,Below w.heap.size w w1→Calls Tryz.prog 163 #[(D8 n s d)] w1 (Re w1 (.int .i64 0))):=by
  intro w1 b
  have:=Nr n s d w1 (hT.b b)
  rwa [h] at this
 unfold Gc
 by_cases h1:Bc d=1
 ·rw [if_pos h1]
  exact T6 n s d _ w (eq1 ((L8 o.2.1).2 h1)) HC (fun w1 b=>Bm4 n s w1 (hP.bel b) o.1 zs)
 ·rw [if_neg h1]
  exact Bdx n s d _ _ w (Ue fun e=>h1 ((L8 o.2.1).1 e)) (Jf (Fb n s zs) (by omega)) (Jf (Fb false d zd) (by omega)) HC (fun w1 b=>Bm4 n s w1 (hP.bel b) o.1 zs) (fun w1 b=>Bm4 false d w1 (hP.bel b) ⟨o.2.1,fun h=>by cases h⟩ zd)
open Go.RowKit Go.Shelf
theorem Ey (n:Bool) (s:ByteArray) (w:World) (o:Hc n s) (z:s.size≤24) :
  Calls Tryz.prog 216 #[I (Dh n s)] w (Re w (.tuple #[.agg #[Iz n,I s],.int .i64 0])):=Bah n s w o z _ rfl
theorem Nw:Dh false ⟨#[1]⟩=⟨#[49]⟩:=by
 unfold Dh
 rw [Ch]
 decide
theorem Gy:Hc false ⟨#[1]⟩:=⟨(O7 1) |> fun h=>by rwa [Em] at h,fun h=>by cases h⟩
open Go.RowKit Go.Shelf
theorem Rp (n:Bool) (s d:ByteArray) (w:World) :
  Calls Tryz.prog 75 #[(D8 n s d)] w (Re w (.agg #[Iz false,I d])):=by
 go_enter Tryz.func75,Tryz.ntmps75
 go_wp2
 obtain ⟨w0,hw,k0,k1,b⟩:=Yu w (D6 n s d) [Iz false,I d] 26 24
 rw [← hw]
 exact Ei (p:=2) (by kernel_rfl) rfl rfl k1 ⟨rfl,b⟩
theorem Bf8 (n:Bool) (s d:ByteArray) (w:World) (hs:¬ (8000:Int)<s.size) (hd:¬ (8000:Int)<d.size) (c:Int) (hc:¬ c=0)
  (HC:Hid (∀ w1,Calls Tryz.prog 181 #[.agg #[Iz n,I s]] w1 (Re w1 (.int .i64 c)))) :
  Calls Tryz.prog 134 #[(D8 n s d)] w (Re w (.int .i64 1)):=by
 have hc':(c != 0)=true:=by simpa using hc
 go_enter Tryz.func134,Tryz.ntmps134
 go_wp2_with fail
 obtain ⟨w0,hw,k0,bb⟩:=Es w (D6 n s d) 26
 rw [← hw]
 clear hw
 refine Jc (S:=(fun w'=>xc3 w' w.heap.size (Iz n) (I s) (I d))) (by kernel_rfl) ?_ (fun hHeld=>?_)
 ·exact (Hw k0)
 refine tq 0 rfl ?_
 refine tq 1 rfl ?_
 refine wpAnyH_ready (rs:=[2]) (by kernel_rfl) (by simp) ?_
 refine AllReadyH.cons (o:=_) rfl (fun K hK=>?_) AllReadyH.nil
 simp only [Jq]
 go_simp
 go_fit (HC.out _)
 rintro e wn ⟨rfl,bn⟩
 replace k0:=k0.b (un bn)
 replace bb:=Ia bb (un bn)
 clear bn
 try go_wp2_with fail
 refine hK.out _ _ ?_ (fun hHeld=>?_)
 ·exact (Hw k0)
 clear hK K
 refine tq 3 rfl ?_
 refine tq 4 rfl ?_
 refine tu 5 rfl ?_
 refine tu 6 rfl ?_
 refine tu 7 rfl ?_
 refine tu 8 rfl ?_
 refine tq 9 rfl ?_
 refine tq 10 rfl ?_
 refine tu 11 rfl ?_
 refine tu 12 rfl ?_
 refine tu 13 rfl ?_
 refine tq 14 rfl ?_
 refine tq 15 rfl ?_
 refine tu 16 rfl ?_
 refine tu 17 rfl ?_
 refine tu 18 rfl ?_
 refine tu 19 rfl ?_
 refine tu 20 rfl ?_
 refine tu 21 rfl ?_
 refine tu 22 rfl ?_
 refine tq 23 rfl ?_
 refine wpAnyH_done (by kernel_rfl) ?_ _
 go_wp2
 go_ret
 exact ⟨rfl,bb⟩
theorem Bga (n:Bool) (s d:ByteArray) (w:World) (hs:¬ (8000:Int)<s.size) (hd:¬ (8000:Int)<d.size)
  (HC:Hid (∀ w1,Calls Tryz.prog 181 #[.agg #[Iz n,I s]] w1 (Re w1 (.int .i64 0))))
  (HI:Hid (∀ w1,Calls Tryz.prog 182 #[I d] w1 (Re w1 (Iz false)))) :
  Calls Tryz.prog 134 #[(D8 n s d)] w (Re w (.int .i64 1)):=by
 go_enter Tryz.func134,Tryz.ntmps134
 go_wp2_with fail
 obtain ⟨w0,hw,k0,bb⟩:=Es w (D6 n s d) 26
 rw [← hw]
 clear hw
 refine Jc (S:=(fun w'=>xc3 w' w.heap.size (Iz n) (I s) (I d))) (by kernel_rfl) ?_ (fun hHeld=>?_)
 ·exact (Hw k0)
 refine tq 0 rfl ?_
 refine tq 1 rfl ?_
 refine wpAnyH_ready (rs:=[2]) (by kernel_rfl) (by simp) ?_
 refine AllReadyH.cons (o:=_) rfl (fun K hK=>?_) AllReadyH.nil
 simp only [Jq]
 go_simp
 go_fit (HC.out _)
 rintro e wn ⟨rfl,bn⟩
 replace k0:=k0.b (un bn)
 replace bb:=Ia bb (un bn)
 clear bn
 try go_wp2_with fail
 refine hK.out _ _ ?_ (fun hHeld=>?_)
 ·exact (Hw k0)
 clear hK K
 refine tq 3 rfl ?_
 refine tq 4 rfl ?_
 refine tq 5 rfl ?_
 refine tq 6 rfl ?_
 refine wpAnyH_ready (rs:=[7]) (by kernel_rfl) (by simp) ?_
 refine AllReadyH.cons (o:=_) rfl (fun K hK=>?_) AllReadyH.nil
 simp only [Jq]
 go_simp
 go_fit (HI.out _)
 rintro e wn ⟨rfl,bn⟩
 replace k0:=k0.b (un bn)
 replace bb:=Ia bb (un bn)
 clear bn
 try go_wp2_with fail
 refine hK.out _ _ ?_ (fun hHeld=>?_)
 ·exact (Hw k0)
 clear hK K
 refine tq 8 rfl ?_
 refine tq 9 rfl ?_
 refine tq 10 rfl ?_
 refine tu 11 rfl ?_
 refine tu 12 rfl ?_
 refine tu 13 rfl ?_
 refine tq 14 rfl ?_
 refine tq 15 rfl ?_
 refine tu 16 rfl ?_
 refine tu 17 rfl ?_
 refine tu 18 rfl ?_
 refine tu 19 rfl ?_
 refine tu 20 rfl ?_
 refine tu 21 rfl ?_
 refine tu 22 rfl ?_
 refine tq 23 rfl ?_
 refine wpAnyH_done (by kernel_rfl) ?_ _
 go_wp2
 go_ret
 exact ⟨rfl,bb⟩
theorem Bf9 (n:Bool) (s:ByteArray) (w:World) (hs:¬ (8000:Int)<s.size)
  (HC:Hid (∀ w1,Calls Tryz.prog 181 #[.agg #[Iz n,I s]] w1 (Re w1 (.int .i64 0))))
  (HI:Hid (∀ w1,Calls Tryz.prog 182 #[I ByteArray.empty] w1 (Re w1 (Iz true)))) :
  Calls Tryz.prog 134 #[(D8 n s ByteArray.empty)] w (Re w (.int .i64 1)):=by
 go_enter Tryz.func134,Tryz.ntmps134
 go_wp2_with fail
 obtain ⟨w0,hw,k0,bb⟩:=Es w (D6 n s ByteArray.empty) 26
 rw [← hw]
 clear hw
 refine Jc (S:=(fun w'=>xc3 w' w.heap.size (Iz n) (I s) (I ByteArray.empty))) (by kernel_rfl) ?_ (fun hHeld=>?_)
 ·exact (Hw k0)
 refine tq 0 rfl ?_
 refine tq 1 rfl ?_
 refine wpAnyH_ready (rs:=[2]) (by kernel_rfl) (by simp) ?_
 refine AllReadyH.cons (o:=_) rfl (fun K hK=>?_) AllReadyH.nil
 simp only [Jq]
 go_simp
 go_fit (HC.out _)
 rintro e wn ⟨rfl,bn⟩
 replace k0:=k0.b (un bn)
 replace bb:=Ia bb (un bn)
 clear bn
 try go_wp2_with fail
 refine hK.out _ _ ?_ (fun hHeld=>?_)
 ·exact (Hw k0)
 clear hK K
 refine tq 3 rfl ?_
 refine tq 4 rfl ?_
 refine tq 5 rfl ?_
 refine tq 6 rfl ?_
 refine wpAnyH_ready (rs:=[7]) (by kernel_rfl) (by simp) ?_
 refine AllReadyH.cons (o:=_) rfl (fun K hK=>?_) AllReadyH.nil
 simp only [Jq]
 go_simp
 go_fit (HI.out _)
 rintro e wn ⟨rfl,bn⟩
 replace k0:=k0.b (un bn)
 replace bb:=Ia bb (un bn)
 clear bn
 try go_wp2_with fail
 refine hK.out _ _ ?_ (fun hHeld=>?_)
 ·exact (Hw k0)
 clear hK K
 refine tq 8 rfl ?_
 refine tq 9 rfl ?_
 refine tq 10 rfl ?_
 refine tq 11 rfl ?_
 refine tq 12 rfl ?_
 refine tq 13 rfl ?_
 refine tq 14 rfl ?_
 refine tq 15 rfl ?_
 refine tu 16 rfl ?_
 refine tu 17 rfl ?_
 refine tu 18 rfl ?_
 refine tu 19 rfl ?_
 refine tu 20 rfl ?_
 refine tu 21 rfl ?_
 refine tu 22 rfl ?_
 refine tq 23 rfl ?_
 refine wpAnyH_done (by kernel_rfl) ?_ _
 go_wp2
 go_ret
 exact ⟨rfl,bb⟩
theorem Bgb (n zN:Bool) (s d zS:ByteArray) (w:World) (hs:¬ (8000:Int)<s.size) (hd:¬ (8000:Int)<d.size) (h0:d.toList.isEmpty=false) (hz:(zS.toList == [1])=false)
  (HC:Hid (∀ w1,Calls Tryz.prog 181 #[.agg #[Iz n,I s]] w1 (Re w1 (.int .i64 0))))
  (HI:Hid (∀ w1,Calls Tryz.prog 182 #[I d] w1 (Re w1 (Iz true))))
  (HG:Hid (∀ w1,Calls Tryz.prog 110 #[.agg #[Iz n,I s],.agg #[Iz false,I d]] w1 (Re w1 (.agg #[Iz zN,I zS])))) :
  Calls Tryz.prog 134 #[(D8 n s d)] w (Re w (.int .i64 1)):=by
 have gf:=Ben zN zS
 go_enter Tryz.func134,Tryz.ntmps134
 go_wp2_with fail
 obtain ⟨w0,hw,k0,bb⟩:=Es w (D6 n s d) 26
 rw [← hw]
 clear hw
 refine Jc (S:=(fun w'=>xc3 w' w.heap.size (Iz n) (I s) (I d))) (by kernel_rfl) ?_ (fun hHeld=>?_)
 ·exact (Hw k0)
 refine tq 0 rfl ?_
 refine tq 1 rfl ?_
 refine wpAnyH_ready (rs:=[2]) (by kernel_rfl) (by simp) ?_
 refine AllReadyH.cons (o:=_) rfl (fun K hK=>?_) AllReadyH.nil
 simp only [Jq]
 go_simp
 go_fit (HC.out _)
 rintro e wn ⟨rfl,bn⟩
 replace k0:=k0.b (un bn)
 replace bb:=Ia bb (un bn)
 clear bn
 try go_wp2_with fail
 refine hK.out _ _ ?_ (fun hHeld=>?_)
 ·exact (Hw k0)
 clear hK K
 refine tq 3 rfl ?_
 refine tq 4 rfl ?_
 refine tq 5 rfl ?_
 refine tq 6 rfl ?_
 refine wpAnyH_ready (rs:=[7]) (by kernel_rfl) (by simp) ?_
 refine AllReadyH.cons (o:=_) rfl (fun K hK=>?_) AllReadyH.nil
 simp only [Jq]
 go_simp
 go_fit (HI.out _)
 rintro e wn ⟨rfl,bn⟩
 replace k0:=k0.b (un bn)
 replace bb:=Ia bb (un bn)
 clear bn
 try go_wp2_with fail
 refine hK.out _ _ ?_ (fun hHeld=>?_)
 ·exact (Hw k0)
 clear hK K
 refine tq 8 rfl ?_
 refine tq 9 rfl ?_
 refine tq 10 rfl ?_
 refine tq 11 rfl ?_
 refine tq 12 rfl ?_
 refine tq 13 rfl ?_
 refine tq 14 rfl ?_
 refine tq 15 rfl ?_
 refine tq 16 rfl ?_
 refine tq 17 rfl ?_
 refine tq 18 rfl ?_
 refine wpAnyH_ready (rs:=[19]) (by kernel_rfl) (by simp) ?_
 refine AllReadyH.cons (o:=_) rfl (fun K hK=>?_) AllReadyH.nil
 simp only [Jq]
 go_simp
 go_fit (Rp _ _ _ _)
 rintro e wn ⟨rfl,bn⟩
 replace k0:=k0.b (un bn)
 replace bb:=Ia bb (un bn)
 clear bn
 try go_wp2_with fail
 refine hK.out _ _ ?_ (fun hHeld=>?_)
 ·exact (Hw k0)
 clear hK K
 refine wpAnyH_ready (rs:=[20]) (by kernel_rfl) (by simp) ?_
 refine AllReadyH.cons (o:=_) rfl (fun K hK=>?_) AllReadyH.nil
 simp only [Jq]
 go_simp
 go_fit (HG.out _)
 rintro e wn ⟨rfl,bn⟩
 replace k0:=k0.b (un bn)
 replace bb:=Ia bb (un bn)
 clear bn
 try go_wp2_with fail
 refine hK.out _ _ ?_ (fun hHeld=>?_)
 ·exact (Hw k0)
 clear hK K
 refine tq 21 rfl ?_
 refine tq 22 rfl ?_
 refine tq 23 rfl ?_
 refine wpAnyH_done (by kernel_rfl) ?_ _
 go_wp2
 go_ret
 exact ⟨rfl,bb⟩
theorem Bjj (n zN:Bool) (s d zS:ByteArray) (w:World) (hs:¬ (8000:Int)<s.size) (hd:¬ (8000:Int)<d.size) (h0:d.toList.isEmpty=false) (hz:(zS.toList == [1])=true)
  (HC:Hid (∀ w1,Calls Tryz.prog 181 #[.agg #[Iz n,I s]] w1 (Re w1 (.int .i64 0))))
  (HI:Hid (∀ w1,Calls Tryz.prog 182 #[I d] w1 (Re w1 (Iz true))))
  (HG:Hid (∀ w1,Calls Tryz.prog 110 #[.agg #[Iz n,I s],.agg #[Iz false,I d]] w1 (Re w1 (.agg #[Iz zN,I zS])))) :
  Calls Tryz.prog 134 #[(D8 n s d)] w (Re w (.int .i64 0)):=by
 have gf:=Ben zN zS
 go_enter Tryz.func134,Tryz.ntmps134
 go_wp2_with fail
 obtain ⟨w0,hw,k0,bb⟩:=Es w (D6 n s d) 26
 rw [← hw]
 clear hw
 refine Jc (S:=(fun w'=>xc3 w' w.heap.size (Iz n) (I s) (I d))) (by kernel_rfl) ?_ (fun hHeld=>?_)
 ·exact (Hw k0)
 refine tq 0 rfl ?_
 refine tq 1 rfl ?_
 refine wpAnyH_ready (rs:=[2]) (by kernel_rfl) (by simp) ?_
 refine AllReadyH.cons (o:=_) rfl (fun K hK=>?_) AllReadyH.nil
 simp only [Jq]
 go_simp
 go_fit (HC.out _)
 rintro e wn ⟨rfl,bn⟩
 replace k0:=k0.b (un bn)
 replace bb:=Ia bb (un bn)
 clear bn
 try go_wp2_with fail
 refine hK.out _ _ ?_ (fun hHeld=>?_)
 ·exact (Hw k0)
 clear hK K
 refine tq 3 rfl ?_
 refine tq 4 rfl ?_
 refine tq 5 rfl ?_
 refine tq 6 rfl ?_
 refine wpAnyH_ready (rs:=[7]) (by kernel_rfl) (by simp) ?_
 refine AllReadyH.cons (o:=_) rfl (fun K hK=>?_) AllReadyH.nil
 simp only [Jq]
 go_simp
 go_fit (HI.out _)
 rintro e wn ⟨rfl,bn⟩
 replace k0:=k0.b (un bn)
 replace bb:=Ia bb (un bn)
 clear bn
 try go_wp2_with fail
 refine hK.out _ _ ?_ (fun hHeld=>?_)
 ·exact (Hw k0)
 clear hK K
 refine tq 8 rfl ?_
 refine tq 9 rfl ?_
 refine tq 10 rfl ?_
 refine tq 11 rfl ?_
 refine tq 12 rfl ?_
 refine tq 13 rfl ?_
 refine tq 14 rfl ?_
 refine tq 15 rfl ?_
 refine tq 16 rfl ?_
 refine tq 17 rfl ?_
 refine tq 18 rfl ?_
 refine wpAnyH_ready (rs:=[19]) (by kernel_rfl) (by simp) ?_
 refine AllReadyH.cons (o:=_) rfl (fun K hK=>?_) AllReadyH.nil
 simp only [Jq]
 go_simp
 go_fit (Rp _ _ _ _)
 rintro e wn ⟨rfl,bn⟩
 replace k0:=k0.b (un bn)
 replace bb:=Ia bb (un bn)
 clear bn
 try go_wp2_with fail
 refine hK.out _ _ ?_ (fun hHeld=>?_)
 ·exact (Hw k0)
 clear hK K
 refine wpAnyH_ready (rs:=[20]) (by kernel_rfl) (by simp) ?_
 refine AllReadyH.cons (o:=_) rfl (fun K hK=>?_) AllReadyH.nil
 simp only [Jq]
 go_simp
 go_fit (HG.out _)
 rintro e wn ⟨rfl,bn⟩
 replace k0:=k0.b (un bn)
 replace bb:=Ia bb (un bn)
 clear bn
 try go_wp2_with fail
 refine hK.out _ _ ?_ (fun hHeld=>?_)
 ·exact (Hw k0)
 clear hK K
 refine tq 21 rfl ?_
 refine tq 22 rfl ?_
 refine tq 23 rfl ?_
 refine wpAnyH_done (by kernel_rfl) ?_ _
 go_wp2
 go_ret
 exact ⟨rfl,bb⟩
theorem Bgc (n:Bool) (s d:ByteArray) (w:World) (zs:s.size≤8000) (zd:d.size≤8000) :
  Calls Tryz.prog 134 #[(D8 n s d)] w (Re w (.int .i64 (Ed n s d:Nat))):=by
 have hs:¬ (8000:Int)<s.size:=by omega
 have hd:¬ (8000:Int)<d.size:=by omega
 have hl:¬ (8000<s.size∨8000<d.size):=by omega
 by_cases c0:Oi n s=0
 ·have HC:Hid (∀ w1,Calls Tryz.prog 181 #[.agg #[Iz n,I s]] w1 (Re w1 (.int .i64 0))):=by
   intro w1
   have:=Rr n s w1
   rwa [c0] at this
  have o:=(G8 (by omega)).1 c0
  by_cases h0:0<d.size
  ·by_cases hb:lm (Bj d) 0=0
   ·rw [show Ed n s d=1 by unfold Ed;rw [if_neg hl,if_pos (Or.inr (Or.inr (Or.inl hb)))]]
    exact Bga n s d w hs hd HC (fun w1=>(Ya d w1 h0 hb).mono fun e w' h=>⟨h.1,by rw [h.2];exact Jg _ _⟩)
   ·have od:OkS d:=fun _=>hb
    have HI:Hid (∀ w1,Calls Tryz.prog 182 #[I d] w1 (Re w1 (Iz true))):=fun w1=>(Mc d w1 (fun _=>hb)).mono fun e w' h=>⟨h.1,by rw [h.2];exact Jg _ _⟩
    have HG:Hid (∀ w1,Calls Tryz.prog 110 #[.agg #[Iz n,I s],.agg #[Iz false,I d]] w1 (Re w1 (.agg #[Iz false,I (Bw (Nat.gcd (Bc s) (Bc d)))]))):=by
     intro w1
     have:=Pp n false s d w1 (by omega) (by omega)
     have e:zI ((Nat.gcd (Bc s) (Bc d):Nat):Int)=.agg #[Iz false,I (Bw (Nat.gcd (Bc s) (Bc d)))]:=by
      show zV _ _=_
      rw [Int.natAbs_natCast,show decide ((((Nat.gcd (Bc s) (Bc d):Nat)):Int)<0)=false by simp]
      rfl
     rwa [e] at this
    have h5:d.toList.isEmpty=false:=by simpa using Dv h0
    by_cases hg:Nat.gcd (Bc s) (Bc d)=1
    ·rw [Vw ⟨o,od,Dw od h0,hg⟩ zs zd]
     exact Bjj n false s d _ w hs hd h5 (eq1 (by rw [hg,Em])) HC HI HG
    ·rw [show Ed n s d=1 by unfold Ed;rw [if_neg hl,if_pos (Or.inr (Or.inr (Or.inr hg)))]]
     exact Bgb n false s d _ w hs hd h5 (Ue fun h=>hg (by
      have:=Cx (Nat.gcd (Bc s) (Bc d))
      rw [h,Ch] at this
      exact this.symm)) HC HI HG
  ·have g3:d=ByteArray.empty:=ByteArray.size_eq_zero_iff.1 (by omega)
   subst g3
   rw [show Ed n s ByteArray.empty=1 by unfold Ed;rw [if_neg hl,if_pos (Or.inr (Or.inl (show ByteArray.empty.size=0 from rfl)))]]
   exact Bf9 n s w hs HC (fun w1=>(Mc ByteArray.empty w1 (fun h=>absurd h h0)).mono fun e w' h=>⟨h.1,by rw [h.2];exact Jg _ _⟩)
 ·have h1:Oi n s=1:=by
   unfold Oi at c0 ⊢
   rw [if_neg (by omega)] at c0 ⊢
   split at c0
   ·rw [if_pos (by assumption)]
   ·exact absurd rfl c0
  rw [show Ed n s d=1 by unfold Ed;rw [if_neg hl,if_pos (Or.inl c0)]]
  refine Bf8 n s d w hs hd 1 (by omega) (fun w1=>?_)
  have:=Rr n s w1
  rwa [h1] at this
open Go.RowKit Go.Shelf
theorem Bbw {s g:ByteArray} (hs:s.size≤20000) (hg:g.size≤20000) (hG:0<Bc g) (v0 v1:Value) (w:World) (r0:Rd w v0 (M.digs Bp (Bc s))) (r1:Rd w v1 (M.digs Bp (Bc g))) :
  Calls Tryz.prog 112 #[v0,v1] w fun e w'=>∃ q r,e=.returned (.tuple #[q,r])∧Rd w' q (M.digs Bp (Bc s / Bc g))∧Rd w' r (M.digs Bp (Bc s % Bc g))∧Below w.heap.size w w' :=
 Xe (X:=Bc s) (Y:=Bc g) (K:=5000) (by omega) (Fc 5000 (by omega)) (Fc 5000 (by omega)) hG v0 v1 w r0 r1
theorem Bjx {s:ByteArray} {g:Nat} (hs:s.size≤20000) (v:Value) (w:World) (r:Rd w v (M.digs Bp (Bc s / g))) :
  Calls Tryz.prog 114 #[v] w (Re w (I (Bw (Bc s / g)))):=by
 have h:Bc s / g<Bp ^ 5000:=Nat.lt_of_le_of_lt (Nat.div_le_self _ _) (Fc 5000 (by omega))
 have:=W7 v _ w r (M.Low.digs Bl _) (Jf (Te h) (by omega))
 rwa [M.val_digs Bl] at this
theorem Bj6 (n0 gN:Bool) (s0 s1 gS:ByteArray) (w:World) (hg:(gS.toList == [1])=false) (z0:s0.size≤20000) (z1:s1.size≤20000) (zg:gS.size≤20000) (hG:0<Bc gS)
  (H1:Hid (∀ w1,Calls Tryz.prog 110 #[.agg #[Iz n0,I s0],.agg #[Iz false,I s1]] w1 (Re w1 (.agg #[Iz gN,I gS])))) :
  Calls Tryz.prog 57 #[.agg #[Iz n0,I s0],.agg #[Iz false,I s1]] w (Re w ((D8 n0 (Bw (Bc s0 / Bc gS)) (Bw (Bc s1 / Bc gS))))):=by
 have HD0:=Ba (fun v0 v1 w r0 r1=>Bbw (s:=s0) (g:=gS) z0 zg hG v0 v1 w r0 r1)
 have HD1:=Ba (fun v0 v1 w r0 r1=>Bbw (s:=s1) (g:=gS) z1 zg hG v0 v1 w r0 r1)
 have HN0:=Ba (fun v w r=>Bjx (s:=s0) (g:=Bc gS) z0 v w r)
 have HN1:=Ba (fun v w r=>Bjx (s:=s1) (g:=Bc gS) z1 v w r)
 clear hG
 generalize Bw (Bc s0 / Bc gS)=S at *
 generalize Bw (Bc s1 / Bc gS)=D at *
 go_enter Tryz.func57,Tryz.ntmps57
 go_wp2_with fail
 go_fit (H1.out _)
 rintro e w1 ⟨rfl,b1⟩
 obtain ⟨ka,kb,kr,bb⟩:=al3 b1
 clear b1
 obtain ⟨c0,c1⟩:=Dc (ka.alloc (.cells #[Iz gN,I gS] 24))
 obtain ⟨c2,c3⟩:=Dc (kb.alloc (.cells #[Iz gN,I gS] 24))
 go_wp2_with fail
 clear c0 c1 c2 c3
 obtain ⟨w2,hw,kg,b1⟩:=Es w1 [Iz gN,I gS] 24
 rw [← hw]
 clear hw
 replace ka:=ka.b b1
 replace kb:=kb.b b1
 replace kr:=kr.b b1
 replace bb:=Ia bb b1
 clear b1
 go_region_held3 (fun w'=>Sr w' w.heap.size (Iz n0) (I s0)∧Sr w' w1.heap.size (Iz gN) (I gS)) (exact ⟨Dc ka,Dc kg⟩) (first | (go_at_call 112;refine (HD0.out _ _ _ rx ry).mono ?_;rintro e wn ⟨vq,vr,rfl,rq,rr,bn⟩;obtain ⟨aq,cq,rfl,-,-⟩:=id rq;obtain ⟨ar,cr,rfl,-,-⟩:=id rr;replace ka:=ka.b bn;replace kb:=kb.b bn;replace kr:=kr.b bn;replace kg:=kg.b bn;replace bb:=Ia bb bn;clear bn) | (go_at_call 113;go_fit (F8 s0 _ (by omega));rintro e wn ⟨vx,rfl,rx,bn⟩;obtain ⟨ax,cx,rfl,-,-⟩:=id rx;replace ka:=ka.b (un bn);replace kb:=kb.b (un bn);replace kr:=kr.b (un bn);replace kg:=kg.b (un bn);replace bb:=Ia bb (un bn);clear bn) | (go_at_call 113;go_fit (F8 gS _ (by omega));rintro e wn ⟨vy,rfl,ry,bn⟩;obtain ⟨ay,cy,rfl,-,-⟩:=id ry;replace rx:=rx.b bn;replace ka:=ka.b bn;replace kb:=kb.b bn;replace kr:=kr.b bn;replace kg:=kg.b bn;replace bb:=Ia bb bn;clear bn))
 go_wp2_with fail
 clear rx ry rr
 go_region_held3 (fun w'=>Sr w' (w.heap.size+1) (Iz false) (I s1)∧Sr w' w1.heap.size (Iz gN) (I gS)) (exact ⟨Dc kb,Dc kg⟩) (first | (go_at_call 112;refine (HD1.out _ _ _ rx ry).mono ?_;rintro e wn ⟨vp,vr,rfl,rp,rr,bn⟩;obtain ⟨ap,cp,rfl,-,-⟩:=id rp;obtain ⟨ar,cr,rfl,-,-⟩:=id rr;replace rq:=rq.b bn;replace ka:=ka.b bn;replace kb:=kb.b bn;replace kr:=kr.b bn;replace kg:=kg.b bn;replace bb:=Ia bb bn;clear bn) | (go_at_call 113;go_fit (F8 s1 _ (by omega));rintro e wn ⟨vx,rfl,rx,bn⟩;obtain ⟨ax,cx,rfl,-,-⟩:=id rx;replace rq:=rq.b (un bn);replace ka:=ka.b (un bn);replace kb:=kb.b (un bn);replace kr:=kr.b (un bn);replace kg:=kg.b (un bn);replace bb:=Ia bb (un bn);clear bn) | (go_at_call 113;go_fit (F8 gS _ (by omega));rintro e wn ⟨vy,rfl,ry,bn⟩;obtain ⟨ay,cy,rfl,-,-⟩:=id ry;replace rx:=rx.b bn;replace rq:=rq.b bn;replace ka:=ka.b bn;replace kb:=kb.b bn;replace kr:=kr.b bn;replace kg:=kg.b bn;replace bb:=Ia bb bn;clear bn))
 go_wp2_with fail
 clear rx ry rr
 have qa:w.heap.size≠w.heap.size+1+1:=by omega
 go_region_held3 (fun w'=>Sr w' w.heap.size (Iz n0) (I s0)) (first | exact (Dc ka) | exact (Dc (Bi.t (Bi.t (Bi.t ka qa 0 _) qa 1 _) qa 2 _))) (first | (go_at_call 114;go_fit (HN0.out _ _ ?_);(first | exact rq | exact rq.drew);rintro e wn ⟨rfl,bn⟩;replace rp:=rp.b (un bn);replace ka:=ka.b (un bn);replace kb:=kb.b (un bn);replace kr:=kr.b (un bn);replace kg:=kg.b (un bn);replace bb:=Ia bb (un bn);clear bn) | (go_at_call 114;go_fit (HN1.out _ _ ?_);exact rp;rintro e wn ⟨rfl,bn⟩;replace ka:=ka.b bn;replace kb:=kb.b bn;replace kr:=kr.b bn;replace kg:=kg.b bn;replace bb:=Ia bb bn;clear bn;have e0:=Cw kr;have e1:=Cv kr;have e2:=Cu kr;have f0:=kr.o 0;have f1:=kr.o 1;have f2:=kr.o 2))
 go_wp2
 exact Ht (p:=4) (by kernel_rfl) rfl rfl (((kr.set 0 _).set 1 _).set 2 _) ⟨rfl,Cr (Cr (Cr bb (by omega) 0 _) (by omega) 1 _) (by omega) 2 _⟩
open Go.RowKit Go.Shelf
theorem Bg8 (n0 m0 gN:Bool) (s0 s1 gS:ByteArray) (w:World) (hg:(gS.toList == [1])=false) (z0:s0.size≤20000) (z1:s1.size≤20000) (zg:gS.size≤20000) (hG:0<Bc gS)
  (H1:Hid (∀ w1,Calls Tryz.prog 110 #[.agg #[Iz n0,I s0],.agg #[Iz true,I s1]] w1 (Re w1 (.agg #[Iz gN,I gS]))))
  (H2:Hid (∀ w1,Calls Tryz.prog 111 #[.agg #[Iz n0,I s0]] w1 (Re w1 (.agg #[Iz m0,I s0]))))
  (H3:Hid (∀ w1,Calls Tryz.prog 111 #[.agg #[Iz true,I s1]] w1 (Re w1 (.agg #[Iz false,I s1])))) :
  Calls Tryz.prog 57 #[.agg #[Iz n0,I s0],.agg #[Iz true,I s1]] w (Re w ((D8 m0 (Bw (Bc s0 / Bc gS)) (Bw (Bc s1 / Bc gS))))):=by
 have HD0:=Ba (fun v0 v1 w r0 r1=>Bbw (s:=s0) (g:=gS) z0 zg hG v0 v1 w r0 r1)
 have HD1:=Ba (fun v0 v1 w r0 r1=>Bbw (s:=s1) (g:=gS) z1 zg hG v0 v1 w r0 r1)
 have HN0:=Ba (fun v w r=>Bjx (s:=s0) (g:=Bc gS) z0 v w r)
 have HN1:=Ba (fun v w r=>Bjx (s:=s1) (g:=Bc gS) z1 v w r)
 clear hG
 generalize Bw (Bc s0 / Bc gS)=S at *
 generalize Bw (Bc s1 / Bc gS)=D at *
 go_enter Tryz.func57,Tryz.ntmps57
 go_wp2_with fail
 go_fit (H1.out _)
 rintro e w1 ⟨rfl,b1⟩
 obtain ⟨ka,kb,kr,bb⟩:=al3 b1
 clear b1
 obtain ⟨c2,c3⟩:=Dc (kb.alloc (.cells #[Iz gN,I gS] 24))
 obtain ⟨c0,c1⟩:=Dc (ka.alloc (.cells #[Iz gN,I gS] 24))
 go_wp2_with fail
 clear c0 c1 c2 c3
 have t0:=kr.lt
 go_fit (H2.out _)
 rintro e w2 ⟨rfl,b1⟩
 obtain ⟨kg,b1⟩:=Hv b1
 replace ka:=ka.b b1
 replace kb:=kb.b b1
 replace kr:=kr.b b1
 replace bb:=Ia bb b1
 clear b1
 obtain ⟨w3,hw⟩:∃ x,x=(w2.setCell ⟨w.heap.size,0,none⟩ (Iz m0)).setCell ⟨w.heap.size,1,none⟩ (I s0):=⟨_,rfl⟩
 have kb1:=Bi.t (g':=w.heap.size) (Bi.t (g':=w.heap.size) kb (by omega) 0 (Iz m0)) (by omega) 1 (I s0)
 have kr1:=Bi.t (g':=w.heap.size) (Bi.t (g':=w.heap.size) kr (by omega) 0 (Iz m0)) (by omega) 1 (I s0)
 have kg1:=Bi.t (g':=w.heap.size) (Bi.t (g':=w.heap.size) kg (by omega) 0 (Iz m0)) (by omega) 1 (I s0)
 have ka1:=(ka.set 0 (Iz m0)).set 1 (I s0)
 have bb1:=Cr (g:=w.heap.size) (Cr (g:=w.heap.size) bb (by omega) 0 (Iz m0)) (by omega) 1 (I s0)
 obtain ⟨c0,c1⟩:=Dc ka
 have f0:=ka.o 0
 have f1:=ka.o 1
 obtain ⟨c2,c3⟩:=Dc kb1
 have tt:=t0
 clear t0
 go_wp2_with fail
 rw [← hw]
 rw [← hw] at ka1 kb1 kr1 kg1 bb1
 clear hw c0 c1 f0 f1 c2 c3 ka kb kr kg bb
 go_fit (H3.out _)
 rintro e w4 ⟨rfl,b1⟩
 have ka:=ka1.b b1
 have kb:=kb1.b b1
 have kr:=kr1.b b1
 have kg:=kg1.b b1
 have bb:=Ia bb1 b1
 clear b1 ka1 kb1 kr1 kg1 bb1
 obtain ⟨w5,hw⟩:∃ x,x=(w4.setCell ⟨w.heap.size+1,0,none⟩ (Iz false)).setCell ⟨w.heap.size+1,1,none⟩ (I s1):=⟨_,rfl⟩
 have ka1:=Bi.t (g':=w.heap.size+1) (Bi.t (g':=w.heap.size+1) ka (by omega) 0 (Iz false)) (by omega) 1 (I s1)
 have kr1:=Bi.t (g':=w.heap.size+1) (Bi.t (g':=w.heap.size+1) kr (by omega) 0 (Iz false)) (by omega) 1 (I s1)
 have kg1:=Bi.t (g':=w.heap.size+1) (Bi.t (g':=w.heap.size+1) kg (by omega) 0 (Iz false)) (by omega) 1 (I s1)
 have kb1:=(kb.set 0 (Iz false)).set 1 (I s1)
 have bb1:=Cr (g:=w.heap.size+1) (Cr (g:=w.heap.size+1) bb (by omega) 0 (Iz false)) (by omega) 1 (I s1)
 obtain ⟨c0,c1⟩:=Dc kb
 have f0:=kb.o 0
 have f1:=kb.o 1
 obtain ⟨c2,c3⟩:=Dc kg1
 go_wp2_with fail
 rw [← hw]
 rw [← hw] at ka1 kb1 kr1 kg1 bb1
 clear hw c0 c1 f0 f1 c2 c3 ka kb kr kg bb
 have ka:=ka1
 have kb:=kb1
 have kr:=kr1
 have kg:=kg1
 have bb:=bb1
 clear ka1 kb1 kr1 kg1 bb1
 go_region_held3 (fun w'=>Sr w' w.heap.size (Iz m0) (I s0)∧Sr w' w1.heap.size (Iz gN) (I gS)) (exact ⟨Dc ka,Dc kg⟩) (first | (go_at_call 112;refine (HD0.out _ _ _ rx ry).mono ?_;rintro e wn ⟨vq,vr,rfl,rq,rr,bn⟩;obtain ⟨aq,cq,rfl,-,-⟩:=id rq;obtain ⟨ar,cr,rfl,-,-⟩:=id rr;replace ka:=ka.b bn;replace kb:=kb.b bn;replace kr:=kr.b bn;replace kg:=kg.b bn;replace bb:=Ia bb bn;clear bn) | (go_at_call 113;go_fit (F8 s0 _ (by omega));rintro e wn ⟨vx,rfl,rx,bn⟩;obtain ⟨ax,cx,rfl,-,-⟩:=id rx;replace ka:=ka.b (un bn);replace kb:=kb.b (un bn);replace kr:=kr.b (un bn);replace kg:=kg.b (un bn);replace bb:=Ia bb (un bn);clear bn) | (go_at_call 113;go_fit (F8 gS _ (by omega));rintro e wn ⟨vy,rfl,ry,bn⟩;obtain ⟨ay,cy,rfl,-,-⟩:=id ry;replace rx:=rx.b bn;replace ka:=ka.b bn;replace kb:=kb.b bn;replace kr:=kr.b bn;replace kg:=kg.b bn;replace bb:=Ia bb bn;clear bn))
 go_wp2_with fail
 clear rx ry rr
 go_region_held3 (fun w'=>Sr w' (w.heap.size+1) (Iz false) (I s1)∧Sr w' w1.heap.size (Iz gN) (I gS)) (exact ⟨Dc kb,Dc kg⟩) (first | (go_at_call 112;refine (HD1.out _ _ _ rx ry).mono ?_;rintro e wn ⟨vp,vr,rfl,rp,rr,bn⟩;obtain ⟨ap,cp,rfl,-,-⟩:=id rp;obtain ⟨ar,cr,rfl,-,-⟩:=id rr;replace rq:=rq.b bn;replace ka:=ka.b bn;replace kb:=kb.b bn;replace kr:=kr.b bn;replace kg:=kg.b bn;replace bb:=Ia bb bn;clear bn) | (go_at_call 113;go_fit (F8 s1 _ (by omega));rintro e wn ⟨vx,rfl,rx,bn⟩;obtain ⟨ax,cx,rfl,-,-⟩:=id rx;replace rq:=rq.b (un bn);replace ka:=ka.b (un bn);replace kb:=kb.b (un bn);replace kr:=kr.b (un bn);replace kg:=kg.b (un bn);replace bb:=Ia bb (un bn);clear bn) | (go_at_call 113;go_fit (F8 gS _ (by omega));rintro e wn ⟨vy,rfl,ry,bn⟩;obtain ⟨ay,cy,rfl,-,-⟩:=id ry;replace rx:=rx.b bn;replace rq:=rq.b bn;replace ka:=ka.b bn;replace kb:=kb.b bn;replace kr:=kr.b bn;replace kg:=kg.b bn;replace bb:=Ia bb bn;clear bn))
 go_wp2_with fail
 clear rx ry rr
 have qa:w.heap.size≠w.heap.size+1+1:=by omega
 go_region_held3 (fun w'=>Sr w' w.heap.size (Iz m0) (I s0)) (first | exact (Dc ka) | exact (Dc (Bi.t (Bi.t (Bi.t ka qa 0 _) qa 1 _) qa 2 _))) (first | (go_at_call 114;go_fit (HN0.out _ _ ?_);(first | exact rq | exact rq.drew);rintro e wn ⟨rfl,bn⟩;replace rp:=rp.b (un bn);replace ka:=ka.b (un bn);replace kb:=kb.b (un bn);replace kr:=kr.b (un bn);replace kg:=kg.b (un bn);replace bb:=Ia bb (un bn);clear bn) | (go_at_call 114;go_fit (HN1.out _ _ ?_);exact rp;rintro e wn ⟨rfl,bn⟩;replace ka:=ka.b bn;replace kb:=kb.b bn;replace kr:=kr.b bn;replace kg:=kg.b bn;replace bb:=Ia bb bn;clear bn;have e0:=Cw kr;have e1:=Cv kr;have e2:=Cu kr;have f0:=kr.o 0;have f1:=kr.o 1;have f2:=kr.o 2))
 go_wp2
 exact Ht (p:=4) (by kernel_rfl) rfl rfl (((kr.set 0 _).set 1 _).set 2 _) ⟨rfl,Cr (Cr (Cr bb (by omega) 0 _) (by omega) 1 _) (by omega) 2 _⟩
theorem Bg7 (n0 m0 gN:Bool) (s0 s1 gS:ByteArray) (w:World) (hg:(gS.toList == [1])=true)
  (H1:Hid (∀ w1,Calls Tryz.prog 110 #[.agg #[Iz n0,I s0],.agg #[Iz true,I s1]] w1 (Re w1 (.agg #[Iz gN,I gS]))))
  (H2:Hid (∀ w1,Calls Tryz.prog 111 #[.agg #[Iz n0,I s0]] w1 (Re w1 (.agg #[Iz m0,I s0]))))
  (H3:Hid (∀ w1,Calls Tryz.prog 111 #[.agg #[Iz true,I s1]] w1 (Re w1 (.agg #[Iz false,I s1])))) :
  Calls Tryz.prog 57 #[.agg #[Iz n0,I s0],.agg #[Iz true,I s1]] w (Re w ((D8 m0 s0 s1))):=by
 go_enter Tryz.func57,Tryz.ntmps57
 go_wp2_with fail
 go_fit (H1.out _)
 rintro e w1 ⟨rfl,b1⟩
 obtain ⟨ka,kb,kr,bb⟩:=al3 b1
 clear b1
 obtain ⟨c2,c3⟩:=Dc (kb.alloc (.cells #[Iz gN,I gS] 24))
 obtain ⟨c0,c1⟩:=Dc (ka.alloc (.cells #[Iz gN,I gS] 24))
 go_wp2_with fail
 clear c0 c1 c2 c3
 have t0:=kr.lt
 go_fit (H2.out _)
 rintro e w2 ⟨rfl,b1⟩
 obtain ⟨kg,b1⟩:=Hv b1
 replace ka:=ka.b b1
 replace kb:=kb.b b1
 replace kr:=kr.b b1
 replace bb:=Ia bb b1
 clear b1
 obtain ⟨w3,hw⟩:∃ x,x=(w2.setCell ⟨w.heap.size,0,none⟩ (Iz m0)).setCell ⟨w.heap.size,1,none⟩ (I s0):=⟨_,rfl⟩
 have kb1:=Bi.t (g':=w.heap.size) (Bi.t (g':=w.heap.size) kb (by omega) 0 (Iz m0)) (by omega) 1 (I s0)
 have kr1:=Bi.t (g':=w.heap.size) (Bi.t (g':=w.heap.size) kr (by omega) 0 (Iz m0)) (by omega) 1 (I s0)
 have kg1:=Bi.t (g':=w.heap.size) (Bi.t (g':=w.heap.size) kg (by omega) 0 (Iz m0)) (by omega) 1 (I s0)
 have ka1:=(ka.set 0 (Iz m0)).set 1 (I s0)
 have bb1:=Cr (g:=w.heap.size) (Cr (g:=w.heap.size) bb (by omega) 0 (Iz m0)) (by omega) 1 (I s0)
 obtain ⟨c0,c1⟩:=Dc ka
 have f0:=ka.o 0
 have f1:=ka.o 1
 obtain ⟨c2,c3⟩:=Dc kb1
 have tt:=t0
 clear t0
 go_wp2_with fail
 rw [← hw]
 rw [← hw] at ka1 kb1 kr1 kg1 bb1
 clear hw c0 c1 f0 f1 c2 c3 ka kb kr kg bb
 go_fit (H3.out _)
 rintro e w4 ⟨rfl,b1⟩
 have ka:=ka1.b b1
 have kb:=kb1.b b1
 have kr:=kr1.b b1
 have kg:=kg1.b b1
 have bb:=Ia bb1 b1
 clear b1 ka1 kb1 kr1 kg1 bb1
 obtain ⟨w5,hw⟩:∃ x,x=(w4.setCell ⟨w.heap.size+1,0,none⟩ (Iz false)).setCell ⟨w.heap.size+1,1,none⟩ (I s1):=⟨_,rfl⟩
 have ka1:=Bi.t (g':=w.heap.size+1) (Bi.t (g':=w.heap.size+1) ka (by omega) 0 (Iz false)) (by omega) 1 (I s1)
 have kr1:=Bi.t (g':=w.heap.size+1) (Bi.t (g':=w.heap.size+1) kr (by omega) 0 (Iz false)) (by omega) 1 (I s1)
 have kg1:=Bi.t (g':=w.heap.size+1) (Bi.t (g':=w.heap.size+1) kg (by omega) 0 (Iz false)) (by omega) 1 (I s1)
 have kb1:=(kb.set 0 (Iz false)).set 1 (I s1)
 have bb1:=Cr (g:=w.heap.size+1) (Cr (g:=w.heap.size+1) bb (by omega) 0 (Iz false)) (by omega) 1 (I s1)
 obtain ⟨c0,c1⟩:=Dc kb
 have f0:=kb.o 0
 have f1:=kb.o 1
 obtain ⟨c2,c3⟩:=Dc kg1
 obtain ⟨e0,e1⟩:=Dc ka1
 obtain ⟨e2,e3⟩:=Dc kb1
 obtain ⟨r0,r1,r2⟩:=Hw kr1
 have g0:=kr1.o 0
 have g1:=kr1.o 1
 have g2:=kr1.o 2
 go_wp2
 exact Ht (p:=4) (by kernel_rfl) rfl rfl (((kr1.set 0 _).set 1 _).set 2 _) ⟨rfl,Cr (Cr (Cr bb1 (by omega) 0 _) (by omega) 1 _) (by omega) 2 _⟩
theorem Tw (n:Bool) (s:ByteArray) (w:World) (hs:s.toList.isEmpty=false) :
  Calls Tryz.prog 111 #[.agg #[Iz n,I s]] w (Re w (.agg #[Iz (!n),I s])):=by
 cases n
 ·go_enter Tryz.func111,Tryz.ntmps111
  go_wp2
  obtain ⟨w0,hw,k0,k1,b⟩:=Yu w [Iz false,I s] [Iz true,I s] 24 24
  rw [← hw]
  exact Ei (p:=2) (by kernel_rfl) rfl rfl k1 ⟨rfl,b⟩
 ·go_enter Tryz.func111,Tryz.ntmps111
  go_wp2
  obtain ⟨w0,hw,k0,k1,b⟩:=Yu w [Iz true,I s] [Iz false,I s] 24 24
  rw [← hw]
  exact Ei (p:=2) (by kernel_rfl) rfl rfl k1 ⟨rfl,b⟩
theorem Bdq (w:World) :
  Calls Tryz.prog 111 #[.agg #[Iz false,I ByteArray.empty]] w (Re w (.agg #[Iz false,I ByteArray.empty])):=by
 go_enter Tryz.func111,Tryz.ntmps111
 go_wp2
 obtain ⟨w0,hw,k0,k1,b⟩:=Yu w [Iz false,I ByteArray.empty] [Iz false,I ByteArray.empty] 24 24
 rw [← hw]
 exact Ei (p:=2) (by kernel_rfl) rfl rfl k1 ⟨rfl,b⟩
theorem Bji (n:Bool) (s:ByteArray) (o:Hc n s):∃ m,Eg m s=-Eg n s∧Hc m s∧∀ w,Calls Tryz.prog 111 #[.agg #[Iz n,I s]] w (Re w (.agg #[Iz m,I s])):=by
 by_cases hs:0<s.size
 ·exact ⟨!n,by cases n <;> simp [Eg],⟨o.1,fun _=>hs⟩,fun w=>Tw n s w (by simpa using Dv hs)⟩
 ·have g3:s=ByteArray.empty:=ByteArray.size_eq_zero_iff.1 (by omega)
  subst g3
  have hn:n=false:=by
   cases n with
   | false=>rfl
   | true=>exact absurd (o.2 rfl) hs
  subst hn
  exact ⟨false,rfl,o,fun w=>Bdq w⟩
theorem Bbd {n:Bool} {s:ByteArray} {G:Nat} (o:Hc n s) (hG:0<G) (hd:G ∣ Bc s):zI (Eg n s / (G:Int))=.agg #[Iz n,I (Bw (Bc s / G))]:=by
 obtain ⟨k,hk⟩:=hd
 have hne:(G:Int)≠0:=by omega
 have e:Eg n s / (G:Int)=if n then -(k:Int) else (k:Int):=by
  cases n with
  | false=>rw [show Eg false s=(G:Int)*k by simp [Eg,hk],Int.mul_ediv_cancel_left _ hne];rfl
  | true=>rw [show Eg true s=(G:Int)*(-(k:Int)) by simp [Eg,hk,Int.mul_neg],Int.mul_ediv_cancel_left _ hne];rfl
 rw [e,hk,Nat.mul_div_cancel_left k hG]
 cases n with
 | false=>show zV (decide (((k:Nat):Int)<0)) (Bw ((k:Nat):Int).natAbs)=_;rw [show decide (((k:Nat):Int)<0)=false by simp];rfl
 | true =>
  have hp:=Dw o.1 (o.2 rfl)
  have hkp:0<k:=Nat.pos_of_ne_zero fun e=>by rw [e,Nat.mul_zero] at hk;omega
  show zV (decide (-((k:Nat):Int)<0)) (Bw (-((k:Nat):Int)).natAbs)=_
  rw [show decide (-((k:Nat):Int)<0)=true by simp;omega,show (-((k:Nat):Int)).natAbs=k by omega]
  rfl
theorem Bb9 (n0 n1:Bool) (s0 s1:ByteArray) (w:World) (o0:Hc n0 s0) (o1:Hc n1 s1) (z0:s0.size≤20000) (z1:s1.size≤20000) (hp:0<Bc s1) :
  Calls Tryz.prog 57 #[.agg #[Iz n0,I s0],.agg #[Iz n1,I s1]] w (Re w (qI (Rat.divInt (Eg n0 s0) (Eg n1 s1)))):=by
 obtain ⟨G,hG⟩:∃ G,G=Nat.gcd (Bc s0) (Bc s1):=⟨_,rfl⟩
 have hGp:0<G:=by rw [hG];exact Nat.gcd_pos_of_pos_right _ hp
 have d0:G ∣ Bc s0:=by rw [hG];exact Nat.gcd_dvd_left _ _
 have hd:Eg n1 s1≠0:=fun e=>by have:=C8 n1 s1;rw [e] at this;simp at this;omega
 have key:=Q.make_low (Eg n0 s0) (Eg n1 s1) hd G (by rw [C8,C8];exact hG)
 rw [C8] at key
 have H1:Hid (∀ w1,Calls Tryz.prog 110 #[.agg #[Iz n0,I s0],.agg #[Iz n1,I s1]] w1 (Re w1 (.agg #[Iz false,I (Bw G)]))):=by
  intro w1
  have:=Pp n0 n1 s0 s1 w1 (by omega) (by omega)
  rw [← hG] at this
  have e:zI ((G:Nat):Int)=.agg #[Iz false,I (Bw G)]:=by
   show zV _ _=_
   rw [Int.natAbs_natCast,show decide (((G:Nat):Int)<0)=false by simp]
   rfl
  rwa [e] at this
 have zG:(Bw G).size≤20000:=by
  have hb:Bd (G:Int) s1.size:=(Bii (Jb _)).nat (by rw [hG];exact Nat.le_of_dvd hp (Nat.gcd_dvd_right _ _))
  have:=hb.size
  rw [Int.natAbs_natCast] at this
  omega
 have nG:Bc (Bw G)=G:=Cx G
 cases n1 with
 | false =>
  rw [if_neg (show ¬ Eg false s1<0 by simp [Eg])] at key
  rw [Bbx key (Bbd o0 hGp d0) rfl]
  by_cases hg:G=1
  ·rw [hg,Nat.div_one,Nat.div_one,Dp o0.1,Dp o1.1]
   exact Bj5 n0 false s0 s1 (Bw G) w (eq1 (by rw [hg,Em])) H1
  ·have:=Bj6 n0 false s0 s1 (Bw G) w (Ue fun e=>hg (by rw [← nG,e,Ch])) z0 z1 zG (by omega) H1
   rwa [nG] at this
 | true =>
  have hs0:(if Eg true s1<0 then -Eg n0 s0 else Eg n0 s0)=-Eg n0 s0:=if_pos (by simp [Eg];omega)
  rw [hs0] at key
  obtain ⟨m0,em,om,hm⟩:=Bji n0 s0 o0
  rw [← em] at key
  rw [Bbx key (Bbd om hGp d0) rfl]
  have H3:Hid (∀ w1,Calls Tryz.prog 111 #[.agg #[Iz true,I s1]] w1 (Re w1 (.agg #[Iz false,I s1]))):=fun w1=>Tw true s1 w1 (isE hp)
  by_cases hg:G=1
  ·rw [hg,Nat.div_one,Nat.div_one,Dp o0.1,Dp o1.1]
   exact Bg7 n0 m0 false s0 s1 (Bw G) w (eq1 (by rw [hg,Em])) H1 hm H3
  ·have:=Bg8 n0 m0 false s0 s1 (Bw G) w (Ue fun e=>hg (by rw [← nG,e,Ch])) z0 z1 zG (by omega) H1 hm H3
   rwa [nG] at this
section
open Go.RowKit
end
section
open Go.RowKit
end
section
open Go.RowKit Go.Shelf
theorem Bkx:dt 0=[]:=rfl
def Bn5:Value→Nat
 | .string s=>s.size
 | _=>0
theorem bxt (w:World) (x0 x1:Value):∃ w0,w0=w.alloc (.cells #[x0,x1] 24)∧Bi w0 w.heap.size [x0,x1] 24∧Below w.heap.size w w0 :=
 ⟨_,rfl,Bi.new w _ _,(Jg _ _).alloc (Jb _) _⟩
theorem Bbs (w:World) (d:Nat):(convert 55 9 (.slice (some ⟨w.heap.size,0,none⟩) 1 1)).run Tryz.prog (w.alloc (.cells #[.int .u8 (d:Int)] 5))=.ok (I (Cs [d])) (w.alloc (.cells #[.int .u8 (d:Int)] 5)):=by
 rw [← Bbn]
 refine run_convert_bytes_arg _ 55 5 Tryz.underlying55 Tryz.underlying5 w.heap.size 0 1 1 _ (by simp) ?_ 9 Tryz.underlying9
 intro i hi
 obtain rfl:i=0:=by omega
 exact (Bi.new w [.int .u8 (d:Int)] 5).cell 0
theorem Bmn:10<Bp ^ 200:=Jl (show 10<Bp ^ 1 by decide) (Nat.pow_le_pow_right (by decide) (by omega))
theorem Bi6:M.digs Bp 10=[10]:=by unfold Bp;decide
theorem Bj0 (m:Nat):M.digs Bp (m % 10)=if m % 10=0 then [] else [m % 10]:=by
 by_cases h:m % 10=0
 ·rw [if_pos h,h,M.digs_zero]
 ·rw [if_neg h,M.digs_pos Bl (by omega),Nat.mod_eq_of_lt (by unfold Bp;omega),Nat.div_eq_of_lt (by unfold Bp;omega),M.digs_zero]
theorem Rh (n0:Bool) (s:ByteArray) (w:World) (hs:s.size≤400) (T:List Nat) (hT:T=dt (Bc s)) :
  Calls Tryz.prog 109 #[.agg #[Iz n0,I s]] w (Re w (I (if T=[] then ⟨#[48]⟩ else if n0 then Cs (45 :: T) else Cs T))):=by
 have HG:=Ba (fun w=>Sj s w (by omega))
 obtain ⟨TT,hTT⟩:∃ t,t=(if T=[] then (⟨#[48]⟩:ByteArray) else if n0 then Cs (45 :: T) else Cs T):=⟨_,rfl⟩
 rw [← hTT]
 have HTT:=Ba hTT
 have HT:=Ba hT
 clear hTT hT
 go_enter Tryz.func109,Tryz.ntmps109
 go_wp2_with fail
 obtain ⟨w0,hw0,k0,bb⟩:=bxt w (Iz n0) (I s)
 rw [← hw0]
 clear hw0
 refine (HG.out w0).mono ?_
 rintro e w1 ⟨v1,rfl,r1,b1⟩
 obtain ⟨a1,c1,rfl,-,-⟩:=id r1
 replace k0:=k0.b b1
 replace bb:=Ia bb b1
 clear b1 HG
 go_wp2
 go_loopw [3,4] (fun nv sv wr=>∃ (m:Nat) (t:List Nat),m≤Bc s∧sv=I (Cs t)∧Rd wr nv (M.digs Bp m)∧Hid (dt (Bc s)=dt m ++ t)∧Bi wr w.heap.size [Iz n0,I s] 24∧Below w.heap.size w wr) (fun _ sv _=>(dt (Bc s)).length - Bn5 sv)
 case atStart=>exact ⟨Bc s,[],Jb _,rfl,r1,Ba (by simp),k0,bb⟩
 case round =>
  clear r1 k0 bb
  obtain ⟨m,t,hm,rfl,rn,HD,kc,bb⟩:=hrel
  obtain ⟨an,cn,rfl,-,-⟩:=id rn
  have hlt:t.length≤1200:=by
   have h1:=Md s 400 hs
   rw [HD.out,Ji] at h1
   omega
  have hsz:(Cs t).size≤1200:=by rw [Cl];exact hlt
  by_cases hm0:m=0
  ·subst hm0
   have e0:(M.digs Bp 0).length=0:=rfl
   have c0:=C7 kc
   have HE:Hid (T=t):=by show T=t;rw [HT.out,HD.out,Bkx];rfl
   clear rn HD HT
   rw [e0]
   by_cases ht:t=[]
   ·subst ht
    have E0:(Cs [])=⟨#[]⟩:=rfl
    rw [E0]
    go_wp2
    go_ret
    exact ⟨by rw [HTT.out,HE.out];rfl,bb⟩
   ·have HN:=Ba ht
    have hne:=U4 ht
    clear ht e0
    cases n0 with
    | false =>
     go_wp2
     go_ret
     exact ⟨by rw [HTT.out,HE.out,if_neg HN.out];rfl,bb⟩
    | true =>
     go_wp2
     go_ret
     exact ⟨by rw [HTT.out,HE.out,if_neg HN.out,if_pos trivial,Fu];rfl,bb⟩
  ·have hp:0<(M.digs Bp m).length:=digs_pos Bl (by omega)
   have hp':((M.digs Bp m).length:Int) > 0:=by omega
   have HDv:=Ba (fun v0 v1 w r0 r1=>Xe (X:=m) (Y:=10) (K:=200) (by omega) (Nat.lt_of_le_of_lt hm (Fc 200 (by omega))) Bmn (by omega) v0 v1 w r0 r1)
   rw [Bi6,Bj0] at HDv
   have HDT:Hid (dt (Bc s)=dt (m / 10) ++ ((48+m % 10) :: t)):=by
    show _=_
    rw [HD.out,Sc (by omega),List.append_assoc];rfl
   have HSZ:Hid ((dt (Bc s)).length - (Cs ((48+m % 10) :: t)).size<(dt (Bc s)).length - (Cs t).size):=by
    show _<_
    rw [HDT.out,Cl,Cl]
    simp
    omega
   have HM:Hid (m / 10≤Bc s):=Jf (Nat.div_le_self _ _) hm
   clear HD HT HTT hm
   generalize hq:m / 10=q at *
   generalize hl:(M.digs Bp m).length=L at *
   generalize hx:m % 10=x at *
   have hx10:x<10:=by omega
   by_cases h0:x=0
   ·subst h0
    rw [if_pos rfl] at HDv
    clear hq hx hm0
    go_wp2_with fail
    obtain ⟨w2,hw2⟩:∃ w2,w2=wr.alloc (.cells #[.int .u64 10] 170):=⟨_,rfl⟩
    have b2:Below wr.heap.size wr w2:=by rw [hw2];exact (Jg _ _).alloc (Jb _) _
    have rP:Rd w2 (.slice (some ⟨wr.heap.size,0,none⟩) 1 1) [10]:=by rw [hw2];exact Yt wr rfl 10
    rw [← hw2]
    clear hw2
    refine (HDv.out _ _ w2 (rn.b b2) rP).mono ?_
    rintro e w3 ⟨vq,vr,rfl,rq,rr,b3⟩
    obtain ⟨aq,cq,rfl,-,-⟩:=id rq
    obtain ⟨ar,cr,rfl,-,-⟩:=id rr
    have bx:=Ia b2 b3
    replace kc:=kc.b bx
    replace bb:=Ia bb bx
    clear rn HDv bx b2 b3 rP rr hl hp hp'
    have hcv:=Bbs w3 48
    rw [show ((48:Nat):Int)=48 from rfl] at hcv
    have hs1:(Cs [48]).size≤1:=by rw [Cl];exact Jb _
    have b4:Below w3.heap.size w3 (w3.alloc (.cells #[.int .u8 ((48:Nat):Int)] 5)):=(Jg _ _).alloc (Jb _) _
    have R4:=Ba (rq.b b4)
    have K4:=Ba (kc.b b4)
    have B4:=Ba (Ia bb b4)
    clear rq kc bb b4
    go_wp2
    refine ⟨⟨q,48 :: t,HM.out,?_,R4.out,HDT,K4.out,B4.out⟩,?_⟩
    ·rw [Fu 48 t]
    ·have h:=HSZ.out
     rw [show 48+0=48 from rfl,Fu 48 t] at h
     exact h
   ·rw [if_neg h0] at HDv
    clear hq hx hm0
    go_wp2_with fail
    obtain ⟨w2,hw2⟩:∃ w2,w2=wr.alloc (.cells #[.int .u64 10] 170):=⟨_,rfl⟩
    have b2:Below wr.heap.size wr w2:=by rw [hw2];exact (Jg _ _).alloc (Jb _) _
    have rP:Rd w2 (.slice (some ⟨wr.heap.size,0,none⟩) 1 1) [10]:=by rw [hw2];exact Yt wr rfl 10
    rw [← hw2]
    clear hw2
    refine (HDv.out _ _ w2 (rn.b b2) rP).mono ?_
    rintro e w3 ⟨vq,vr,rfl,rq,rr,b3⟩
    obtain ⟨aq,cq,rfl,-,-⟩:=id rq
    obtain ⟨ar,cr,rfl,-,hcl⟩:=id rr
    obtain ⟨g,off,rfl,hc0⟩:=hcl 0 (by simp)
    have bx:=Ia b2 b3
    replace kc:=kc.b bx
    replace bb:=Ia bb bx
    clear rn HDv bx b2 b3 rP rr hl hp hp' hcl
    have hc1:w3.cell? ⟨g,off,none⟩=some (.int .u64 (x:Nat)):=hc0
    have y1:IntKind.u64.wrap (48+(x:Int))=((48+x:Nat):Int):=by simp only [IntKind.wrap_u64];omega
    have y2:IntKind.u8.wrap ((48+x:Nat):Int)=((48+x:Nat):Int):=by simp only [IntKind.wrap_u8];omega
    have hcv:=Bbs w3 (48+x)
    have b4:Below w3.heap.size w3 (w3.alloc (.cells #[.int .u8 ((48+x:Nat):Int)] 5)):=(Jg _ _).alloc (Jb _) _
    have R4:=Ba (rq.b b4)
    have K4:=Ba (kc.b b4)
    have B4:=Ba (Ia bb b4)
    clear rq kc bb b4 hc0
    generalize hD:48+x=D at *
    have hs1:(Cs [D]).size≤1:=by rw [Cl];exact Jb _
    go_wp2
    refine ⟨⟨q,D :: t,HM.out,?_,R4.out,HDT,K4.out,B4.out⟩,?_⟩
    ·rw [Fu D t]
    ·have h:=HSZ.out
     rw [Fu D t] at h
     exact h
end
section
open Go.RowKit Go.Shelf
end
section
open Go.RowKit
theorem Up:zI 0=.agg #[Iz false,.string { data:=#[] }]:=rfl
end
section
open Go.RowKit Go.Shelf
theorem Gm (s:ByteArray) (w:World) (hn:¬ (0<s.size∧lm (Bj s) 0=45)) (h:¬ Lp (Bj s)) :
  Calls Tryz.prog 216 #[I s] w (Re w (.tuple #[zI 0,.int .i64 4])):=by
 have hp:=pfx s
 rw [decide_eq_false hn] at hp
 have HI:=Ba (fun w=>Kd s w false (by simp [h]))
 rw [Up]
 have HPx:=Ba hp
 clear h hn hp
 go_enter Tryz.func216,Tryz.ntmps216
 go_wp2_with fail
 obtain ⟨w0,hw0⟩:∃ w0,w0=(w.alloc (.cells #[Iz false,.string { data:=#[] }] 24)).alloc (.cells #[Iz false,.slice none 0 0] 228):=⟨_,rfl⟩
 have k0:Bi w0 w.heap.size [Iz false,.string { data:=#[] }] 24:=by rw [hw0];exact (Bi.new w _ _).alloc _
 have k1:Bi w0 (w.heap.size+1) [Iz false,.slice none 0 0] 228:=by
  rw [hw0]
  have:=Bi.new (w.alloc (.cells #[Iz false,.string { data:=#[] }] 24)) [Iz false,.slice none 0 0] 228
  simpa using this
 have hb0:Below w.heap.size w w0:=by rw [hw0];go_grown
 rw [← hw0]
 clear hw0
 refine (Dn _ _ w0).mono ?_
 rintro e w1 ⟨rfl,hw⟩
 subst hw
 rw [HPx.out]
 go_wp2_with fail
 refine (HI.out w1).mono ?_
 rintro e w2 ⟨rfl,b2⟩
 replace k0:=k0.b b2
 replace hb0:=Ia hb0 b2
 clear b2
 obtain ⟨g0,g1⟩:=Dc k0
 have q0:=k0.o 0
 have q1:=k0.o 1
 go_wp2
 exact Di (p:=2) (u:=3) (by kernel_rfl) rfl rfl rfl ((k0.set 0 _).set 1 _) ⟨rfl,(hb0.setCell (by simp) _).setCell (by simp) _⟩
theorem Nz (s:ByteArray) (w:World) (hn:0<s.size∧lm (Bj s) 0=45) (h0:s≠⟨#[45,48]⟩) (h:¬ Lp (Bj (s.extract 1 s.size))) :
  Calls Tryz.prog 216 #[I s] w (Re w (.tuple #[zI 0,.int .i64 4])):=by
 have hp:=pfx s
 rw [decide_eq_true hn] at hp
 have hs1:¬ (s.size:Int)<1:=by omega
 have hs2:1≤s.size:=by omega
 have hne:=Bl5 h0
 have hne':¬ s.toList=[45,48]:=by simpa using hne
 obtain ⟨t,ht⟩:∃ t,t=s.extract 1 s.size:=⟨_,rfl⟩
 rw [← ht] at h
 have HI:=Ba (fun w=>Kd t w false (by simp [h]))
 rw [Up]
 have HPx:=Ba hp
 have HTT:=Ba ht
 clear h hp ht
 go_enter Tryz.func216,Tryz.ntmps216
 go_wp2_with fail
 obtain ⟨w0,hw0⟩:∃ w0,w0=(w.alloc (.cells #[Iz false,.string { data:=#[] }] 24)).alloc (.cells #[Iz false,.slice none 0 0] 228):=⟨_,rfl⟩
 have k0:Bi w0 w.heap.size [Iz false,.string { data:=#[] }] 24:=by rw [hw0];exact (Bi.new w _ _).alloc _
 have k1:Bi w0 (w.heap.size+1) [Iz false,.slice none 0 0] 228:=by
  rw [hw0]
  have:=Bi.new (w.alloc (.cells #[Iz false,.string { data:=#[] }] 24)) [Iz false,.slice none 0 0] 228
  simpa using this
 have hb0:Below w.heap.size w w0:=by rw [hw0];go_grown
 rw [← hw0]
 clear hw0
 refine (Dn _ _ w0).mono ?_
 rintro e w1 ⟨rfl,hw⟩
 subst hw
 rw [HPx.out]
 have c0:=C7 k1
 have f0:=k1.o 0
 go_wp2_with fail
 rw [← HTT.out]
 obtain ⟨wa,hwa⟩:∃ wa,wa=w1.setCell ⟨w.heap.size+1,0,none⟩ (Iz true):=⟨_,rfl⟩
 have k0':Bi wa w.heap.size [Iz false,.string { data:=#[] }] 24:=by rw [hwa];exact k0.t (by omega) _ _
 have k1':Bi wa (w.heap.size+1) [Iz true,.slice none 0 0] 228:=by rw [hwa];exact k1.set 0 _
 have hb0':Below w.heap.size w wa:=by rw [hwa];exact hb0.setCell (by simp) _
 rw [← hwa]
 clear hwa c0 f0 k0 k1 hb0
 have k0:=k0'
 have k1:=k1'
 have hb0:=hb0'
 clear k0' k1' hb0'
 refine (HI.out wa).mono ?_
 rintro e w2 ⟨rfl,b2⟩
 replace k0:=k0.b b2
 replace hb0:=Ia hb0 b2
 clear b2
 obtain ⟨g0,g1⟩:=Dc k0
 have q0:=k0.o 0
 have q1:=k0.o 1
 go_wp2
 exact Di (p:=2) (u:=3) (by kernel_rfl) rfl rfl rfl ((k0.set 0 _).set 1 _) ⟨rfl,(hb0.setCell (by simp) _).setCell (by simp) _⟩
end
section
open Go.RowKit Go.Shelf
theorem W9 {D:Nat} (hD:D<Bp ^ 8) (v0 v1:Value) (w:World) (r0:Rd w v0 (M.digs Bp D)) (r1:Rd w v1 [10]) :
  Calls Tryz.prog 135 #[v0,v1] w fun e w'=>∃ v,e=.returned v∧Rd w' v (M.digs Bp (10*D))∧Below w.heap.size w w':=by
 have:=Bf6 v0 v1 _ _ w r0 r1 (M.Low.digs Bl _) (Ez (by decide)) (Jf (Te hD) (by omega)) (by simp)
 rwa [M.val_digs Bl,show M.val Bp [10]=10 from by rw [M.val_cons,M.val_nil];omega,Nat.mul_comm] at this
theorem Rs {D x:Nat} (hD:D<Bp ^ 9) (hx:x<10) (v0 v1:Value) (w:World) (r0:Rd w v0 (M.digs Bp D)) (r1:Rd w v1 [x]) :
  Calls Tryz.prog 141 #[v0,v1] w fun e w'=>∃ v,e=.returned v∧Rd w' v (M.digs Bp (D+x))∧Below w.heap.size w w':=by
 have:=Xj v0 v1 _ _ w r0 r1 (M.Low.digs Bl _) (Ez (by simp;unfold Bp;omega)) (Nat.le_trans (Te hD) (by omega)) (by simp)
 rwa [M.val_digs Bl,show M.val Bp [x]=x from by rw [M.val_cons,M.val_nil];omega] at this
theorem Qo {b:List Nat} {k:Nat} (hk:k≤60) (h:∀ j,j<k→lm b j≤57):Ce b k<Bp ^ 8:=by
 have l:=G7 (b:=b) k h
 have l2:10 ^ k≤10 ^ 60:=Nat.pow_le_pow_right (by omega) hk
 exact Jl l (Jf l2 (by unfold Bp;decide))
theorem lt9 {D:Nat} (h:D<Bp ^ 8):10*D<Bp ^ 9:=by
 have e:Bp ^ 9=Bp ^ 8*Bp:=Nat.pow_succ ..
 rw [e]
 generalize Bp ^ 8=p at *
 unfold Bp
 omega
theorem Rj (s:ByteArray) (w:World) (hn:¬ (0<s.size∧lm (Bj s) 0=45)) (h1:1≤s.size) (h2:s.size≤60) (h3:lm (Bj s) 0=48→s.size≤1) (r:Bool) (hr:r=true↔∀ j,j<s.size→48≤lm (Bj s) j∧lm (Bj s) j≤57) :
  Calls Tryz.prog 187 #[I s] w (Re w (.tuple #[zI (if r then Fk false (Ce (Bj s) s.size) else 0),.int .i64 (if r then 0 else 4)])):=by
 obtain ⟨ZR,hZR⟩:∃ Z,Z=zI (if r then Fk false (Ce (Bj s) s.size) else 0):=⟨_,rfl⟩
 obtain ⟨ER,hER⟩:∃ E:Int,E=if r then 0 else 4:=⟨_,rfl⟩
 rw [← hZR,← hER]
 have HZR:=Ba hZR
 have HER:=Ba hER
 clear hZR hER
 have HR:=Ba hr
 have h4:r=true→Ce (Bj s) s.size<Bp ^ 8:=fun h=>Qo h2 (fun j hj=>(hr.1 h j hj).2)
 have HM:=Ba (fun (h:r=true) v w hv=>O8 false (K:=8) (by omega) (h4 h) v w hv)
 clear hr h4
 have g0:¬ (s.size:Int)<1:=by omega
 have g1:¬ (s.size:Int) > 60:=by omega
 have hs:0<s.size:=by omega
 have p1:¬ (s[0]).toNat=45:=fun h=>hn ⟨hs,by rw [← Ck s 0 hs];exact h⟩
 have p2:¬ ((s[0]).toNat:Int)=45:=by omega
 have p3:¬ s[0]=45:=fun h=>p1 (by rw [h];rfl)
 clear hn
 have hz:(((s[0]).toNat:Int)=48∧s[0]=48∧¬ (s.size:Int) > 1)∨(¬ ((s[0]).toNat:Int)=48∧¬ s[0]=48):=by
  by_cases g2:lm (Bj s) 0=48
  ·have g3:=h3 g2
   have k3:(s[0]).toNat=48:=by rw [Ck s 0 hs,g2]
   exact Or.inl ⟨by omega,UInt8.toNat.inj k3,by omega⟩
  ·have k1:¬ ((s[0]).toNat:Int)=48:=by rw [Ck s 0 hs];omega
   exact Or.inr ⟨k1,fun h=>k1 (by rw [h];rfl)⟩
 clear h3
 rcases hz with ⟨z1,z2,z3⟩ | ⟨z1,z2⟩ <;>
 ·go_enter Tryz.func187,Tryz.ntmps187
  go_wp2
  obtain ⟨w0,hw0⟩:∃ w0,w0=w.alloc (.cells #[Iz false,.string { data:=#[] }] 24):=⟨_,rfl⟩
  have k0:Bi w0 w.heap.size [Iz false,.string { data:=#[] }] 24:=by rw [hw0];exact Bi.new w _ _
  have hb0:Below w.heap.size w w0:=by rw [hw0];exact (Jg _ _).alloc (Jb _) _
  rw [← hw0]
  clear hw0
  go_loopw [6,7] (fun nv i wr=>∃ k:Nat,k≤s.size∧i=.int .i64 (k:Nat)∧Rd wr nv (M.digs Bp (Ce (Bj s) k))∧Hid (∀ j,j<k→48≤lm (Bj s) j∧lm (Bj s) j≤57)∧Bi wr w.heap.size [Iz false,.string { data:=#[] }] 24∧Below w.heap.size w wr) (fun _ i _=>s.size - (intOf i).toNat)
  case atStart=>exact ⟨0,Nat.zero_le _,rfl,U9 _,fun j hj=>absurd hj (Nat.not_lt_zero _),k0,hb0⟩
  case round =>
   clear k0 hb0
   obtain ⟨k,hk,rfl,rn,HA,kc,bb⟩:=hrel
   obtain ⟨an,cn,rfl,-,-⟩:=id rn
   by_cases hlt:k<s.size
   ·have hlt':(k:Int)<(s.size:Int):=by omega
    have a1:=Ck s k hlt
    by_cases hok:48≤lm (Bj s) k∧lm (Bj s) k≤57
    ·have HN:Hid (∀ j,j<k+1→48≤lm (Bj s) j∧lm (Bj s) j≤57):=fun j hj=>by
      by_cases e:j=k
      ·rw [e];exact hok
      ·exact HA.out j (by omega)
     have hD8:=Qo (b:=Bj s) (k:=k) (by omega) (fun j hj=>(HA.out j hj).2)
     have HMul:=Ba (fun v0 v1 w r0 r1=>W9 hD8 v0 v1 w r0 r1)
     obtain ⟨x,hx⟩:∃ x,x=lm (Bj s) k:=⟨_,rfl⟩
     rw [← hx] at hok a1
     obtain ⟨hx1,hx2⟩:=hok
     have hde:Ce (Bj s) (k+1)=10*Ce (Bj s) k+(x - 48):=by rw [hx];rfl
     have HAdd:=Ba (fun v0 v1 w r0 r1=>Rs (D:=10*Ce (Bj s) k) (x:=x - 48) (lt9 hD8) (by omega) v0 v1 w r0 r1)
     rw [← hde] at HAdd
     have HDE:=Ba hde
     clear hde hx hD8
     have y1:¬ (x:Int)<48:=by omega
     have y2:¬ (x:Int) > 57:=by omega
     generalize hdk:Ce (Bj s) k=D at *
     generalize hdk1:Ce (Bj s) (k+1)=D1 at *
     have HD1:=Ba hdk1
     clear hdk hdk1 HA HR HM
     by_cases hx0:x=48
     ·have y3:¬ (x:Int) > 48:=by omega
      have e1:10*D=D1:=by have:=HDE.out;omega
      rw [e1] at HMul
      clear HAdd HDE
      go_wp2_with fail
      obtain ⟨w2,hw2⟩:∃ w2,w2=wr.alloc (.cells #[.int .u64 10] 170):=⟨_,rfl⟩
      have b2:Below wr.heap.size wr w2:=by rw [hw2];exact (Jg _ _).alloc (Jb _) _
      have rP:Rd w2 (.slice (some ⟨wr.heap.size,0,none⟩) 1 1) [10]:=by rw [hw2];exact Yt wr rfl 10
      rw [← hw2]
      clear hw2
      refine (HMul.out _ _ w2 (rn.b b2) rP).mono ?_
      rintro e w3 ⟨v3,rfl,r3,b3⟩
      obtain ⟨a3,c3,rfl,-,-⟩:=id r3
      have bx:=Ia b2 b3
      replace kc:=kc.b bx
      replace bb:=Ia bb bx
      clear rn HMul bx b2 b3 rP
      have R3:Hid (Rd w3 (.slice a3 (M.digs Bp D1).length c3) (M.digs Bp (Ce (Bj s) (k+1)))):=by
       show Rd _ _ _
       rw [HD1.out];exact r3
      clear r3 HD1
      go_wp2
      exact ⟨⟨k+1,by omega,by go_num,R3.out,HN,kc,bb⟩,by simp [intOf];omega⟩
     ·have y3:(x:Int) > 48:=by omega
      have y4:IntKind.u8.wrap ((x:Int) - 48)=((x - 48:Nat):Int):=by simp only [IntKind.wrap_u8];omega
      have y5:IntKind.u64.wrap ((x - 48:Nat):Int)=((x - 48:Nat):Int):=by simp only [IntKind.wrap_u64];omega
      obtain ⟨X,hX⟩:∃ X,X=x - 48:=⟨_,rfl⟩
      rw [← hX] at y4 y5 HAdd
      clear hX HDE
      go_wp2_with fail
      obtain ⟨w2,hw2⟩:∃ w2,w2=wr.alloc (.cells #[.int .u64 10] 170):=⟨_,rfl⟩
      have b2:Below wr.heap.size wr w2:=by rw [hw2];exact (Jg _ _).alloc (Jb _) _
      have rP:Rd w2 (.slice (some ⟨wr.heap.size,0,none⟩) 1 1) [10]:=by rw [hw2];exact Yt wr rfl 10
      rw [← hw2]
      clear hw2
      refine (HMul.out _ _ w2 (rn.b b2) rP).mono ?_
      rintro e w3 ⟨v3,rfl,r3,b3⟩
      obtain ⟨a3,c3,rfl,-,-⟩:=id r3
      have bx:=Ia b2 b3
      replace kc:=kc.b bx
      replace bb:=Ia bb bx
      clear rn HMul bx b2 b3 rP
      go_wp2_with fail
      obtain ⟨w4,hw4⟩:∃ w4,w4=w3.alloc (.cells #[.int .u64 (X:Nat)] 170):=⟨_,rfl⟩
      have b4:Below w3.heap.size w3 w4:=by rw [hw4];exact (Jg _ _).alloc (Jb _) _
      have rV:Rd w4 (.slice (some ⟨w3.heap.size,0,none⟩) 1 1) [X]:=by rw [hw4];exact Yt w3 rfl X
      rw [← hw4]
      clear hw4
      refine (HAdd.out _ _ w4 (r3.b b4) rV).mono ?_
      rintro e w5 ⟨v5,rfl,r5,b5⟩
      obtain ⟨a5,c5,rfl,-,-⟩:=id r5
      have by1:=Ia b4 b5
      replace kc:=kc.b by1
      replace bb:=Ia bb by1
      clear r3 HAdd by1 b4 b5 rV
      have R5:Hid (Rd w5 (.slice a5 (M.digs Bp D1).length c5) (M.digs Bp (Ce (Bj s) (k+1)))):=by
       show Rd _ _ _
       rw [HD1.out];exact r5
      clear r5 HD1
      go_wp2
      exact ⟨⟨k+1,by omega,by go_num,R5.out,HN,kc,bb⟩,by simp [intOf];omega⟩
    ·have hrf:r=false:=by
      cases hr:r with
      | false=>rfl
      | true=>exact absurd (HR.out.1 hr k hlt) hok
     have HRF:=Ba hrf
     obtain ⟨x,hx⟩:∃ x,x=lm (Bj s) k:=⟨_,rfl⟩
     rw [← hx] at hok a1
     clear HA HR HM hx rn hrf
     obtain ⟨c0,c1⟩:=Dc kc
     have f0:=kc.o 0
     have f1:=kc.o 1
     by_cases y1:x<48
     ·have y1':(x:Int)<48:=by omega
      go_wp2
      exact Di (p:=2) (u:=3) (by kernel_rfl) rfl rfl rfl ((kc.set 0 _).set 1 _) ⟨by rw [HZR.out,HER.out,HRF.out];rfl,(bb.setCell (by simp) _).setCell (by simp) _⟩
     ·have y1':¬ (x:Int)<48:=by omega
      have y2':(x:Int) > 57:=by omega
      go_wp2
      exact Di (p:=2) (u:=3) (by kernel_rfl) rfl rfl rfl ((kc.set 0 _).set 1 _) ⟨by rw [HZR.out,HER.out,HRF.out];rfl,(bb.setCell (by simp) _).setCell (by simp) _⟩
   ·have hke:k=s.size:=by omega
    have hrt:r=true:=HR.out.2 (fun j hj=>HA.out j (by omega))
    rw [hke] at rn
    have HK:=Ba (HM.out hrt _ wr rn)
    have HRT:=Ba hrt
    subst hke
    clear HA HR HM hrt rn
    generalize hRR:zI (Fk false (Ce (Bj s) s.size))=RR at *
    obtain ⟨za,zb,rfl⟩:∃ a b,RR=.agg #[Iz a,I b]:=⟨_,_,hRR.symm⟩
    have HRR:=Ba hRR
    clear hRR
    go_wp2_with fail
    refine HK.out.mono ?_
    rintro e w6 ⟨rfl,b6⟩
    replace kc:=kc.b b6
    replace bb:=Ia bb b6
    obtain ⟨c0,c1⟩:=Dc kc
    have f0:=kc.o 0
    have f1:=kc.o 1
    go_wp2
    exact Di (p:=2) (u:=3) (by kernel_rfl) rfl rfl rfl ((kc.set 0 _).set 1 _) ⟨by rw [HZR.out,HER.out,if_pos HRT.out,if_pos HRT.out,HRR.out];rfl,(bb.setCell (by simp) _).setCell (by simp) _⟩
end
section
open Go.RowKit Go.Shelf
theorem Rk (s:ByteArray) (w:World) (hn:0<s.size∧lm (Bj s) 0=45) (t:ByteArray) (ht:s.extract 1 s.size=t) (h1:1≤t.size) (h2:t.size≤60) (h3:lm (Bj t) 0=48→False) (r:Bool) (hr:r=true↔∀ j,j<t.size→48≤lm (Bj t) j∧lm (Bj t) j≤57) :
  Calls Tryz.prog 187 #[I s] w (Re w (.tuple #[zI (if r then Fk true (Ce (Bj t) t.size) else 0),.int .i64 (if r then 0 else 4)])):=by
 obtain ⟨ZR,hZR⟩:∃ Z,Z=zI (if r then Fk true (Ce (Bj t) t.size) else 0):=⟨_,rfl⟩
 obtain ⟨ER,hER⟩:∃ E:Int,E=if r then 0 else 4:=⟨_,rfl⟩
 rw [← hZR,← hER]
 have HZR:=Ba hZR
 have HER:=Ba hER
 clear hZR hER
 have HR:=Ba hr
 have h4:r=true→Ce (Bj t) t.size<Bp ^ 8:=fun h=>Qo h2 (fun j hj=>(hr.1 h j hj).2)
 have HM:=Ba (fun (h:r=true) v w hv=>O8 true (K:=8) (by omega) (h4 h) v w hv)
 clear hr h4
 have g0:¬ (t.size:Int)<1:=by omega
 have g1:¬ (t.size:Int) > 60:=by omega
 have hs:0<t.size:=by omega
 obtain ⟨p0,hn2⟩:=hn
 have p1:(s[0]).toNat=45:=by rw [Ck s 0 p0];exact hn2
 have p2:((s[0]).toNat:Int)=45:=by omega
 have p3:s[0]=45:=UInt8.toNat.inj p1
 have p5:1≤s.size:=p0
 have p6:s.size - 1=t.size:=by rw [← ht,ByteArray.size_extract];omega
 have k0:¬ lm (Bj t) 0=48:=h3
 have k1:¬ ((t[0]).toNat:Int)=48:=by rw [Ck t 0 hs];omega
 have k2:¬ t[0]=48:=fun h=>k1 (by rw [h];rfl)
 clear h3 k0 hn2
 go_enter Tryz.func187,Tryz.ntmps187
 go_wp2
 obtain ⟨w0,hw0⟩:∃ w0,w0=w.alloc (.cells #[Iz false,.string { data:=#[] }] 24):=⟨_,rfl⟩
 have k0:Bi w0 w.heap.size [Iz false,.string { data:=#[] }] 24:=by rw [hw0];exact Bi.new w _ _
 have hb0:Below w.heap.size w w0:=by rw [hw0];exact (Jg _ _).alloc (Jb _) _
 rw [← hw0]
 clear hw0
 go_loopw [6,7] (fun nv i wr=>∃ k:Nat,k≤t.size∧i=.int .i64 (k:Nat)∧Rd wr nv (M.digs Bp (Ce (Bj t) k))∧Hid (∀ j,j<k→48≤lm (Bj t) j∧lm (Bj t) j≤57)∧Bi wr w.heap.size [Iz false,.string { data:=#[] }] 24∧Below w.heap.size w wr) (fun _ i _=>t.size - (intOf i).toNat)
 case atStart=>exact ⟨0,Nat.zero_le _,rfl,U9 _,fun j hj=>absurd hj (Nat.not_lt_zero _),k0,hb0⟩
 case round =>
  clear k0 hb0
  obtain ⟨k,hk,rfl,rn,HA,kc,bb⟩:=hrel
  obtain ⟨an,cn,rfl,-,-⟩:=id rn
  by_cases hlt:k<t.size
  ·have hlt':(k:Int)<(t.size:Int):=by omega
   have a1:=Ck t k hlt
   by_cases hok:48≤lm (Bj t) k∧lm (Bj t) k≤57
   ·have HN:Hid (∀ j,j<k+1→48≤lm (Bj t) j∧lm (Bj t) j≤57):=fun j hj=>by
     by_cases e:j=k
     ·rw [e];exact hok
     ·exact HA.out j (by omega)
    have hD8:=Qo (b:=Bj t) (k:=k) (by omega) (fun j hj=>(HA.out j hj).2)
    have HMul:=Ba (fun v0 v1 w r0 r1=>W9 hD8 v0 v1 w r0 r1)
    obtain ⟨x,hx⟩:∃ x,x=lm (Bj t) k:=⟨_,rfl⟩
    rw [← hx] at hok a1
    obtain ⟨hx1,hx2⟩:=hok
    have hde:Ce (Bj t) (k+1)=10*Ce (Bj t) k+(x - 48):=by rw [hx];rfl
    have HAdd:=Ba (fun v0 v1 w r0 r1=>Rs (D:=10*Ce (Bj t) k) (x:=x - 48) (lt9 hD8) (by omega) v0 v1 w r0 r1)
    rw [← hde] at HAdd
    have HDE:=Ba hde
    clear hde hx hD8
    have y1:¬ (x:Int)<48:=by omega
    have y2:¬ (x:Int) > 57:=by omega
    generalize hdk:Ce (Bj t) k=D at *
    generalize hdk1:Ce (Bj t) (k+1)=D1 at *
    have HD1:=Ba hdk1
    clear hdk hdk1 HA HR HM
    by_cases hx0:x=48
    ·have y3:¬ (x:Int) > 48:=by omega
     have e1:10*D=D1:=by have:=HDE.out;omega
     rw [e1] at HMul
     clear HAdd HDE
     go_wp2_with fail
     obtain ⟨w2,hw2⟩:∃ w2,w2=wr.alloc (.cells #[.int .u64 10] 170):=⟨_,rfl⟩
     have b2:Below wr.heap.size wr w2:=by rw [hw2];exact (Jg _ _).alloc (Jb _) _
     have rP:Rd w2 (.slice (some ⟨wr.heap.size,0,none⟩) 1 1) [10]:=by rw [hw2];exact Yt wr rfl 10
     rw [← hw2]
     clear hw2
     refine (HMul.out _ _ w2 (rn.b b2) rP).mono ?_
     rintro e w3 ⟨v3,rfl,r3,b3⟩
     obtain ⟨a3,c3,rfl,-,-⟩:=id r3
     have bx:=Ia b2 b3
     replace kc:=kc.b bx
     replace bb:=Ia bb bx
     clear rn HMul bx b2 b3 rP
     have R3:Hid (Rd w3 (.slice a3 (M.digs Bp D1).length c3) (M.digs Bp (Ce (Bj t) (k+1)))):=by
      show Rd _ _ _
      rw [HD1.out];exact r3
     clear r3 HD1
     go_wp2
     exact ⟨⟨k+1,by omega,by go_num,R3.out,HN,kc,bb⟩,by simp [intOf];omega⟩
    ·have y3:(x:Int) > 48:=by omega
     have y4:IntKind.u8.wrap ((x:Int) - 48)=((x - 48:Nat):Int):=by simp only [IntKind.wrap_u8];omega
     have y5:IntKind.u64.wrap ((x - 48:Nat):Int)=((x - 48:Nat):Int):=by simp only [IntKind.wrap_u64];omega
     obtain ⟨X,hX⟩:∃ X,X=x - 48:=⟨_,rfl⟩
     rw [← hX] at y4 y5 HAdd
     clear hX HDE
     go_wp2_with fail
     obtain ⟨w2,hw2⟩:∃ w2,w2=wr.alloc (.cells #[.int .u64 10] 170):=⟨_,rfl⟩
     have b2:Below wr.heap.size wr w2:=by rw [hw2];exact (Jg _ _).alloc (Jb _) _
     have rP:Rd w2 (.slice (some ⟨wr.heap.size,0,none⟩) 1 1) [10]:=by rw [hw2];exact Yt wr rfl 10
     rw [← hw2]
     clear hw2
     refine (HMul.out _ _ w2 (rn.b b2) rP).mono ?_
     rintro e w3 ⟨v3,rfl,r3,b3⟩
     obtain ⟨a3,c3,rfl,-,-⟩:=id r3
     have bx:=Ia b2 b3
     replace kc:=kc.b bx
     replace bb:=Ia bb bx
     clear rn HMul bx b2 b3 rP
     go_wp2_with fail
     obtain ⟨w4,hw4⟩:∃ w4,w4=w3.alloc (.cells #[.int .u64 (X:Nat)] 170):=⟨_,rfl⟩
     have b4:Below w3.heap.size w3 w4:=by rw [hw4];exact (Jg _ _).alloc (Jb _) _
     have rV:Rd w4 (.slice (some ⟨w3.heap.size,0,none⟩) 1 1) [X]:=by rw [hw4];exact Yt w3 rfl X
     rw [← hw4]
     clear hw4
     refine (HAdd.out _ _ w4 (r3.b b4) rV).mono ?_
     rintro e w5 ⟨v5,rfl,r5,b5⟩
     obtain ⟨a5,c5,rfl,-,-⟩:=id r5
     have by1:=Ia b4 b5
     replace kc:=kc.b by1
     replace bb:=Ia bb by1
     clear r3 HAdd by1 b4 b5 rV
     have R5:Hid (Rd w5 (.slice a5 (M.digs Bp D1).length c5) (M.digs Bp (Ce (Bj t) (k+1)))):=by
      show Rd _ _ _
      rw [HD1.out];exact r5
     clear r5 HD1
     go_wp2
     exact ⟨⟨k+1,by omega,by go_num,R5.out,HN,kc,bb⟩,by simp [intOf];omega⟩
   ·have hrf:r=false:=by
     cases hr:r with
     | false=>rfl
     | true=>exact absurd (HR.out.1 hr k hlt) hok
    have HRF:=Ba hrf
    obtain ⟨x,hx⟩:∃ x,x=lm (Bj t) k:=⟨_,rfl⟩
    rw [← hx] at hok a1
    clear HA HR HM hx rn hrf
    obtain ⟨c0,c1⟩:=Dc kc
    have f0:=kc.o 0
    have f1:=kc.o 1
    by_cases y1:x<48
    ·have y1':(x:Int)<48:=by omega
     go_wp2
     exact Di (p:=2) (u:=3) (by kernel_rfl) rfl rfl rfl ((kc.set 0 _).set 1 _) ⟨by rw [HZR.out,HER.out,HRF.out];rfl,(bb.setCell (by simp) _).setCell (by simp) _⟩
    ·have y1':¬ (x:Int)<48:=by omega
     have y2':(x:Int) > 57:=by omega
     go_wp2
     exact Di (p:=2) (u:=3) (by kernel_rfl) rfl rfl rfl ((kc.set 0 _).set 1 _) ⟨by rw [HZR.out,HER.out,HRF.out];rfl,(bb.setCell (by simp) _).setCell (by simp) _⟩
  ·have hke:k=t.size:=by omega
   have hrt:r=true:=HR.out.2 (fun j hj=>HA.out j (by omega))
   rw [hke] at rn
   have HK:=Ba (HM.out hrt _ wr rn)
   have HRT:=Ba hrt
   subst hke
   clear HA HR HM hrt rn
   generalize hRR:zI (Fk true (Ce (Bj t) t.size))=RR at *
   obtain ⟨za,zb,rfl⟩:∃ a b,RR=.agg #[Iz a,I b]:=⟨_,_,hRR.symm⟩
   have HRR:=Ba hRR
   clear hRR
   go_wp2_with fail
   refine HK.out.mono ?_
   rintro e w6 ⟨rfl,b6⟩
   replace kc:=kc.b b6
   replace bb:=Ia bb b6
   obtain ⟨c0,c1⟩:=Dc kc
   have f0:=kc.o 0
   have f1:=kc.o 1
   go_wp2
   exact Di (p:=2) (u:=3) (by kernel_rfl) rfl rfl rfl ((kc.set 0 _).set 1 _) ⟨by rw [HZR.out,HER.out,if_pos HRT.out,if_pos HRT.out,HRR.out];rfl,(bb.setCell (by simp) _).setCell (by simp) _⟩
end
section
open Go.RowKit Go.Shelf
theorem Bdl (s:ByteArray) (w:World) (hn:¬ (0<s.size∧lm (Bj s) 0=45)) (hb:s.size<1∨60<s.size∨(lm (Bj s) 0=48∧1<s.size)) :
  Calls Tryz.prog 187 #[I s] w (Re w (.tuple #[zI 0,.int .i64 4])):=by
 by_cases h0:s.size<1
 ·obtain rfl:s=⟨#[]⟩:=by
   obtain ⟨⟨l⟩⟩:=s
   cases l with
   | nil=>rfl
   | cons x l=>exact absurd h0 (by simp [ByteArray.size])
  clear hn hb h0
  go_enter Tryz.func187,Tryz.ntmps187
  go_wp2
  exact Di (p:=2) (u:=3) (by kernel_rfl) rfl rfl rfl (Bi.new w _ _) ⟨rfl,(Jg _ _).alloc (Jb _) _⟩
 have hs:0<s.size:=by omega
 have p1:¬ (s[0]).toNat=45:=fun h=>hn ⟨hs,by rw [← Ck s 0 hs];exact h⟩
 have p2:¬ ((s[0]).toNat:Int)=45:=by omega
 have p3:¬ s[0]=45:=fun h=>p1 (by rw [h];rfl)
 have g0:¬ (s.size:Int)<1:=by omega
 clear hn
 by_cases h1:60<s.size
 ·have g1:(s.size:Int) > 60:=by omega
  clear hb h0 h1
  go_enter Tryz.func187,Tryz.ntmps187
  go_wp2
  exact Di (p:=2) (u:=3) (by kernel_rfl) rfl rfl rfl (Bi.new w _ _) ⟨rfl,(Jg _ _).alloc (Jb _) _⟩
 ·have g1:¬ (s.size:Int) > 60:=by omega
  have h2:lm (Bj s) 0=48∧1<s.size:=by omega
  have k3:(s[0]).toNat=48:=by rw [Ck s 0 hs,h2.1]
  have z1:((s[0]).toNat:Int)=48:=by omega
  have z2:s[0]=48:=UInt8.toNat.inj k3
  have z3:(s.size:Int) > 1:=by omega
  clear hb h0 h1 h2 k3
  go_enter Tryz.func187,Tryz.ntmps187
  go_wp2
  exact Di (p:=2) (u:=3) (by kernel_rfl) rfl rfl rfl (Bi.new w _ _) ⟨rfl,(Jg _ _).alloc (Jb _) _⟩
theorem Tu (s:ByteArray) (w:World) (hn:0<s.size∧lm (Bj s) 0=45) (t:ByteArray) (ht:s.extract 1 s.size=t) (hb:t.size<1∨60<t.size∨lm (Bj t) 0=48) :
  Calls Tryz.prog 187 #[I s] w (Re w (.tuple #[zI 0,.int .i64 4])):=by
 obtain ⟨p0,hn2⟩:=hn
 have p1:(s[0]).toNat=45:=by rw [Ck s 0 p0];exact hn2
 have p2:((s[0]).toNat:Int)=45:=by omega
 have p3:s[0]=45:=UInt8.toNat.inj p1
 have p5:1≤s.size:=p0
 have p6:s.size - 1=t.size:=by rw [← ht,ByteArray.size_extract];omega
 clear hn2
 by_cases h0:t.size<1
 ·have p7:s.size=1:=by omega
  obtain rfl:s=⟨#[45]⟩:=by
   obtain ⟨⟨l⟩⟩:=s
   cases l with
   | nil=>exact absurd p7 (by simp [ByteArray.size])
   | cons x l=>cases l with
    | nil=>exact congrArg (fun x=>ByteArray.mk #[x]) (show x=45 from p3)
    | cons y l=>exact absurd p7 (by simp [ByteArray.size])
  clear hb h0 ht p0 p1 p2 p3 p5 p6 p7
  go_enter Tryz.func187,Tryz.ntmps187
  go_wp2
  exact Di (p:=2) (u:=3) (by kernel_rfl) rfl rfl rfl (Bi.new w _ _) ⟨rfl,(Jg _ _).alloc (Jb _) _⟩
 have hs:0<t.size:=by omega
 have g0:¬ (t.size:Int)<1:=by omega
 by_cases h1:60<t.size
 ·have g1:(t.size:Int) > 60:=by omega
  clear hb h0 h1
  go_enter Tryz.func187,Tryz.ntmps187
  go_wp2
  exact Di (p:=2) (u:=3) (by kernel_rfl) rfl rfl rfl (Bi.new w _ _) ⟨rfl,(Jg _ _).alloc (Jb _) _⟩
 ·have g1:¬ (t.size:Int) > 60:=by omega
  have h2:lm (Bj t) 0=48:=by omega
  have k3:(t[0]).toNat=48:=by rw [Ck t 0 hs,h2]
  have z1:((t[0]).toNat:Int)=48:=by omega
  have z2:t[0]=48:=UInt8.toNat.inj k3
  clear hb h0 h1 h2 k3
  go_enter Tryz.func187,Tryz.ntmps187
  go_wp2
  all_goals exact Di (p:=2) (u:=3) (by kernel_rfl) rfl rfl rfl (Bi.new w _ _) ⟨rfl,(Jg _ _).alloc (Jb _) _⟩
end
section
open Go.RowKit Go.Shelf
theorem Xt (w:World) :
  Calls Tryz.prog 216 #[I ⟨#[45,48]⟩] w (Re w (.tuple #[zI 0,.int .i64 4])):=by
 have h:¬ Lp (Bj ⟨#[45,48]⟩):=fun h=>absurd (h.2.2.2 0 (by decide)).1 (by decide)
 have HI:=Ba (fun w=>Kd ⟨#[45,48]⟩ w false (by simp [h]))
 rw [Up]
 clear h
 go_enter Tryz.func216,Tryz.ntmps216
 go_wp2_with fail
 obtain ⟨w0,hw0⟩:∃ w0,w0=(w.alloc (.cells #[Iz false,.string { data:=#[] }] 24)).alloc (.cells #[Iz false,.slice none 0 0] 228):=⟨_,rfl⟩
 have k0:Bi w0 w.heap.size [Iz false,.string { data:=#[] }] 24:=by rw [hw0];exact (Bi.new w _ _).alloc _
 have hb0:Below w.heap.size w w0:=by rw [hw0];go_grown
 rw [← hw0]
 clear hw0
 refine (Dn _ _ w0).mono ?_
 rintro e w1 ⟨rfl,hw⟩
 subst hw
 rw [show Lib.hasPrefix (ByteArray.mk #[45,48]).data.toList (ByteArray.mk #[45]).data.toList=true from by decide]
 go_wp2_with fail
 refine (HI.out w1).mono ?_
 rintro e w2 ⟨rfl,b2⟩
 replace k0:=k0.b b2
 replace hb0:=Ia hb0 b2
 clear b2
 obtain ⟨g0,g1⟩:=Dc k0
 have q0:=k0.o 0
 have q1:=k0.o 1
 go_wp2
 exact Di (p:=2) (u:=3) (by kernel_rfl) rfl rfl rfl ((k0.set 0 _).set 1 _) ⟨rfl,(hb0.setCell (by simp) _).setCell (by simp) _⟩
theorem Bfg (l:List UInt8) (h2:l.length=2) (h0:lm (Bj ⟨⟨l⟩⟩) 0=45) (h1:lm (Bj ((ByteArray.mk ⟨l⟩).extract 1 2)) 0=48):ByteArray.mk ⟨l⟩=⟨#[45,48]⟩:=by
 match l,h2,h0,h1 with
 | [x,y],_,h0,h1 =>
  have ex:x=45:=UInt8.toNat.inj h0
  have ey:y=48:=UInt8.toNat.inj h1
  rw [ex,ey]
theorem Bc8 (s:ByteArray) (h2:s.size=2) (h0:lm (Bj s) 0=45) (h1:lm (Bj (s.extract 1 2)) 0=48):s=⟨#[45,48]⟩:=by
 obtain ⟨⟨l⟩⟩:=s
 exact Bfg l h2 h0 h1
end
end Go.Proofs.YtnplifkgeeicjaaGreatDoor
