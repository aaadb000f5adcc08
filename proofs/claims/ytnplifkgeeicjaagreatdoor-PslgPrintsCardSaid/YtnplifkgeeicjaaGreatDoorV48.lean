import Derived.Lib.ItoaLen
import Derived.Shelf.Strconv.Itoa3
import Derived.Test.YtnplifkgeeicjaaGreatDoorV38
import Derived.Test.YtnplifkgeeicjaaGreatDoorV46
import Derived.Test.YtnplifkgeeicjaaGreatDoorV47
set_option maxRecDepth 20000
set_option maxHeartbeats 8000000
namespace Go.Proofs.YtnplifkgeeicjaaGreatDoor
open Go.RowKit Go.Shelf
def Gu (q:Q3):Bool:=decide (q.2.1.size≤100∧q.2.2.size≤100∧Ed q.1 q.2.1 q.2.2=0)
theorem Fw (q:Q3) (w:World):Calls Tryz.prog 105 #[(D8 q.1 q.2.1 q.2.2)] w (Re w (Iz (Gu q))):=by
 obtain ⟨n,s,d⟩:=q
 obtain ⟨V,hV⟩:∃ V,V=Gu (n,s,d):=⟨_,rfl⟩
 rw [← hV]
 unfold Gu at hV
 by_cases h1:s.size≤100
 ·have h1':(s.size:Int)≤100:=by omega
  by_cases h2:d.size≤100
  ·have h2':(d.size:Int)≤100:=by omega
   obtain ⟨E,hE⟩:∃ E:Nat,E=Ed n s d:=⟨_,rfl⟩
   have HC:=Ba (fun w1=>Bgc n s d w1 (by omega) (by omega))
   rw [← hE] at HC
   have HV:Hid (V=decide (E=0)):=by
    show V=_
    rw [hV,hE]
    simp [h1,h2]
   clear hV hE
   show Calls Tryz.prog 105 #[(D8 n s d)] w _
   go_enter Tryz.func105,Tryz.ntmps105
   go_upto_region 1 with fail
   obtain ⟨w0,hq,kz,b0⟩:=Es w (D6 n s d) 26
   rw [← hq]
   clear hq
   have c1:w0.cell? ⟨w.heap.size,1,none⟩=some (I s):=kz.cell 1
   have c2:w0.cell? ⟨w.heap.size,2,none⟩=some (I d):=kz.cell 2
   have rz:=Lm kz
   by_cases h3:E=0
   ·subst h3
    go_wp2_with (first | (refine Bg (by rfl) 26 _ rfl w.heap.size 0 rfl (D6 n s d) _ rz Tryz.underlying26 rfl (by kernel_rfl) ?_) | (go_at_call 134;refine (HC.out w0).mono ?_;rintro e w1 ⟨rfl,b1⟩))
    go_ret
    exact ⟨by rw [HV.out];rfl,Ia b0 b1⟩
   ·have h3':¬ (E:Int)=0:=by omega
    have h4:(((E:Nat):Int) == 0)=false:=beq_eq_false_iff_ne.2 h3'
    go_wp2_with (first | (refine Bg (by rfl) 26 _ rfl w.heap.size 0 rfl (D6 n s d) _ rz Tryz.underlying26 rfl (by kernel_rfl) ?_) | (go_at_call 134;refine (HC.out w0).mono ?_;rintro e w1 ⟨rfl,b1⟩))
    go_ret
    exact ⟨by rw [HV.out,decide_eq_false h3];first | rfl | (rw [h4]),Ia b0 b1⟩
  ·have h2':¬ (d.size:Int)≤100:=by omega
   have HV:Hid (V=false):=by rw [hV];exact decide_eq_false fun h=>h2 h.2.1
   clear hV
   show Calls Tryz.prog 105 #[(D8 n s d)] w _
   go_enter Tryz.func105,Tryz.ntmps105
   go_upto_region 1 with fail
   obtain ⟨w0,hq,kz,b0⟩:=Es w (D6 n s d) 26
   rw [← hq]
   clear hq
   have c1:w0.cell? ⟨w.heap.size,1,none⟩=some (I s):=kz.cell 1
   have c2:w0.cell? ⟨w.heap.size,2,none⟩=some (I d):=kz.cell 2
   go_wp2
   go_ret
   exact ⟨by rw [HV.out];rfl,b0⟩
 ·have h1':¬ (s.size:Int)≤100:=by omega
  have HV:Hid (V=false):=by rw [hV];exact decide_eq_false fun h=>h1 h.1
  clear hV
  show Calls Tryz.prog 105 #[(D8 n s d)] w _
  go_enter Tryz.func105,Tryz.ntmps105
  go_upto_region 1 with fail
  obtain ⟨w0,hq,kz,b0⟩:=Es w (D6 n s d) 26
  rw [← hq]
  clear hq
  have c1:w0.cell? ⟨w.heap.size,1,none⟩=some (I s):=kz.cell 1
  go_wp2
  go_ret
  exact ⟨by rw [HV.out];rfl,b0⟩
open Go.RowKit Go.Shelf
def Rf (q:Q3 × Q3):Bool:=Gu q.1 && Gu q.2
def U6 (n1 n2 n3:Nat) (A1 A3:List (Q3 × Q3)) (x y:Nat→Q3):Bool:=decide (n1≤40∧n2≤60∧n3≤10) && A1.all Rf && A3.all Rf && (List.range 6).all fun i=>Gu (x i) && Gu (y i)
theorem Bfx (n1 n2 n3:Nat) (A1 A3:List (Q3 × Q3)) (x y:Nat→Q3) (h1:n1≤40) (h2:n2≤60) (h3:n3≤10) (a1:A1.all Rf=true) (a3:A3.all Rf=true) (hx:∀ j,j<6→Gu (x j)=true∧Gu (y j)=true):U6 n1 n2 n3 A1 A3 x y=true:=by
 unfold U6
 rw [a1,a3,decide_eq_true ⟨h1,h2,h3⟩]
 simp only [Bool.true_and,List.all_eq_true,List.mem_range,Bool.and_eq_true]
 exact hx
theorem U5 {n1 n2 n3:Nat} {A1 A3:List (Q3 × Q3)} {x y:Nat→Q3} (h:U6 n1 n2 n3 A1 A3 x y=true):(n1≤40∧n2≤60∧n3≤10)∧(∀ q,q∈A1→Gu q.1=true∧Gu q.2=true)∧(∀ q,q∈A3→Gu q.1=true∧Gu q.2=true)∧∀ j,j<6→Gu (x j)=true∧Gu (y j)=true:=by
 unfold U6 Rf at h
 simp only [Bool.and_eq_true,decide_eq_true_eq,List.all_eq_true,List.mem_range] at h
 obtain ⟨⟨⟨a,b⟩,c⟩,d⟩:=h
 exact ⟨a,b,c,d⟩
theorem Blx (n1 n2 n3:Nat) {A1 A3:List (Q3 × Q3)} {x y:Nat→Q3} (h:(∃ q,q∈A1∧Rf q=false)∨(∃ q,q∈A3∧Rf q=false)∨False):U6 n1 n2 n3 A1 A3 x y=false:=by
 rw [← Bool.not_eq_true]
 intro hs
 obtain ⟨-,a,b,-⟩:=U5 hs
 rcases h with ⟨q,hq,e⟩ | ⟨q,hq,e⟩ | h
 ·obtain ⟨c,d⟩:=a q hq
  unfold Rf at e
  rw [c,d] at e
  cases e
 ·obtain ⟨c,d⟩:=b q hq
  unfold Rf at e
  rw [c,d] at e
  cases e
 ·exact h
theorem Bmq (n1 n2 n3:Nat) {A1 A3:List (Q3 × Q3)} {x y:Nat→Q3} {k:Nat} (hk:k<6) (h:¬ (Gu (x k)=true∧Gu (y k)=true)):U6 n1 n2 n3 A1 A3 x y=false:=by
 rw [← Bool.not_eq_true]
 intro hs
 exact h ((U5 hs).2.2.2 k hk)
theorem Ban (x:Nat→Q3) (k:Nat) (hk:k<6) (i:Nat) (v:Value) (h:[Value.bool (x k).1,I (x k).2.1,I (x k).2.2][i]?=some v):(C4 x)[k*3+i]?=some v:=by
 match k,hk with
 | 0,_=>match i,h with | 0,h=>exact h | 1,h=>exact h | 2,h=>exact h
 | 1,_=>match i,h with | 0,h=>exact h | 1,h=>exact h | 2,h=>exact h
 | 2,_=>match i,h with | 0,h=>exact h | 1,h=>exact h | 2,h=>exact h
 | 3,_=>match i,h with | 0,h=>exact h | 1,h=>exact h | 2,h=>exact h
 | 4,_=>match i,h with | 0,h=>exact h | 1,h=>exact h | 2,h=>exact h
 | 5,_=>match i,h with | 0,h=>exact h | 1,h=>exact h | 2,h=>exact h
open Go.RowKit Go.Shelf
theorem Bdh (A1 A3:List (Q3 × Q3)) (a1 a2 a3:Option Addr) (n1 n2 n3 m1 m2 m3:Nat) (x y:Nat→Q3) (w:World) (e1:A1.length=n1) (e3:A3.length=n3) (z1:n1≤40) (z2:n2≤60) (z3:n3≤10)
  (r1:B9 w 6 (.slice a1 n1 m1) (A1.map cP)) (r3:B9 w 6 (.slice a3 n3 m3) (A3.map cP)) :
  Calls Tryz.prog 54 #[.agg #[.slice a1 n1 m1,.slice a2 n2 m2,.slice a3 n3 m3,Iz (x 0).1,I (x 0).2.1,I (x 0).2.2,Iz (x 1).1,I (x 1).2.1,I (x 1).2.2,Iz (x 2).1,I (x 2).2.1,I (x 2).2.2,Iz (x 3).1,I (x 3).2.1,I (x 3).2.2,Iz (x 4).1,I (x 4).2.1,I (x 4).2.2,Iz (x 5).1,I (x 5).2.1,I (x 5).2.2,Iz (y 0).1,I (y 0).2.1,I (y 0).2.2,Iz (y 1).1,I (y 1).2.1,I (y 1).2.2,Iz (y 2).1,I (y 2).2.1,I (y 2).2.2,Iz (y 3).1,I (y 3).2.1,I (y 3).2.2,Iz (y 4).1,I (y 4).2.1,I (y 4).2.2,Iz (y 5).1,I (y 5).2.1,I (y 5).2.2]] w (Re w (Iz (U6 n1 n2 n3 A1 A3 x y))):=by
 obtain ⟨V,hV⟩:∃ V,V=U6 n1 n2 n3 A1 A3 x y:=⟨_,rfl⟩
 rw [← hV]
 have HV:=Ba hV
 clear hV
 go_enter Tryz.func54,Tryz.ntmps54
 go_upto_region 1 with fail
 obtain ⟨w0,hq,kz,b0⟩:=Es w [.slice a1 n1 m1,.slice a2 n2 m2,.slice a3 n3 m3,Iz (x 0).1,I (x 0).2.1,I (x 0).2.2,Iz (x 1).1,I (x 1).2.1,I (x 1).2.2,Iz (x 2).1,I (x 2).2.1,I (x 2).2.2,Iz (x 3).1,I (x 3).2.1,I (x 3).2.2,Iz (x 4).1,I (x 4).2.1,I (x 4).2.2,Iz (x 5).1,I (x 5).2.1,I (x 5).2.2,Iz (y 0).1,I (y 0).2.1,I (y 0).2.2,Iz (y 1).1,I (y 1).2.1,I (y 1).2.2,Iz (y 2).1,I (y 2).2.1,I (y 2).2.2,Iz (y 3).1,I (y 3).2.1,I (y 3).2.2,Iz (y 4).1,I (y 4).2.1,I (y 4).2.2,Iz (y 5).1,I (y 5).2.1,I (y 5).2.2] 46
 rw [← hq]
 clear hq
 have kz':Bi w0 w.heap.size (Dq (.slice a1 n1 m1) (.slice a2 n2 m2) (.slice a3 n3 m3) (C4 x) (C4 y)) 46:=kz
 clear kz
 generalize Value.agg _=V0
 obtain ⟨G,hG⟩:∃ G,G=w.heap.size:=⟨_,rfl⟩
 rw [← hG] at kz' ⊢
 have R1:=Ba (fun wi (b:Below w0.heap.size w0 wi)=>(r1.b b0).b b)
 have R3:=Ba (fun wi (b:Below w0.heap.size w0 wi)=>(r3.b b0).b b)
 have E1:=Ba e1
 have E3:=Ba e3
 have C0:Hid (∀ wi,Below w0.heap.size w0 wi→wi.cell? ⟨G,0,none⟩=some (.slice a1 n1 m1)):=fun wi b=>(kz'.b b).cell 0
 have C1:Hid (∀ wi,Below w0.heap.size w0 wi→wi.cell? ⟨G,1,none⟩=some (.slice a2 n2 m2)):=fun wi b=>(kz'.b b).cell 1
 have C2:Hid (∀ wi,Below w0.heap.size w0 wi→wi.cell? ⟨G,2,none⟩=some (.slice a3 n3 m3)):=fun wi b=>(kz'.b b).cell 2
 have CF:Hid (∀ wi,Below w0.heap.size w0 wi→∀ k,k<6→wi.rangeAt G (3+k*3) [Iz (x k).1,I (x k).2.1,I (x k).2.2]):=fun wi b k hk i v hv=>by
  have h:=Dm (kz'.b b) 3 18 (k*3+i) v (Ban x k hk i v hv)
  rwa [← Nat.add_assoc] at h
 have CG:Hid (∀ wi,Below w0.heap.size w0 wi→∀ k,k<6→wi.rangeAt G (21+k*3) [Iz (y k).1,I (y k).2.1,I (y k).2.2]):=fun wi b k hk i v hv=>by
  have h:=Dm (kz'.b b) 21 18 (k*3+i) v (Ban y k hk i v hv)
  rwa [← Nat.add_assoc] at h
 have c0:=C0.out _ (Jg _ _)
 have c1:=C1.out _ (Jg _ _)
 have c2:=C2.out _ (Jg _ _)
 have g1:¬ (40:Int)<(n1:Int):=by omega
 have g2:¬ (60:Int)<(n2:Int):=by omega
 have g3:¬ (10:Int)<(n3:Int):=by omega
 clear hG kz' r1 r3 e1 e3
 go_upto_region 3 with fail
 clear c0 c1 c2 g1 g2 g3
 have BW:=Jg w0.heap.size w0
 go_wp2_with fail
 go_loopw [3] (fun i wr=>∃ k:Nat,k≤n1∧i=.int .i64 (k:Nat)∧Below w0.heap.size w0 wr∧Hid ((A1.take k).all Rf=true)) (fun i _=>n1 - (intOf i).toNat)
 case atStart=>exact ⟨0,Nat.zero_le _,rfl,BW,rfl⟩
 case round =>
  obtain ⟨k,hk,rfl,HW,HK⟩:=hrel
  have c0:=C0.out _ HW
  by_cases hgo:k<n1
  ·have hgo':(k:Int)<(n1:Int):=by omega
   obtain ⟨q,hq⟩:∃ q,A1[k]?=some q:=⟨_,List.getElem?_eq_getElem (by rw [E1.out];exact hgo)⟩
   obtain ⟨a,c,ea,-,hR⟩:=R1.out _ HW
   obtain ⟨g,o,eg,hgl,hc⟩:=hR k _ (by rw [List.getElem?_map,hq];rfl)
   replace ea:=(Value.slice.inj ea).1
   rw [eg] at ea
   rw [ea] at c0
   have hup:Hid ((A1.take (k+1)).all Rf=Rf q):=by
    show _=_
    rw [List.take_add_one,hq,List.all_append,HK.out]
    simp
   have hno:Hid (Rf q=false→V=false):=fun e=>by
    rw [HV.out]
    exact Blx _ _ _ (Or.inl ⟨q,List.mem_of_getElem? hq,e⟩)
   obtain ⟨⟨xn,xs,xd⟩,yn,ys,yd⟩:=q
   have S1:=Ba (fun wi=>Fw (xn,xs,xd) wi)
   have S2:=Ba (fun wi=>Fw (yn,ys,yd) wi)
   have q1:wr.rangeAt g (o+k*6) (D6 xn xs xd):=fun i v hv=>hc i v (by match i,hv with | 0,hv=>exact hv | 1,hv=>exact hv | 2,hv=>exact hv)
   have q2:wr.rangeAt g (o+k*6+3) (D6 yn ys yd):=fun i v hv=>by
    have:=hc (3+i) v (by match i,hv with | 0,hv=>exact hv | 1,hv=>exact hv | 2,hv=>exact hv)
    rwa [← Nat.add_assoc] at this
   have Q2:Hid (∀ wi,Below wr.heap.size wr wi→wi.rangeAt g (o+k*6+3) (D6 yn ys yd)):=fun wi b i v hv=>Bh (q2 i v hv) b
   have C2:Hid (∀ wi,Below wr.heap.size wr wi→wi.cell? ⟨G,0,none⟩=some (.slice (some ⟨g,o,none⟩) n1 m1)):=fun wi b=>by
    rw [← ea]
    exact C0.out _ (Ia HW b)
   clear hc hR eg hq q2 ea HK hgl
   have hs:Rf ((xn,xs,xd),yn,ys,yd)=(Gu (xn,xs,xd) && Gu (yn,ys,yd)):=rfl
   rw [hs] at hup hno
   generalize Gu (xn,xs,xd)=s1 at *
   generalize Gu (yn,ys,yd)=s2 at *
   cases s1 with
   | false =>
    go_wp2_with (first | (refine Bg (by rfl) 26 _ rfl g (o+k*6) rfl (D6 xn xs xd) _ q1 Tryz.underlying26 rfl (by kernel_rfl) ?_) | (go_at_call 105;refine (S1.out wr).mono ?_;rintro e w2 ⟨rfl,b2⟩))
    go_ret
    exact ⟨by rw [hno.out rfl];rfl,Ia b0 (Ia HW b2)⟩
   | true =>
    cases s2 with
    | false =>
     go_wp2_with (first | (refine Bg (by rfl) 26 _ rfl g (o+k*6) rfl (D6 xn xs xd) _ q1 Tryz.underlying26 rfl (by kernel_rfl) ?_) | (go_at_call 105;first | (go_fit (S1.out wr);rintro e w2 ⟨rfl,b2⟩;have q3:=Q2.out _ b2;have c3:=C2.out _ b2) | (go_fit (S2.out w2);rintro e w3 ⟨rfl,b3⟩)) | (refine Bg (by rfl) 26 _ rfl g (o+k*6+3) rfl (D6 yn ys yd) _ q3 Tryz.underlying26 rfl (by kernel_rfl) ?_))
     go_ret
     exact ⟨by rw [hno.out rfl];rfl,Ia b0 (Ia (Ia HW b2) b3)⟩
    | true =>
     go_wp2_with (first | (refine Bg (by rfl) 26 _ rfl g (o+k*6) rfl (D6 xn xs xd) _ q1 Tryz.underlying26 rfl (by kernel_rfl) ?_) | (go_at_call 105;first | (go_fit (S1.out wr);rintro e w2 ⟨rfl,b2⟩;have q3:=Q2.out _ b2;have c3:=C2.out _ b2) | (go_fit (S2.out w2);rintro e w3 ⟨rfl,b3⟩)) | (refine Bg (by rfl) 26 _ rfl g (o+k*6+3) rfl (D6 yn ys yd) _ q3 Tryz.underlying26 rfl (by kernel_rfl) ?_))
     go_roundw
     case rel=>exact ⟨k+1,by omega,by go_num,Ia (Ia HW b2) b3,hup.out⟩
     case measure=>simp [intOf];omega
  ·have hgo':¬ (k:Int)<(n1:Int):=by omega
   have HA:Hid (A1.all Rf=true):=by
    have:=HK.out
    rwa [List.take_of_length_le (by rw [E1.out];omega)] at this
   clear HK
   have HA1:=HA
   have BW:=HW
   go_wp2_with fail
   clear c0 HA hk hgo hgo'
   go_loopw [4] (fun i wr=>∃ k:Nat,k≤n3∧i=.int .i64 (k:Nat)∧Below w0.heap.size w0 wr∧Hid ((A3.take k).all Rf=true)) (fun i _=>n3 - (intOf i).toNat)
   case atStart=>exact ⟨0,Nat.zero_le _,rfl,BW,rfl⟩
   case round =>
    obtain ⟨k,hk,rfl,HW,HK⟩:=hrel
    have c0:=C2.out _ HW
    by_cases hgo:k<n3
    ·have hgo':(k:Int)<(n3:Int):=by omega
     obtain ⟨q,hq⟩:∃ q,A3[k]?=some q:=⟨_,List.getElem?_eq_getElem (by rw [E3.out];exact hgo)⟩
     obtain ⟨a,c,ea,-,hR⟩:=R3.out _ HW
     obtain ⟨g,o,eg,hgl,hc⟩:=hR k _ (by rw [List.getElem?_map,hq];rfl)
     replace ea:=(Value.slice.inj ea).1
     rw [eg] at ea
     rw [ea] at c0
     have hup:Hid ((A3.take (k+1)).all Rf=Rf q):=by
      show _=_
      rw [List.take_add_one,hq,List.all_append,HK.out]
      simp
     have hno:Hid (Rf q=false→V=false):=fun e=>by
      rw [HV.out]
      exact Blx _ _ _ (Or.inr <| Or.inl ⟨q,List.mem_of_getElem? hq,e⟩)
     obtain ⟨⟨xn,xs,xd⟩,yn,ys,yd⟩:=q
     have S1:=Ba (fun wi=>Fw (xn,xs,xd) wi)
     have S2:=Ba (fun wi=>Fw (yn,ys,yd) wi)
     have q1:wr.rangeAt g (o+k*6) (D6 xn xs xd):=fun i v hv=>hc i v (by match i,hv with | 0,hv=>exact hv | 1,hv=>exact hv | 2,hv=>exact hv)
     have q2:wr.rangeAt g (o+k*6+3) (D6 yn ys yd):=fun i v hv=>by
      have:=hc (3+i) v (by match i,hv with | 0,hv=>exact hv | 1,hv=>exact hv | 2,hv=>exact hv)
      rwa [← Nat.add_assoc] at this
     have Q2:Hid (∀ wi,Below wr.heap.size wr wi→wi.rangeAt g (o+k*6+3) (D6 yn ys yd)):=fun wi b i v hv=>Bh (q2 i v hv) b
     have C2:Hid (∀ wi,Below wr.heap.size wr wi→wi.cell? ⟨G,2,none⟩=some (.slice (some ⟨g,o,none⟩) n3 m3)):=fun wi b=>by
      rw [← ea]
      exact C2.out _ (Ia HW b)
     clear hc hR eg hq q2 ea HK hgl
     have hs:Rf ((xn,xs,xd),yn,ys,yd)=(Gu (xn,xs,xd) && Gu (yn,ys,yd)):=rfl
     rw [hs] at hup hno
     generalize Gu (xn,xs,xd)=s1 at *
     generalize Gu (yn,ys,yd)=s2 at *
     cases s1 with
     | false =>
      go_wp2_with (first | (refine Bg (by rfl) 26 _ rfl g (o+k*6) rfl (D6 xn xs xd) _ q1 Tryz.underlying26 rfl (by kernel_rfl) ?_) | (go_at_call 105;refine (S1.out wr).mono ?_;rintro e w2 ⟨rfl,b2⟩))
      go_ret
      exact ⟨by rw [hno.out rfl];rfl,Ia b0 (Ia HW b2)⟩
     | true =>
      cases s2 with
      | false =>
       go_wp2_with (first | (refine Bg (by rfl) 26 _ rfl g (o+k*6) rfl (D6 xn xs xd) _ q1 Tryz.underlying26 rfl (by kernel_rfl) ?_) | (go_at_call 105;first | (go_fit (S1.out wr);rintro e w2 ⟨rfl,b2⟩;have q3:=Q2.out _ b2;have c3:=C2.out _ b2) | (go_fit (S2.out w2);rintro e w3 ⟨rfl,b3⟩)) | (refine Bg (by rfl) 26 _ rfl g (o+k*6+3) rfl (D6 yn ys yd) _ q3 Tryz.underlying26 rfl (by kernel_rfl) ?_))
       go_ret
       exact ⟨by rw [hno.out rfl];rfl,Ia b0 (Ia (Ia HW b2) b3)⟩
      | true =>
       go_wp2_with (first | (refine Bg (by rfl) 26 _ rfl g (o+k*6) rfl (D6 xn xs xd) _ q1 Tryz.underlying26 rfl (by kernel_rfl) ?_) | (go_at_call 105;first | (go_fit (S1.out wr);rintro e w2 ⟨rfl,b2⟩;have q3:=Q2.out _ b2;have c3:=C2.out _ b2) | (go_fit (S2.out w2);rintro e w3 ⟨rfl,b3⟩)) | (refine Bg (by rfl) 26 _ rfl g (o+k*6+3) rfl (D6 yn ys yd) _ q3 Tryz.underlying26 rfl (by kernel_rfl) ?_))
       go_roundw
       case rel=>exact ⟨k+1,by omega,by go_num,Ia (Ia HW b2) b3,hup.out⟩
       case measure=>simp [intOf];omega
    ·have hgo':¬ (k:Int)<(n3:Int):=by omega
     have HA:Hid (A3.all Rf=true):=by
      have:=HK.out
      rwa [List.take_of_length_le (by rw [E3.out];omega)] at this
     clear HK
     have HA3:=HA
     have BW:=HW
     go_wp2_with fail
     clear c0 HA hk hgo hgo'
     go_loopw [5] (fun i wr=>∃ k:Nat,k≤6∧i=.int .i64 (k:Nat)∧Below w0.heap.size w0 wr∧Hid (∀ j,j<k→Gu (x j)=true∧Gu (y j)=true)) (fun i _=>6 - (intOf i).toNat)
     case atStart=>exact ⟨0,Nat.zero_le _,rfl,BW,fun j hj=>absurd hj (Nat.not_lt_zero _)⟩
     case round =>
      obtain ⟨k,hk,rfl,HW,HK⟩:=hrel
      by_cases hgo:k<6
      ·have hgo':(k:Int)<6:=by omega
       have hup:Hid (Gu (x k)=true→Gu (y k)=true→∀ j,j<k+1→Gu (x j)=true∧Gu (y j)=true):=fun e1 e2 j hj=>by
        by_cases h:j<k
        ·exact HK.out j h
        ·obtain rfl:j=k:=by omega
         exact ⟨e1,e2⟩
       have hno:Hid (¬ (Gu (x k)=true∧Gu (y k)=true)→V=false):=fun e=>by
        rw [HV.out]
        exact Bmq _ _ _ hgo e
       have S1:=Ba (fun wi=>Fw (x k) wi)
       have S2:=Ba (fun wi=>Fw (y k) wi)
       have q1:=CF.out _ HW k hgo
       have Q2:Hid (∀ wi,Below wr.heap.size wr wi→wi.rangeAt G (21+k*3) [Iz (y k).1,I (y k).2.1,I (y k).2.2]):=fun wi b=>CG.out _ (Ia HW b) k hgo
       clear HK
       generalize x k=xk at *
       generalize y k=yk at *
       obtain ⟨xn,xs,xd⟩:=xk
       obtain ⟨yn,ys,yd⟩:=yk
       generalize Gu (xn,xs,xd)=s1 at *
       generalize Gu (yn,ys,yd)=s2 at *
       cases s1 with
       | false =>
        go_wp2_with (first | (refine Bg (by rfl) 26 _ rfl G (3+k*3) rfl (D6 xn xs xd) _ q1 Tryz.underlying26 rfl (by kernel_rfl) ?_) | (go_at_call 105;refine (S1.out wr).mono ?_;rintro e w2 ⟨rfl,b2⟩))
        go_ret
        exact ⟨by rw [hno.out (by simp)];rfl,Ia b0 (Ia HW b2)⟩
       | true =>
        cases s2 with
        | false =>
         go_wp2_with (first | (refine Bg (by rfl) 26 _ rfl G (3+k*3) rfl (D6 xn xs xd) _ q1 Tryz.underlying26 rfl (by kernel_rfl) ?_) | (go_at_call 105;first | (go_fit (S1.out wr);rintro e w2 ⟨rfl,b2⟩;have q3:=Q2.out _ b2) | (go_fit (S2.out w2);rintro e w3 ⟨rfl,b3⟩)) | (refine Bg (by rfl) 26 _ rfl G (21+k*3) rfl (D6 yn ys yd) _ q3 Tryz.underlying26 rfl (by kernel_rfl) ?_))
         go_ret
         exact ⟨by rw [hno.out (by simp)];rfl,Ia b0 (Ia (Ia HW b2) b3)⟩
        | true =>
         go_wp2_with (first | (refine Bg (by rfl) 26 _ rfl G (3+k*3) rfl (D6 xn xs xd) _ q1 Tryz.underlying26 rfl (by kernel_rfl) ?_) | (go_at_call 105;first | (go_fit (S1.out wr);rintro e w2 ⟨rfl,b2⟩;have q3:=Q2.out _ b2) | (go_fit (S2.out w2);rintro e w3 ⟨rfl,b3⟩)) | (refine Bg (by rfl) 26 _ rfl G (21+k*3) rfl (D6 yn ys yd) _ q3 Tryz.underlying26 rfl (by kernel_rfl) ?_))
         go_roundw
         case rel=>exact ⟨k+1,by omega,by go_num,Ia (Ia HW b2) b3,hup.out (by simp) (by simp)⟩
         case measure=>simp [intOf];omega
      ·have hgo':¬ (k:Int)<6:=by omega
       have HT:Hid (V=true):=by
        show V=true
        rw [HV.out]
        exact Bfx _ _ _ _ _ _ _ z1 z2 z3 HA1.out HA3.out (fun j hj=>HK.out j (by omega))
       go_wp2
       go_ret
       exact ⟨by rw [HT.out];rfl,Ia b0 HW⟩
open Go.RowKit
theorem Bfj (r:List UInt8):∀ (l:List ByteArray) (t:ByteArray),(∀ u,u∈t :: l→Tok u)→Su (M5 (t :: l) ++ 10 :: r) []=t :: l ++ Su r []
 | [],t,h=>by
  have e:M5 [t]=t.data.toList:=by simp [M5]
  rw [e,Qe 10 (by rfl),Wo (h t List.mem_cons_self)]
 | u :: l,t,h=>by
  have e:M5 (t :: u :: l)=t.data.toList ++ 32 :: M5 (u :: l):=by simp [M5]
  rw [e,List.append_assoc,List.cons_append,Qe 32 (by rfl),Wo (h t List.mem_cons_self),Bfj r l u (fun v hv=>h v (List.mem_cons_of_mem _ hv))]
  rfl
def LnT (L:List (List ByteArray)):Prop:=∀ l,l∈L→l≠[]∧∀ t,t∈l→Tok t
theorem Bfi:∀ L:List (List ByteArray),LnT L→Su (He L) []=L.flatten
 | [],_=>rfl
 | [] :: L,h=>absurd rfl (h [] List.mem_cons_self).1
 | (t :: l) :: L,h=>by
  have e:He ((t :: l) :: L)=M5 (t :: l) ++ 10 :: He L:=by simp [He]
  rw [e,Bfj _ l t (h _ List.mem_cons_self).2,Bfi L (fun l hl=>h l (List.mem_cons_of_mem _ hl))]
  rfl
def Sv:List ByteArray→Nat
 | []=>0
 | t :: l=>t.size+1+Sv l
theorem U2:∀ l m:List ByteArray,Sv (l ++ m)=Sv l+Sv m
 | [],m=>by rw [List.nil_append,Sv,Nat.zero_add]
 | t :: l,m=>by rw [List.cons_append,Sv,Sv,U2 l m];omega
theorem Bfr (K:Nat):∀ l:List ByteArray,(∀ t,t∈l→t.size≤K)→Sv l≤l.length*(K+1)
 | [],_=>Nat.zero_le _
 | t :: l,h=>by
  have h1:=Bfr K l (fun u hu=>h u (List.mem_cons_of_mem _ hu))
  have h2:=h t List.mem_cons_self
  rw [Sv,List.length_cons,Nat.succ_mul]
  omega
theorem Bl6:∀ (l:List ByteArray) (t:ByteArray),(M5 (t :: l)).length+1=Sv (t :: l)
 | [],t=>by
  have hl:t.data.toList.length=t.size:=Array.length_toList
  simp only [M5,Sv,List.flatMap_nil,List.append_nil]
  omega
 | u :: l,t=>by
  have e:M5 (t :: u :: l)=t.data.toList ++ 32 :: M5 (u :: l):=by simp [M5]
  have hl:t.data.toList.length=t.size:=Array.length_toList
  have:=Bl6 l u
  rw [e,Ji,List.length_cons,Sv]
  omega
theorem Blu:∀ L:List (List ByteArray),(∀ l,l∈L→l≠[])→(He L).length=Sv L.flatten
 | [],_=>rfl
 | [] :: L,h=>absurd rfl (h [] List.mem_cons_self)
 | (t :: l) :: L,h=>by
  have e:He ((t :: l) :: L)=M5 (t :: l) ++ 10 :: He L:=by simp [He]
  have h1:=Blu L (fun l hl=>h l (List.mem_cons_of_mem _ hl))
  have h2:=Bl6 l t
  rw [e,Ji,List.length_cons,List.flatten_cons,U2]
  omega
def tP (T:Q3→ByteArray) (q:Q3 × Q3):ByteArray × ByteArray:=(T q.1,T q.2)
def tS (s:Nat × Nat × Bool):ByteArray × ByteArray × ByteArray:=(dg s.1,dg s.2.1,Py s.2.2)
theorem Bhr (T:Q3→ByteArray):∀ l:List (Q3 × Q3),(Mm T l).flatten=(l.map (tP T)).flatMap gP
 | []=>rfl
 | q :: l=>by
  have:=Bhr T l
  show _ :: _ :: (Mm T l).flatten=_ :: _ :: (l.map (tP T)).flatMap gP
  rw [this]
  rfl
theorem Bhq:∀ l:List (Nat × Nat × Bool),(lnS l).flatten=(l.map tS).flatMap gS
 | []=>rfl
 | q :: l=>by
  have:=Bhq l
  show _ :: _ :: _ :: (lnS l).flatten=_ :: _ :: _ :: (l.map tS).flatMap gS
  rw [this]
  rfl
theorem Sb (T:Q3→ByteArray) (p:Pl):(F4 T p).flatten=tk0 (dg p.pts.length) (dg p.segs.length) (dg p.holes.length) (p.pts.map (tP T)) (p.segs.map tS) (p.holes.map (tP T)) (p.F.map T) (p.G.map T):=by
 unfold F4 tk0 tk1 tk2 tk3
 simp only [List.flatten_append,Bhr,Bhq,List.flatten_cons,List.flatten_nil,List.append_nil,List.append_assoc,List.cons_append,List.nil_append]
theorem Mt:∀ n,n<100→Tok (dg n)∧Qq (dg n)=some n∧(dg n).size≤2:=by
 have h:∀ n,n<100→((dg n).size≠0∧(dg n).data.toList.all (fun x=>bl x.toNat == false)=true)∧Qq (dg n)=some n∧(dg n).size≤2:=by decide +kernel
 intro n hn
 obtain ⟨⟨h1,h2⟩,h3,h4⟩:=h n hn
 exact ⟨⟨h1,fun x hx=>by simpa using List.all_eq_true.1 h2 x hx⟩,h3,h4⟩
theorem Og {n:Nat} (hn:n<100) {m:Int} (h:(n:Int)≤m):Fm m (dg n)=some n:=by
 unfold Fm
 rw [(Mt n hn).2.1,Option.filter_eq_some_iff]
 exact ⟨rfl,decide_eq_true h⟩
theorem Vo (f:Bool):Tok (Py f)∧(Py f=tD∨Py f=tN)∧decide (Py f=tD)=f∧(Py f).size=1:=by
 cases f with
 | false=>exact ⟨⟨by decide,by decide⟩,Or.inr rfl,by decide,rfl⟩
 | true=>exact ⟨⟨by decide,by decide⟩,Or.inl rfl,by decide,rfl⟩
def Wf (P:ByteArray→Q3) (E:ByteArray→Int) (T:Q3→ByteArray) (q:Q3):Prop:=E (T q)=0∧P (T q)=q∧Tok (T q)∧(T q).size≤122
structure PlQ (Q:Q3→Prop) (p:Pl):Prop where
 l1:p.pts.length≤40
 l2:p.segs.length≤60
 l3:p.holes.length≤10
 f6:p.F.length=6
 g6:p.G.length=6
 q1:∀ q,q∈p.pts→Q q.1∧Q q.2
 q3:∀ q,q∈p.holes→Q q.1∧Q q.2
 s2:∀ s,s∈p.segs→s.1+1≤p.pts.length∧s.2.1+1≤p.pts.length
 qF:∀ q,q∈p.F→Q q
 qG:∀ q,q∈p.G→Q q
theorem PlQ.mono {Q R:Q3→Prop} {p:Pl} (h:PlQ Q p) (k:∀ q,Q q→R q):PlQ R p :=
 ⟨h.l1,h.l2,h.l3,h.f6,h.g6,fun q hq=>⟨k _ (h.q1 q hq).1,k _ (h.q1 q hq).2⟩,fun q hq=>⟨k _ (h.q3 q hq).1,k _ (h.q3 q hq).2⟩,h.s2,fun q hq=>k _ (h.qF q hq),fun q hq=>k _ (h.qG q hq)⟩
theorem Bm3 {P:ByteArray→Q3} {E:ByteArray→Int} {l:List ByteArray} {p:Pl} (h:Qb P E l=some p):PlQ (fun q=>∃ t,E t=0∧q=P t) p:=by
 obtain ⟨a1,a2,a3,a4,a5,a6,a7,a8,a9,a10⟩:=Bgt h
 exact ⟨a1,a2,a3,a4,a5,a6,a7,a8,a9,a10⟩
theorem N7 {α β:Type} {f:α→β} {g:β→α}:∀ {l:List α},(∀ x,x∈l→g (f x)=x)→(l.map f).map g=l
 | [],_=>rfl
 | x :: l,h=>by
  rw [List.map_cons,List.map_cons,h x List.mem_cons_self,N7 (fun y hy=>h y (List.mem_cons_of_mem _ hy))]
theorem Bd0 {P:ByteArray→Q3} {E:ByteArray→Int} {T:Q3→ByteArray} {p:Pl} (h:PlQ (Wf P E T) p):Qb P E (F4 T p).flatten=some p:=by
 have h1:=h.l1
 have h2:=h.l2
 have h3:=h.l3
 rw [Sb]
 have hP:∀ l:List (Q3 × Q3),(∀ q,q∈l→Wf P E T q.1∧Wf P E T q.2)→OkP E (l.map (tP T)):=fun l hl t ht=>by
  obtain ⟨q,hq,rfl⟩:=List.mem_map.1 ht
  exact ⟨(hl q hq).1.1,(hl q hq).2.1⟩
 have hE:∀ l:List Q3,(∀ q,q∈l→Wf P E T q)→∀ t,t∈l.map T→E t=0:=fun l hl t ht=>by
  obtain ⟨q,hq,rfl⟩:=List.mem_map.1 ht
  exact (hl q hq).1
 have hV:∀ l:List (Q3 × Q3),(∀ q,q∈l→Wf P E T q.1∧Wf P E T q.2)→(l.map (tP T)).map (vPJ P)=l:=fun l hl=>N7 fun q hq=>by
  show (P (T q.1),P (T q.2))=q
  rw [(hl q hq).1.2.1,(hl q hq).2.2.1]
 rw [Bjr (dg p.pts.length) (dg p.segs.length) (dg p.holes.length) (p.pts.map (tP T)) (p.segs.map tS) (p.holes.map (tP T)) (p.F.map T) (p.G.map T)
  (by rw [List.length_map];exact Og (by omega) (by omega)) (by rw [List.length_map];exact Og (by omega) (by omega)) (by rw [List.length_map];exact Og (by omega) (by omega))
  (hP _ h.q1) (fun t ht=>by
   obtain ⟨s,hs,rfl⟩:=List.mem_map.1 ht
   obtain ⟨c1,c2⟩:=h.s2 s hs
   rw [List.length_map]
   exact ⟨⟨s.1,Og (by omega) (by omega)⟩,⟨s.2.1,Og (by omega) (by omega)⟩,(Vo s.2.2).2.1⟩) (hP _ h.q3) (by rw [List.length_map];exact h.f6) (by rw [List.length_map];exact h.g6) (hE _ h.qF) (hE _ h.qG)]
 rw [hV _ h.q1,hV _ h.q3,N7 (fun q hq=>(h.qF q hq).2.1),N7 (fun q hq=>(h.qG q hq).2.1),N7 (fun s hs=>by
  obtain ⟨c1,c2⟩:=h.s2 s hs
  show ((Qq (dg s.1)).getD 0,(Qq (dg s.2.1)).getD 0,decide (Py s.2.2=tD))=s
  rw [(Mt s.1 (by omega)).2.1,(Mt s.2.1 (by omega)).2.1,(Vo s.2.2).2.2.1]
  rfl)]
theorem Bg9 {Q:ByteArray→Prop} {P:ByteArray→Q3} {E:ByteArray→Int} {T:Q3→ByteArray} {p:Pl} (h:PlQ (Wf P E T) p) (hQ:∀ q,Wf P E T q→Q (T q)) (hd:∀ n,n<100→Q (dg n)) (hk:∀ f,Q (Py f)) (hw:∀ c,c∈[wP,wV,wS,wH,wF,wG,wE]→Q c):∀ l,l∈F4 T p→l≠[]∧∀ t,t∈l→Q t:=by
 have h1:=h.l1
 have h2:=h.l2
 have h3:=h.l3
 have two:∀ (a b:ByteArray),Q a→Q b→∀ t,t∈[a,b]→Q t:=fun a b ha hb t ht=>by
  rcases List.mem_cons.1 ht with rfl | ht
  ·exact ha
  ·rw [List.mem_singleton.1 ht];exact hb
 have hP:∀ m:List (Q3 × Q3),(∀ q,q∈m→Wf P E T q.1∧Wf P E T q.2)→∀ l,l∈Mm T m→l≠[]∧∀ t,t∈l→Q t:=fun m hm l hl=>by
  obtain ⟨q,hq,rfl⟩:=List.mem_map.1 hl
  exact ⟨by simp,two _ _ (hQ _ (hm q hq).1) (hQ _ (hm q hq).2)⟩
 have hF:∀ (c:ByteArray) (m:List Q3),Q c→(∀ q,q∈m→Wf P E T q)→[c] ++ m.map T≠[]∧∀ t,t∈[c] ++ m.map T→Q t:=fun c m hc hm=>by
  refine ⟨by simp,fun t ht=>?_⟩
  rcases List.mem_append.1 ht with ht | ht
  ·rw [List.mem_singleton.1 ht];exact hc
  ·obtain ⟨q,hq,rfl⟩:=List.mem_map.1 ht
   exact hQ _ (hm q hq)
 intro l hl
 unfold F4 at hl
 simp only [List.mem_append,List.mem_cons,List.not_mem_nil,or_false] at hl
 rcases hl with ((((((rfl | rfl) | hl) | rfl) | hl) | rfl) | hl) | (rfl | rfl | rfl)
 ·exact ⟨by simp,fun t ht=>by rw [List.mem_singleton.1 ht];exact hw _ (by simp)⟩
 ·exact ⟨by simp,two _ _ (hw _ (by simp)) (hd _ (by omega))⟩
 ·exact hP _ h.q1 l hl
 ·exact ⟨by simp,two _ _ (hw _ (by simp)) (hd _ (by omega))⟩
 ·obtain ⟨s,hs,rfl⟩:=List.mem_map.1 hl
  obtain ⟨c1,c2⟩:=h.s2 s hs
  refine ⟨by simp,fun t ht=>?_⟩
  rcases List.mem_cons.1 ht with rfl | ht
  ·exact hd _ (by omega)
  ·exact two _ _ (hd _ (by omega)) (hk _) t ht
 ·exact ⟨by simp,two _ _ (hw _ (by simp)) (hd _ (by omega))⟩
 ·exact hP _ h.q3 l hl
 ·exact hF _ _ (hw _ (by simp)) h.qF
 ·exact hF _ _ (hw _ (by simp)) h.qG
 ·exact ⟨by simp,fun t ht=>by rw [List.mem_singleton.1 ht];exact hw _ (by simp)⟩
theorem Bht (T:Q3→ByteArray) (l:List (Q3 × Q3)) (h:∀ q,q∈l→(T q.1).size≤122∧(T q.2).size≤122):Sv ((l.map (tP T)).flatMap gP)≤l.length*246:=by
 induction l with
 | nil=>exact Jb _
 | cons q l ih =>
  have h1:=ih (fun q hq=>h q (List.mem_cons_of_mem _ hq))
  have h2:=h q List.mem_cons_self
  show (T q.1).size+1+((T q.2).size+1+Sv ((l.map (tP T)).flatMap gP))≤(l.length+1)*246
  omega
theorem Bhs (l:List (Nat × Nat × Bool)) (h:∀ s,s∈l→s.1<100∧s.2.1<100):Sv ((l.map tS).flatMap gS)≤l.length*8:=by
 induction l with
 | nil=>exact Jb _
 | cons s l ih =>
  have h1:=ih (fun q hq=>h q (List.mem_cons_of_mem _ hq))
  obtain ⟨c1,c2⟩:=h s List.mem_cons_self
  have d1:=(Mt s.1 c1).2.2
  have d2:=(Mt s.2.1 c2).2.2
  have d3:=(Vo s.2.2).2.2.2
  show (dg s.1).size+1+((dg s.2.1).size+1+((Py s.2.2).size+1+Sv ((l.map tS).flatMap gS)))≤(l.length+1)*8
  omega
theorem Bmd {P:ByteArray→Q3} {E:ByteArray→Int} {T:Q3→ByteArray} {p:Pl} (h:PlQ (Wf P E T) p):(Wi T p).size≤20000:=by
 have h1:=h.l1
 have h2:=h.l2
 have h3:=h.l3
 have hl:(Wi T p).size=(He (F4 T p)).length:=by
  show (He (F4 T p)).toArray.size=_
  rw [List.size_toArray]
 rw [hl,Blu _ (fun l hl=>(Bg9 (Q:=fun _=>True) h (fun _ _=>trivial) (fun _ _=>trivial) (fun _=>trivial) (fun _ _=>trivial) l hl).1),Sb]
 have sP:∀ m:List (Q3 × Q3),(∀ q,q∈m→Wf P E T q.1∧Wf P E T q.2)→Sv ((m.map (tP T)).flatMap gP)≤m.length*246:=fun m hm=>Bht T m fun q hq=>⟨(hm q hq).1.2.2.2,(hm q hq).2.2.2.2⟩
 have a1:=sP _ h.q1
 have a3:=sP _ h.q3
 have a2:=Bhs p.segs (fun s hs=>by have:=h.s2 s hs;omega)
 have six:∀ m:List Q3,m.length=6→(∀ q,q∈m→Wf P E T q)→Sv (m.map T)≤738:=fun m hm hq=>by
  have:=Bfr 122 (m.map T) (fun t ht=>by obtain ⟨q,hq',rfl⟩:=List.mem_map.1 ht;exact (hq q hq').2.2.2)
  rw [List.length_map,hm] at this
  exact this
 have a4:=six _ h.f6 h.qF
 have a5:=six _ h.g6 h.qG
 have b1:=(Mt p.pts.length (by omega)).2.2
 have b2:=(Mt p.segs.length (by omega)).2.2
 have b3:=(Mt p.holes.length (by omega)).2.2
 have cs:Sv [wE]=4:=rfl
 have w1:wP.size=4:=rfl
 have w2:wV.size=1:=rfl
 have w3:wS.size=1:=rfl
 have w4:wH.size=1:=rfl
 have w5:wF.size=1:=rfl
 have w6:wG.size=1:=rfl
 unfold tk0 tk1 tk2 tk3
 simp only [Sv,U2]
 simp only [Sv] at cs
 omega
theorem Xp {P:ByteArray→Q3} {E:ByteArray→Int} {T:Q3→ByteArray} {p:Pl} (h:PlQ (Wf P E T) p):Fi P E (Wi T p)=(p,0):=by
 have hs:=Bmd h
 have ht:Cy (Wi T p)=(F4 T p).flatten:=by
  rw [Bi3]
  show Su (He (F4 T p)).toArray.toList []=_
  rw [List.toList_toArray]
  exact Bfi _ (Bg9 h (fun q hq=>hq.2.2.1) (fun n hn=>(Mt n hn).1) (fun f=>(Vo f).1) (by
   intro c hc
   simp only [List.mem_cons,List.not_mem_nil,or_false] at hc
   rcases hc with rfl | rfl | rfl | rfl | rfl | rfl | rfl <;> exact ⟨by decide,by decide⟩))
 unfold Fi
 rw [if_neg (by omega),ht,Bd0 h]
open Go.RowKit Go.Shelf
def Pu:Go.Shelf.Ren:=⟨fun | 129=>251 | 171=>96 | 243=>154 | 246=>188 | 283=>218 | 284=>219 | 285=>220 | 286=>221 | 317=>250 | 318=>252 | 319=>253 | 320=>254 | 337=>271 | 338=>239 | n=>n,fun | 0=>0 | 2=>2 | 3=>3 | 4=>4 | 5=>5 | 9=>9 | 20=>20 | 37=>55 | 46=>217 | 51=>314 | 53=>170 | 171=>288 | 173=>291 | 212=>313 | 213=>315 | 232=>341 | 233=>328 | n=>n,fun | 17=>12 | 18=>17 | 19=>14 | n=>n⟩
theorem Bkj:Go.Proofs.Lays.n171 Tryz.prog Pu:={
 mixed:=by kernel_rfl
 f129:=Tryz.func251.trans (congrArg some (by kernel_rfl))
 f171:=Tryz.func96.trans (congrArg some (by kernel_rfl))
 f243:=Tryz.func154.trans (congrArg some (by kernel_rfl))
 f246:=Tryz.func188.trans (congrArg some (by kernel_rfl))
 f283:=Tryz.func218.trans (congrArg some (by kernel_rfl))
 f284:=Tryz.func219.trans (congrArg some (by kernel_rfl))
 f285:=Tryz.func220.trans (congrArg some (by kernel_rfl))
 f286:=Tryz.func221.trans (congrArg some (by kernel_rfl))
 f317:=Tryz.func250.trans (congrArg some (by kernel_rfl))
 f318:=Tryz.func252.trans (congrArg some (by kernel_rfl))
 f319:=Tryz.func253.trans (congrArg some (by kernel_rfl))
 f320:=Tryz.func254.trans (congrArg some (by kernel_rfl))
 f337:=Tryz.func271.trans (congrArg some (by kernel_rfl))
 f338:=Tryz.func239.trans (congrArg some (by kernel_rfl))
 t0:=Tryz.underlying0
 a0:=Tryz.isAgg0
 z0:=Tryz.sizeOf0
 v0:=Tryz.zeroValue0
 t2:=Tryz.underlying2
 a2:=Tryz.isAgg2
 z2:=Tryz.sizeOf2
 v2:=Tryz.zeroValue2
 t3:=Tryz.underlying3
 a3:=Tryz.isAgg3
 z3:=Tryz.sizeOf3
 v3:=Tryz.zeroValue3
 t4:=Tryz.underlying4
 a4:=Tryz.isAgg4
 z4:=Tryz.sizeOf4
 v4:=Tryz.zeroValue4
 t5:=Tryz.underlying5
 a5:=Tryz.isAgg5
 z5:=Tryz.sizeOf5
 v5:=Tryz.zeroValue5
 t9:=Tryz.underlying9
 a9:=Tryz.isAgg9
 z9:=Tryz.sizeOf9
 v9:=Tryz.zeroValue9
 t20:=Tryz.underlying20
 a20:=Tryz.isAgg20
 z20:=Tryz.sizeOf20
 v20:=Tryz.zeroValue20
 t37:=Tryz.underlying55
 a37:=Tryz.isAgg55
 z37:=Tryz.sizeOf55
 v37:=Tryz.zeroValue55
 t46:=Tryz.underlying217
 a46:=Tryz.isAgg217
 z46:=Tryz.sizeOf217
 v46:=Tryz.zeroValue217
 t51:=Tryz.underlying314
 a51:=Tryz.isAgg314
 z51:=Tryz.sizeOf314
 v51:=Tryz.zeroValue314
 t53:=Tryz.underlying170
 a53:=Tryz.isAgg170
 z53:=Tryz.sizeOf170
 v53:=Tryz.zeroValue170
 t171:=Tryz.underlying288
 a171:=Tryz.isAgg288
 z171:=Tryz.sizeOf288
 v171:=Tryz.zeroValue288
 t173:=Tryz.underlying291
 a173:=Tryz.isAgg291
 z173:=Tryz.sizeOf291
 v173:=Tryz.zeroValue291
 t212:=Tryz.underlying313
 a212:=Tryz.isAgg313
 z212:=Tryz.sizeOf313
 v212:=Tryz.zeroValue313
 t213:=Tryz.underlying315
 a213:=Tryz.isAgg315
 z213:=Tryz.sizeOf315
 t232:=Tryz.underlying341
 a232:=Tryz.isAgg341
 z232:=Tryz.sizeOf341
 v232:=Tryz.zeroValue341
 t233:=Tryz.underlying328
 a233:=Tryz.isAgg328
 z233:=Tryz.sizeOf328
 v233:=Tryz.zeroValue328
 g17:=by kernel_rfl
 g18:=by kernel_rfl
 g19:=by kernel_rfl }
theorem Bhh:Go.Proofs.LaysM.n171 Tryz.prog Pu:={ Bkj with
 i0:=by kernel_rfl
 i2:=by kernel_rfl
 i3:=by kernel_rfl
 i4:=by kernel_rfl
 i5:=by kernel_rfl
 i9:=by kernel_rfl
 i20:=by kernel_rfl
 i37:=by kernel_rfl
 i46:=by kernel_rfl
 i51:=by kernel_rfl
 i53:=by kernel_rfl
 i171:=by kernel_rfl
 i173:=by kernel_rfl
 i212:=by kernel_rfl
 i232:=by kernel_rfl
 i233:=by kernel_rfl
 m17:=by kernel_rfl
 m18:=by kernel_rfl
 m19:=by kernel_rfl }
theorem Ba6 {w:World} (k:Nat) (os:Array Obj):Below w.heap.size w (Go.Sort.grow (w.drewN k) os):=by
 have b:=below_drewN (Jg w.heap.size w) k
 refine b.trans ⟨rfl,rfl,rfl,?_,fun i hi=>?_⟩
 ·show (w.drewN k).heap.size≤((w.drewN k).heap ++ os).size
  simp
 ·show ((w.drewN k).heap ++ os)[i]?=_
  rw [Array.getElem?_append_left (Jl hi b.size)]
def IE (n:Int):ByteArray:=if -9223372036854775808≤n∧n≤9223372036854775807 then ⟨(Lib.itoa n).toArray⟩ else ⟨#[63]⟩
theorem Bc3 (n:Int):(IE n).size≤1000:=by
 unfold IE
 split
 ·rename_i h
  have:=Lib.itoa_length_le n h.1 h.2
  show (Lib.itoa n).toArray.size≤1000
  rw [List.size_toArray]
  omega
 ·decide
theorem Bl7 (n:Int) (h0:-9223372036854775808≤n) (h1:n≤9223372036854775807) (w:World) (hP:Ee w) :
  Calls Tryz.prog 96 #[.int .i64 n] w (Re w (I (IE n))):=by
 refine (Any.strconv_Itoa Bhh n h0 h1 w hP).mono ?_
 rintro e w' ⟨rfl,k,os,rfl⟩
 exact ⟨by unfold IE;rw [if_pos ⟨h0,h1⟩],Ba6 k os⟩
end Go.Proofs.YtnplifkgeeicjaaGreatDoor
