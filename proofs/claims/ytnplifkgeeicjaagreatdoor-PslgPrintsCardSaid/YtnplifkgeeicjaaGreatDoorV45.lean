import Derived.Test.YtnplifkgeeicjaaGreatDoorV34
import Derived.Test.YtnplifkgeeicjaaGreatDoorV42
import Derived.Test.YtnplifkgeeicjaaGreatDoorV43
set_option maxRecDepth 100000
set_option maxHeartbeats 4000000
namespace Go.Proofs.YtnplifkgeeicjaaGreatDoor
open Go.RowKit
theorem Bci {α:Type} (f:α→List Value) (z:Nat) (hf:∀ a,(f a).length=z):∀ (l:List α) (j:Nat) (a:α) (i:Nat) (v:Value),l[j]?=some a→(f a)[i]?=some v→(l.flatMap f)[z*j+i]?=some v
 | [],_,_,_,_,h,_=>by simp at h
 | b :: l,0,a,i,v,h,hv=>by
  have:b=a:=by simpa using h
  subst this
  rw [List.flatMap_cons,Nat.mul_zero,Nat.zero_add,List.getElem?_append_left (List.getElem?_eq_some_iff.1 hv).1]
  exact hv
 | b :: l,j+1,a,i,v,h,hv=>by
  have ih:=Bci f z hf l j a i v (by simpa using h) hv
  rw [List.flatMap_cons,List.getElem?_append_right (by rw [hf,Nat.mul_succ];omega),hf,show z*(j+1)+i - z=z*j+i by rw [Nat.mul_succ];omega]
  exact ih
def B9 (w:World) (z:Nat) (v:Value) (l:List (List Value)):Prop :=
 ∃ a c,v=.slice a l.length c∧l.length≤c∧∀ j x,l[j]?=some x→∃ g o,a=some ⟨g,o,none⟩∧g<w.heap.size∧w.rangeAt g (o+j*z) x
theorem B9.of {α:Type} {w:World} {B z:Nat} {ty:TypeId} {v:Value} {l:List α} (f:α→List Value) (hf:∀ a,(f a).length=z) (h:w.ownsRow B ty z v l.length (l.flatMap f)):B9 w z v (l.map f):=by
 have hc:=fun g hg=>h.cells (g:=g) hg
 have hlt:=h.lt
 rcases h.2 with ⟨rfl,hn⟩ | ⟨g,cap,cur,rfl,hb,hg,hcap,-⟩
 ·have:l=[]:=List.length_eq_zero_iff.mp hn
  subst this
  exact ⟨none,0,rfl,Jb _,fun j x h=>by simp at h⟩
 ·refine ⟨_,cap,by rw [List.length_map],by rw [List.length_map];exact hcap,fun j x hx=>⟨g,0,rfl,(hlt g rfl).2,fun i v hv=>?_⟩⟩
  rw [List.getElem?_map] at hx
  obtain ⟨a,ha,rfl⟩:=Option.map_eq_some_iff.1 hx
  have h1:=hc g rfl (z*j+i) v (Bci f z hf l j a i v ha hv)
  rw [Addr.add_mid,Nat.mul_comm z j,show 0+(j*z+i)=0+j*z+i by omega] at h1
  exact h1
theorem B9.b {w w':World} {z:Nat} {v:Value} {l:List (List Value)} (h:B9 w z v l) (k:Below w.heap.size w w'):B9 w' z v l:=by
 obtain ⟨a,c,rfl,hcp,hr⟩:=h
 refine ⟨a,c,rfl,hcp,fun j x hx=>?_⟩
 obtain ⟨g,o,rfl,hg,hc⟩:=hr j x hx
 exact ⟨g,o,rfl,Jl hg k.size,fun i v hv=>Bh (hc i v hv) k⟩
theorem B9.str {w:World} {v:Value} {t:ByteArray} {r:List ByteArray} (h:B9 w 1 v ((t :: r).map fun u=>[Value.string u])) :
  ∃ g o c,v=.slice (some ⟨g,o,none⟩) (r.length+1) c∧r.length+1≤c∧g<w.heap.size∧∀ j u,(t :: r)[j]?=some u→w.cell? ⟨g,o+j,none⟩=some (I u):=by
 obtain ⟨a,c,rfl,hcp,hr⟩:=h
 obtain ⟨g,o,rfl,hg,-⟩:=hr 0 [I t] rfl
 rw [List.length_map,List.length_cons] at hcp
 refine ⟨g,o,c,by rw [List.length_map,List.length_cons],hcp,hg,fun j u hu=>?_⟩
 obtain ⟨g',o',e,-,hc⟩:=hr j [I u] (by rw [List.getElem?_map,hu];rfl)
 injection e with e
 injection e with e1 e2
 subst e1 e2
 have:=hc 0 (I u) rfl
 rwa [Nat.mul_one,Nat.add_zero] at this
theorem D7 (p:Q3 × Q3):(cP p).length=6:=rfl
theorem Pf (p:Nat × Nat × Bool):(cS p).length=3:=rfl
abbrev dg (n:Nat):ByteArray:=⟨(Lib.decDigits n).toArray⟩
theorem Bhu (n:Nat) (h:n<100) (w:World):Calls Tryz.prog 188 #[.int .i64 (n:Nat),.int .i64 10] w (Re w (I (dg n))):=by
 have h1:(0:Int)≤(n:Int):=by omega
 have h2:(n:Int)<100:=by omega
 have HS:=Ba (fun w1=>Fl n h w1)
 go_enter Tryz.func188,Tryz.ntmps188
 go_wp2_with (go_at_call 218;refine (HS.out _).mono ?_;rintro e w1 ⟨rfl,rfl⟩)
 go_ret
 exact ⟨rfl,Jg _ _⟩
theorem Beh (n:Nat) (h:n<100) (w:World):Calls Tryz.prog 154 #[.int .i64 (n:Nat)] w (Re w (I (dg n))):=by
 have HS:=Ba (fun w1=>Bhu n h w1)
 go_enter Tryz.func154,Tryz.ntmps154
 go_wp2_with (go_at_call 188;refine (HS.out _).mono ?_;rintro e w1 ⟨rfl,b⟩)
 go_ret
 exact ⟨rfl,b⟩
theorem R6 (n:Nat) (h:n<100) (w:World):Calls Tryz.prog 96 #[.int .i64 (n:Nat)] w (Re w (I (dg n))):=by
 have HS:=Ba (fun w1=>Beh n h w1)
 go_enter Tryz.func96,Tryz.ntmps96
 go_wp2_with (go_at_call 154;refine (HS.out _).mono ?_;rintro e w1 ⟨rfl,b⟩)
 go_ret
 exact ⟨rfl,b⟩
def Py (f:Bool):ByteArray:=if f then ⟨#[100]⟩ else ⟨#[110]⟩
def M5:List ByteArray→List UInt8
 | []=>[]
 | t :: r=>t.data.toList ++ r.flatMap fun u=>32 :: u.data.toList
theorem Hr (B b:Nat) (bs:List Value) (s:ByteArray) (w:World) (h:Lib.BuilderAt 158 5 B b (.pointer (some ⟨b,0,none⟩)) bs w) (hlen:bs.length+s.size≤140737488355328) (hBw:B≤w.heap.size) :
  Calls Tryz.prog 100 #[.pointer (some ⟨b,0,none⟩),I s] w fun e w'=>e=.returned (.tuple #[.int .i64 s.size,.nilIface])∧(Lib.BuilderAt 158 5 B b (.pointer (some ⟨b,0,none⟩)) (bs ++ Lib.strCells s) w'∧Below B w w'):=Any.Builder_WriteString Vn Mi B b bs s w (Or.inr h) hlen hBw
theorem Bos (xn yn:Bool) (xs xd ys yd:ByteArray) (w1:World):(Op.equalIn 10000 30 ((qa2 xn xs xd yn ys yd)) ((qa2 xn xs xd yn ys yd))).run Tryz.prog w1=.ok true w1:=by
 rw [show (10000:Nat)=9999+1 from rfl]
 go_simp
theorem Bhj (t:ByteArray) (v:Value) (w:World) (hr:B9 w 1 v ([t].map fun u=>[Value.string u])) :
  Calls Tryz.prog 101 #[v,I ⟨#[32]⟩] w (Re w (I ⟨(M5 [t]).toArray⟩)):=by
 obtain ⟨g,o,c,rfl,hcp,hg,hc⟩:=B9.str hr
 have c0:=hc 0 t rfl
 have c0':w.cell? ⟨g,o,none⟩=some (I t):=c0
 clear hc hr
 go_enter Tryz.func101,Tryz.ntmps101
 go_wp2
 go_ret
 exact ⟨by simp [M5],Jg _ _⟩
theorem Bef (t:ByteArray) (r:List ByteArray) (v:Value) (w:World) (hr:B9 w 1 v ((t :: r).map fun u=>[Value.string u])) (hl:r.length≤1000) (h0:0<r.length) (hz:∀ u,u∈t :: r→u.size≤100000) :
  Calls Tryz.prog 101 #[v,I ⟨#[32]⟩] w (Re w (I ⟨(M5 (t :: r)).toArray⟩)):=by
 obtain ⟨g,o,c,rfl,hcp,hg,hc⟩:=B9.str hr
 have HC:=Ba hc
 have HZ:=Ba hz
 obtain ⟨n,hn⟩:∃ n,n=r.length:=⟨_,rfl⟩
 rw [← hn] at hl h0 hcp ⊢
 have HN:=Ba hn
 clear hc hz hr hn
 have n0:¬ ((n+1:Nat):Int)=0:=by omega
 have n1:¬ ((n+1:Nat):Int)=1:=by omega
 go_enter Tryz.func101,Tryz.ntmps101
 have hq:¬ (9223372036854775807:Int) / (n:Int)≤1:=by
  have:(2:Int)≤(9223372036854775807:Int) / (n:Int):=Int.le_ediv_of_mul_le (by omega) (by omega)
  omega
 go_upto_region 12 with fail
 clear hq
 go_loopw [5,41] (fun s i wr=>∃ k S:Nat,k≤n+1∧i=.int .i64 (k:Nat)∧s=.int .i64 (S:Nat)∧S≤n+100000*k∧wr=w) (fun _ i _=>n+1 - (intOf i).toNat)
 case atStart=>exact ⟨0,n,Nat.zero_le _,rfl,rfl,Jb _,rfl⟩
 case round =>
  obtain ⟨k,S,hk,rfl,rfl,hS,rfl⟩:=hrel
  by_cases hgo:k<n+1
  ·have hgo':(k:Int)<(n:Int)+1:=by omega
   have hgo'':(k:Int)<((n+1:Nat):Int):=by omega
   obtain ⟨u,hu⟩:∃ u,(t :: r)[k]?=some u:=⟨_,List.getElem?_eq_getElem (by rw [List.length_cons,← HN.out];exact hgo)⟩
   have cu:=HC.out k u hu
   have zu:=HZ.out u (List.mem_of_getElem? hu)
   have hb:¬ (u.size:Int) > 9223372036854775807 - (S:Int):=by omega
   clear hu
   go_wp2
   go_roundw
   case rel=>exact ⟨k+1,S+u.size,by omega,by go_num,by go_num,by omega,trivial⟩
   case measure=>simp [intOf];omega
  ·have hgo':¬ (k:Int)<(n:Int)+1:=by omega
   obtain ⟨w,hw⟩:∃ w,w=wr:=⟨_,rfl⟩
   subst hw
   go_upto_region 19 with fail
   obtain ⟨w0,hq,kb,b0⟩:=Es w [.pointer none,.slice none 0 0] 158
   rw [← hq]
   clear hq
   have hS':S≤281474976710656:=by omega
   have HG:=Sq w.heap.size w.heap.size S w0 (Jb _) kb b0.size hS'
   go_upto_region 20 with (go_at_call 158;refine HG.mono ?_;rintro e w1 ⟨rfl,A1,b1⟩)
   have HC1:=Ba (fun j u hu w2 (b:Below w.heap.size w w2)=>Bh (HC.out j u hu) b)
   have c0:w1.cell? ⟨g,o,none⟩=some (I t):=HC1.out 0 t rfl w1 (b0.trans b1)
   have zt:=HZ.out t (by simp)
   have HW:=Hr w.heap.size w.heap.size [] t w1 A1 (by simp;omega) (Nat.le_trans b0.size b1.size)
   clear HG A1 HC hS' hk hS hgo
   go_upto_region 21 with (go_at_call 100;refine HW.mono ?_;rintro e w2 ⟨rfl,A2,b2⟩)
   have B2:=(b0.trans b1).trans b2
   clear HW c0 b0 b1 b2 kb
   have A3:Lib.BuilderAt 158 5 w.heap.size w.heap.size (.pointer (some ⟨w.heap.size,0,none⟩)) (Lib.byteCells t.data.toList) w2:=A2
   clear A2
   go_upto_region 22 with fail
   go_loopw [65] (fun i wr=>∃ (k:Nat) (L:List UInt8),k≤n∧i=.int .i64 (k:Nat)∧Lib.BuilderAt 158 5 w.heap.size w.heap.size (.pointer (some ⟨w.heap.size,0,none⟩)) (Lib.byteCells L) wr∧L.length≤100000+100001*k∧Below w.heap.size w wr∧Hid (L=t.data.toList ++ (r.take k).flatMap fun u=>32 :: u.data.toList)) (fun i _=>n - (intOf i).toNat)
   case atStart=>exact ⟨0,t.data.toList,Nat.zero_le _,rfl,A3,by simpa using zt,B2,by show _=_;simp⟩
   case round =>
    obtain ⟨j,L,hj,rfl,A,hL,B,HL⟩:=hrel
    by_cases hg2:j<n
    ·have h1:(j:Int)<(n:Int):=by omega
     obtain ⟨u,hu⟩:∃ u,r[j]?=some u:=⟨_,List.getElem?_eq_getElem (by rw [← HN.out];exact hg2)⟩
     have cu:=HC1.out (j+1) u (by rw [Jm];exact hu) wr B
     have cu':wr.cell? ⟨g,o+1+j,none⟩=some (I u):=by rw [show o+1+j=o+(j+1) by omega];exact cu
     have zu:=HZ.out u (List.mem_cons_of_mem _ (List.mem_of_getElem? hu))
     have e1:L ++ 32 :: u.data.toList=t.data.toList ++ (r.take (j+1)).flatMap fun u=>32 :: u.data.toList:=by
      rw [List.take_add_one,hu,HL.out];simp
     have HE:=Ba e1
     have hsz:=B.size
     clear e1 hu cu HL
     have HW:=Ba (Hr w.heap.size w.heap.size (Lib.byteCells L) ⟨#[32]⟩ wr A (by rw [Lib.byteCells_length];show L.length+1≤_;omega) hsz)
     go_upto_region 25 with (go_at_call 100;refine HW.out.mono ?_;rintro e w4 ⟨rfl,A4,b4⟩)
     have HX:=Ba (Hr w.heap.size w.heap.size (Lib.byteCells L ++ Lib.strCells ⟨#[32]⟩) u w4 A4 (by rw [Ji,Lib.byteCells_length];show L.length+1+u.size≤_;omega) (Jf hsz b4.size))
     go_upto_region 26 with (go_at_call 100;refine HX.out.mono ?_;rintro e w5 ⟨rfl,A5,b5⟩)
     have B5:=(B.trans b4).trans b5
     have A6:Lib.BuilderAt 158 5 w.heap.size w.heap.size (.pointer (some ⟨w.heap.size,0,none⟩)) (Lib.byteCells (L ++ 32 :: u.data.toList)) w5:=by
      rw [show Lib.byteCells (L ++ 32 :: u.data.toList)=(Lib.byteCells L ++ Lib.strCells ⟨#[32]⟩) ++ Lib.strCells u by simp [Lib.byteCells,Lib.strCells]]
      exact A5
     have hlen:(L ++ 32 :: u.data.toList).length≤100000+100001*(j+1):=by
      rw [Ji,List.length_cons,show u.data.toList.length=u.size from Array.length_toList]
      omega
     clear HW HX A A4 A5 b4 b5 B cu'
     go_wp2
     go_roundw
     case rel=>exact ⟨j+1,L ++ 32 :: u.data.toList,by omega,by go_num,A6,hlen,B5,HE.out⟩
     case measure=>simp [intOf];omega
    ·have h1:¬ (j:Int)<(n:Int):=by omega
     have hjn:j=r.length:=by rw [← HN.out];omega
     have e2:L=M5 (t :: r):=by rw [HL.out,M5,hjn,List.take_length]
     have HS:=Ba (M7 w.heap.size w.heap.size L wr (Or.inr A) B.size)
     rw [e2] at HS
     clear hjn e2 HL A hL
     go_wp2_with (go_at_call 102;refine HS.out.mono ?_;rintro e w6 ⟨rfl,b6⟩)
     go_ret
     exact ⟨rfl,B.trans b6⟩
def cZ (s:Int × Int × Bool):List Value:=[.int .i64 s.1,.int .i64 s.2.1,Iz s.2.2]
theorem Vz (s:Int × Int × Bool):(cZ s).length=3:=rfl
theorem Du {x y:ByteArray} (h:x.toList=y.toList):x=y:=by
 rw [ByteArray.toList_eq,ByteArray.toList_eq] at h
 exact ByteArray.ext (Array.toList_inj.1 h)
theorem Bcm (xn yn xn' yn':Bool) (xs xd ys yd xs' xd' ys' yd':ByteArray) (h:¬ (((xn,xs,xd),yn,ys,yd):Q3 × Q3)=((xn',xs',xd'),yn',ys',yd')) (w1:World):(Op.equalIn 10000 30 ((qa2 xn xs xd yn ys yd)) ((qa2 xn' xs' xd' yn' ys' yd'))).run Tryz.prog w1=.ok false w1:=by
 rw [show (10000:Nat)=9999+1 from rfl]
 go_simp
 intro a1 a2 a3 a4 a5 a6
 exact h (by rw [a1,Du a2,Du a3,a4,Du a5,Du a6])
theorem Bcl (xa xb xa' xb':Int) (xf xf':Bool) (h:¬ (xa,xb,xf)=(xa',xb',xf')) (w1:World):(Op.equalIn 10000 103 (.agg #[.int .i64 xa,.int .i64 xb,Iz xf]) (.agg #[.int .i64 xa',.int .i64 xb',Iz xf'])).run Tryz.prog w1=.ok false w1:=by
 rw [show (10000:Nat)=9999+1 from rfl]
 go_simp
 intro a1 a2 a3
 exact h (by rw [a1,a2,a3])
theorem Bl9 (xa xb:Int) (xf:Bool) (w1:World):(Op.equalIn 10000 103 (.agg #[.int .i64 xa,.int .i64 xb,Iz xf]) (.agg #[.int .i64 xa,.int .i64 xb,Iz xf])).run Tryz.prog w1=.ok true w1:=by
 rw [show (10000:Nat)=9999+1 from rfl]
 go_simp
theorem Tq (va vb:Value) (A B:List (Q3 × Q3)) (hl:A.length≤100000) (w:World) (ha:B9 w 6 va (A.map cP)) (hb:B9 w 6 vb (B.map cP)) :
  Calls Tryz.prog 50 #[va,vb] w (Re w (Iz (decide (A=B)))):=by
 obtain ⟨aA,cA,rfl,-,hA⟩:=ha
 obtain ⟨aB,cB,rfl,-,hB⟩:=hb
 rw [List.length_map,List.length_map]
 obtain ⟨V,hV⟩:∃ V,V=decide (A=B):=⟨_,rfl⟩
 rw [← hV]
 by_cases hne:¬ A.length=B.length
 ·have HV:Hid (V=false):=by rw [hV];exact decide_eq_false fun e=>hne (by rw [e])
  have hne':¬ (A.length:Int)=(B.length:Int):=by omega
  have hne2:(((A.length:Nat):Int) == ((B.length:Nat):Int))=false:=beq_eq_false_iff_ne.2 hne'
  clear hV hA hB
  generalize A.length=n at *
  generalize B.length=m at *
  go_enter Tryz.func50,Tryz.ntmps50
  go_wp2
  go_ret
  exact ⟨by rw [HV.out];rfl,Jg _ _⟩
 replace hne:=Classical.not_not.1 hne
 have hBl:=hne.symm
 obtain ⟨n,hn⟩:∃ n,n=A.length:=⟨_,rfl⟩
 rw [← hn] at hl hBl ⊢
 rw [hBl]
 have HN:=Ba hn
 have HM:=Ba hBl
 have HA:=Ba hA
 have HB:=Ba hB
 have HV:=Ba hV
 clear hn hA hB hBl hV hne
 go_enter Tryz.func50,Tryz.ntmps50
 go_wp2
 go_loopw [5] (fun i wr=>∃ k:Nat,k≤n∧i=.int .i64 (k:Nat)∧Below w.heap.size w wr∧Hid (A.take k=B.take k)) (fun i _=>n - (intOf i).toNat)
 case atStart=>exact ⟨0,Nat.zero_le _,rfl,Jg _ _,rfl⟩
 case round =>
  obtain ⟨k,hk,rfl,bw,HE⟩:=hrel
  by_cases hgo:k<n
  ·have hgo':(k:Int)<(n:Int):=by omega
   obtain ⟨x,hx⟩:∃ x,A[k]?=some x:=⟨_,List.getElem?_eq_getElem (by rw [← HN.out];exact hgo)⟩
   obtain ⟨y,hy⟩:∃ x,B[k]?=some x:=⟨_,List.getElem?_eq_getElem (by rw [HM.out];exact hgo)⟩
   obtain ⟨gA,pA,rfl,lA,rA⟩:=HA.out k _ (by rw [List.getElem?_map,hx];rfl)
   obtain ⟨gB,pB,rfl,lB,rB⟩:=HB.out k _ (by rw [List.getElem?_map,hy];rfl)
   have bd:Below w.heap.size w wr.drew:=Ia bw (Fe wr)
   by_cases hxy:x=y
   ·have HE2:Hid (A.take (k+1)=B.take (k+1)):=by
     show _=_
     rw [List.take_add_one,List.take_add_one,hx,hy,hxy,HE.out]
    clear hx hy HE
    subst hxy
    obtain ⟨⟨xn,xs,xd⟩,yn,ys,yd⟩:=x
    have qA:wr.rangeAt gA (pA+k*6) (Ko xn xs xd yn ys yd):=fun i v hv=>Bh (rA i v hv) bw
    have qB:wr.rangeAt gB (pB+k*6) (Ko xn xs xd yn ys yd):=fun i v hv=>Bh (rB i v hv) bw
    clear rA rB HA HB HN lA lB HM HV
    have hE:=fun w1=>Bos xn yn xs xd ys yd w1
    go_wp2
    refine Jc (S:=fun w'=>w'.rangeAt gA (pA+k*6) (Ko xn xs xd yn ys yd)∧w'.rangeAt gB (pB+k*6) (Ko xn xs xd yn ys yd)) (by kernel_rfl) ⟨(World.rangeAt_drew _ _ _ _).2 qA,(World.rangeAt_drew _ _ _ _).2 qB⟩ (fun hS=>?_)
    clear qA qB bw
    generalize wr.drew=wd at *
    refine WA.start (n:=9) (by kernel_rfl) ?_
    refine WA.tp 0 rfl ?_
    refine WA.tp 1 rfl ?_
    refine WA.tp 4 rfl ?_
    refine WA.tp 5 rfl ?_
    refine WA.tp 2 rfl ?_
    refine WA.tp 3 rfl ?_ (hy:=Jd (by rfl) 30 _ rfl gA (pA+k*6) rfl (Ko xn xs xd yn ys yd) _ (fun w' h=>h.1) Tryz.underlying30 rfl (by kernel_rfl))
    refine WA.tp 6 rfl ?_
    refine WA.tp 7 rfl ?_ (hy:=Jd (by rfl) 30 _ rfl gB (pB+k*6) rfl (Ko xn xs xd yn ys yd) _ (fun w' h=>h.2) Tryz.underlying30 rfl (by kernel_rfl))
    refine WA.tp 8 rfl ?_
    refine WA.done (by kernel_rfl) ?_
    clear hS
    go_wp2
    go_roundw
    case rel=>exact ⟨k+1,by omega,by go_num,bd,HE2⟩
    case measure=>simp [intOf];omega
   ·have HF:Hid (V=false):=by
     show V=false
     rw [HV.out]
     refine decide_eq_false fun e=>hxy ?_
     rw [e,hy] at hx
     exact (Option.some.inj hx).symm
    clear hx hy HE HV
    obtain ⟨⟨xn,xs,xd⟩,yn,ys,yd⟩:=x
    obtain ⟨⟨xn',xs',xd'⟩,yn',ys',yd'⟩:=y
    have qA:wr.rangeAt gA (pA+k*6) (Ko xn xs xd yn ys yd):=fun i v hv=>Bh (rA i v hv) bw
    have qB:wr.rangeAt gB (pB+k*6) (Ko xn' xs' xd' yn' ys' yd'):=fun i v hv=>Bh (rB i v hv) bw
    clear rA rB HA HB HN lA lB HM
    have hE:=fun w1=>Bcm xn yn xn' yn' xs xd ys yd xs' xd' ys' yd' hxy w1
    go_wp2
    refine Jc (S:=fun w'=>w'.rangeAt gA (pA+k*6) (Ko xn xs xd yn ys yd)∧w'.rangeAt gB (pB+k*6) (Ko xn' xs' xd' yn' ys' yd')) (by kernel_rfl) ⟨(World.rangeAt_drew _ _ _ _).2 qA,(World.rangeAt_drew _ _ _ _).2 qB⟩ (fun hS=>?_)
    clear qA qB bw
    generalize wr.drew=wd at *
    refine WA.start (n:=9) (by kernel_rfl) ?_
    refine WA.tp 0 rfl ?_
    refine WA.tp 1 rfl ?_
    refine WA.tp 4 rfl ?_
    refine WA.tp 5 rfl ?_
    refine WA.tp 2 rfl ?_
    refine WA.tp 3 rfl ?_ (hy:=Jd (by rfl) 30 _ rfl gA (pA+k*6) rfl (Ko xn xs xd yn ys yd) _ (fun w' h=>h.1) Tryz.underlying30 rfl (by kernel_rfl))
    refine WA.tp 6 rfl ?_
    refine WA.tp 7 rfl ?_ (hy:=Jd (by rfl) 30 _ rfl gB (pB+k*6) rfl (Ko xn' xs' xd' yn' ys' yd') _ (fun w' h=>h.2) Tryz.underlying30 rfl (by kernel_rfl))
    refine WA.tp 8 rfl ?_
    refine WA.done (by kernel_rfl) ?_
    clear hS
    go_wp2
    go_ret
    exact ⟨by rw [HF.out];rfl,bd⟩
  ·have hgo':¬ (k:Int)<(n:Int):=by omega
   have HT:Hid (V=true):=by
    show V=true
    rw [HV.out]
    refine decide_eq_true ?_
    have:=HE.out
    rw [List.take_of_length_le (by rw [← HN.out];omega),List.take_of_length_le (by rw [HM.out];omega)] at this
    exact this
   go_wp2
   go_ret
   exact ⟨by rw [HT.out];rfl,bw⟩
theorem Bdj (va vb:Value) (A B:List (Int × Int × Bool)) (hl:A.length≤100000) (w:World) (ha:B9 w 3 va (A.map cZ)) (hb:B9 w 3 vb (B.map cZ)) :
  Calls Tryz.prog 51 #[va,vb] w (Re w (Iz (decide (A=B)))):=by
 obtain ⟨aA,cA,rfl,-,hA⟩:=ha
 obtain ⟨aB,cB,rfl,-,hB⟩:=hb
 rw [List.length_map,List.length_map]
 obtain ⟨V,hV⟩:∃ V,V=decide (A=B):=⟨_,rfl⟩
 rw [← hV]
 by_cases hne:¬ A.length=B.length
 ·have HV:Hid (V=false):=by rw [hV];exact decide_eq_false fun e=>hne (by rw [e])
  have hne':¬ (A.length:Int)=(B.length:Int):=by omega
  have hne2:(((A.length:Nat):Int) == ((B.length:Nat):Int))=false:=beq_eq_false_iff_ne.2 hne'
  clear hV hA hB
  generalize A.length=n at *
  generalize B.length=m at *
  go_enter Tryz.func51,Tryz.ntmps51
  go_wp2
  go_ret
  exact ⟨by rw [HV.out];rfl,Jg _ _⟩
 replace hne:=Classical.not_not.1 hne
 have hBl:=hne.symm
 obtain ⟨n,hn⟩:∃ n,n=A.length:=⟨_,rfl⟩
 rw [← hn] at hl hBl ⊢
 rw [hBl]
 have HN:=Ba hn
 have HM:=Ba hBl
 have HA:=Ba hA
 have HB:=Ba hB
 have HV:=Ba hV
 clear hn hA hB hBl hV hne
 go_enter Tryz.func51,Tryz.ntmps51
 go_wp2
 go_loopw [5] (fun i wr=>∃ k:Nat,k≤n∧i=.int .i64 (k:Nat)∧Below w.heap.size w wr∧Hid (A.take k=B.take k)) (fun i _=>n - (intOf i).toNat)
 case atStart=>exact ⟨0,Nat.zero_le _,rfl,Jg _ _,rfl⟩
 case round =>
  obtain ⟨k,hk,rfl,bw,HE⟩:=hrel
  by_cases hgo:k<n
  ·have hgo':(k:Int)<(n:Int):=by omega
   obtain ⟨x,hx⟩:∃ x,A[k]?=some x:=⟨_,List.getElem?_eq_getElem (by rw [← HN.out];exact hgo)⟩
   obtain ⟨y,hy⟩:∃ x,B[k]?=some x:=⟨_,List.getElem?_eq_getElem (by rw [HM.out];exact hgo)⟩
   obtain ⟨gA,pA,rfl,lA,rA⟩:=HA.out k _ (by rw [List.getElem?_map,hx];rfl)
   obtain ⟨gB,pB,rfl,lB,rB⟩:=HB.out k _ (by rw [List.getElem?_map,hy];rfl)
   have bd:Below w.heap.size w wr.drew:=Ia bw (Fe wr)
   by_cases hxy:x=y
   ·have HE2:Hid (A.take (k+1)=B.take (k+1)):=by
     show _=_
     rw [List.take_add_one,List.take_add_one,hx,hy,hxy,HE.out]
    clear hx hy HE
    subst hxy
    obtain ⟨xa,xb,xf⟩:=x
    have qA:wr.rangeAt gA (pA+k*3) [.int .i64 xa,.int .i64 xb,Iz xf]:=fun i v hv=>Bh (rA i v hv) bw
    have qB:wr.rangeAt gB (pB+k*3) [.int .i64 xa,.int .i64 xb,Iz xf]:=fun i v hv=>Bh (rB i v hv) bw
    clear rA rB HA HB HN lA lB HM HV
    have hE:=fun w1=>Bl9 xa xb xf w1
    go_wp2
    refine Jc (S:=fun w'=>w'.rangeAt gA (pA+k*3) [.int .i64 xa,.int .i64 xb,Iz xf]∧w'.rangeAt gB (pB+k*3) [.int .i64 xa,.int .i64 xb,Iz xf]) (by kernel_rfl) ⟨(World.rangeAt_drew _ _ _ _).2 qA,(World.rangeAt_drew _ _ _ _).2 qB⟩ (fun hS=>?_)
    clear qA qB bw
    generalize wr.drew=wd at *
    refine WA.start (n:=9) (by kernel_rfl) ?_
    refine WA.tp 0 rfl ?_
    refine WA.tp 1 rfl ?_
    refine WA.tp 4 rfl ?_
    refine WA.tp 5 rfl ?_
    refine WA.tp 2 rfl ?_
    refine WA.tp 3 rfl ?_ (hy:=Jd (by rfl) 103 _ rfl gA (pA+k*3) rfl [.int .i64 xa,.int .i64 xb,Iz xf] _ (fun w' h=>h.1) Tryz.underlying103 rfl (by kernel_rfl))
    refine WA.tp 6 rfl ?_
    refine WA.tp 7 rfl ?_ (hy:=Jd (by rfl) 103 _ rfl gB (pB+k*3) rfl [.int .i64 xa,.int .i64 xb,Iz xf] _ (fun w' h=>h.2) Tryz.underlying103 rfl (by kernel_rfl))
    refine WA.tp 8 rfl ?_
    refine WA.done (by kernel_rfl) ?_
    clear hS
    go_wp2
    go_roundw
    case rel=>exact ⟨k+1,by omega,by go_num,bd,HE2⟩
    case measure=>simp [intOf];omega
   ·have HF:Hid (V=false):=by
     show V=false
     rw [HV.out]
     refine decide_eq_false fun e=>hxy ?_
     rw [e,hy] at hx
     exact (Option.some.inj hx).symm
    clear hx hy HE HV
    obtain ⟨xa,xb,xf⟩:=x
    obtain ⟨xa',xb',xf'⟩:=y
    have qA:wr.rangeAt gA (pA+k*3) [.int .i64 xa,.int .i64 xb,Iz xf]:=fun i v hv=>Bh (rA i v hv) bw
    have qB:wr.rangeAt gB (pB+k*3) [.int .i64 xa',.int .i64 xb',Iz xf']:=fun i v hv=>Bh (rB i v hv) bw
    clear rA rB HA HB HN lA lB HM
    have hE:=fun w1=>Bcl xa xb xa' xb' xf xf' hxy w1
    go_wp2
    refine Jc (S:=fun w'=>w'.rangeAt gA (pA+k*3) [.int .i64 xa,.int .i64 xb,Iz xf]∧w'.rangeAt gB (pB+k*3) [.int .i64 xa',.int .i64 xb',Iz xf']) (by kernel_rfl) ⟨(World.rangeAt_drew _ _ _ _).2 qA,(World.rangeAt_drew _ _ _ _).2 qB⟩ (fun hS=>?_)
    clear qA qB bw
    generalize wr.drew=wd at *
    refine WA.start (n:=9) (by kernel_rfl) ?_
    refine WA.tp 0 rfl ?_
    refine WA.tp 1 rfl ?_
    refine WA.tp 4 rfl ?_
    refine WA.tp 5 rfl ?_
    refine WA.tp 2 rfl ?_
    refine WA.tp 3 rfl ?_ (hy:=Jd (by rfl) 103 _ rfl gA (pA+k*3) rfl [.int .i64 xa,.int .i64 xb,Iz xf] _ (fun w' h=>h.1) Tryz.underlying103 rfl (by kernel_rfl))
    refine WA.tp 6 rfl ?_
    refine WA.tp 7 rfl ?_ (hy:=Jd (by rfl) 103 _ rfl gB (pB+k*3) rfl [.int .i64 xa',.int .i64 xb',Iz xf'] _ (fun w' h=>h.2) Tryz.underlying103 rfl (by kernel_rfl))
    refine WA.tp 8 rfl ?_
    refine WA.done (by kernel_rfl) ?_
    clear hS
    go_wp2
    go_ret
    exact ⟨by rw [HF.out];rfl,bd⟩
  ·have hgo':¬ (k:Int)<(n:Int):=by omega
   have HT:Hid (V=true):=by
    show V=true
    rw [HV.out]
    refine decide_eq_true ?_
    have:=HE.out
    rw [List.take_of_length_le (by rw [← HN.out];omega),List.take_of_length_le (by rw [HM.out];omega)] at this
    exact this
   go_wp2
   go_ret
   exact ⟨by rw [HT.out];rfl,bw⟩
theorem Bbq (va vb:Value) (A B:List (Q3 × Q3)) (hl:A.length≤100000) (w:World) (ha:B9 w 6 va (A.map cP)) (hb:B9 w 6 vb (B.map cP)) :
  Calls Tryz.prog 103 #[va,vb] w (Re w (Iz (decide (A=B)))):=by
 obtain ⟨aA,cA,rfl,-,hA⟩:=ha
 obtain ⟨aB,cB,rfl,-,hB⟩:=hb
 rw [List.length_map,List.length_map]
 obtain ⟨V,hV⟩:∃ V,V=decide (A=B):=⟨_,rfl⟩
 rw [← hV]
 by_cases hne:¬ A.length=B.length
 ·have HV:Hid (V=false):=by rw [hV];exact decide_eq_false fun e=>hne (by rw [e])
  have hne':¬ (A.length:Int)=(B.length:Int):=by omega
  have hne2:(((A.length:Nat):Int) == ((B.length:Nat):Int))=false:=beq_eq_false_iff_ne.2 hne'
  clear hV hA hB
  generalize A.length=n at *
  generalize B.length=m at *
  go_enter Tryz.func103,Tryz.ntmps103
  go_wp2
  go_ret
  exact ⟨by rw [HV.out];rfl,Jg _ _⟩
 replace hne:=Classical.not_not.1 hne
 have hBl:=hne.symm
 obtain ⟨n,hn⟩:∃ n,n=A.length:=⟨_,rfl⟩
 rw [← hn] at hl hBl ⊢
 rw [hBl]
 have HN:=Ba hn
 have HM:=Ba hBl
 have HA:=Ba hA
 have HB:=Ba hB
 have HV:=Ba hV
 clear hn hA hB hBl hV hne
 go_enter Tryz.func103,Tryz.ntmps103
 go_wp2
 go_loopw [13] (fun i wr=>∃ k:Nat,k≤n∧i=.int .i64 (k:Nat)∧Below w.heap.size w wr∧Hid (A.take k=B.take k)) (fun i _=>n - (intOf i).toNat)
 case atStart=>exact ⟨0,Nat.zero_le _,rfl,Jg _ _,rfl⟩
 case round =>
  obtain ⟨k,hk,rfl,bw,HE⟩:=hrel
  by_cases hgo:k<n
  ·have hgo':(k:Int)<(n:Int):=by omega
   obtain ⟨x,hx⟩:∃ x,A[k]?=some x:=⟨_,List.getElem?_eq_getElem (by rw [← HN.out];exact hgo)⟩
   obtain ⟨y,hy⟩:∃ x,B[k]?=some x:=⟨_,List.getElem?_eq_getElem (by rw [HM.out];exact hgo)⟩
   obtain ⟨gA,pA,rfl,lA,rA⟩:=HA.out k _ (by rw [List.getElem?_map,hx];rfl)
   obtain ⟨gB,pB,rfl,lB,rB⟩:=HB.out k _ (by rw [List.getElem?_map,hy];rfl)
   have bd:Below w.heap.size w wr.drew:=Ia bw (Fe wr)
   by_cases hxy:x=y
   ·have HE2:Hid (A.take (k+1)=B.take (k+1)):=by
     show _=_
     rw [List.take_add_one,List.take_add_one,hx,hy,hxy,HE.out]
    clear hx hy HE
    subst hxy
    obtain ⟨⟨xn,xs,xd⟩,yn,ys,yd⟩:=x
    have qA:wr.rangeAt gA (pA+k*6) (Ko xn xs xd yn ys yd):=fun i v hv=>Bh (rA i v hv) bw
    have qB:wr.rangeAt gB (pB+k*6) (Ko xn xs xd yn ys yd):=fun i v hv=>Bh (rB i v hv) bw
    clear rA rB HA HB HN lA lB HM HV
    have hE:=fun w1=>Bos xn yn xs xd ys yd w1
    go_wp2
    refine Jc (S:=fun w'=>w'.rangeAt gA (pA+k*6) (Ko xn xs xd yn ys yd)∧w'.rangeAt gB (pB+k*6) (Ko xn xs xd yn ys yd)) (by kernel_rfl) ⟨(World.rangeAt_drew _ _ _ _).2 qA,(World.rangeAt_drew _ _ _ _).2 qB⟩ (fun hS=>?_)
    clear qA qB bw
    generalize wr.drew=wd at *
    refine WA.start (n:=9) (by kernel_rfl) ?_
    refine WA.tp 0 rfl ?_
    refine WA.tp 1 rfl ?_
    refine WA.tp 4 rfl ?_
    refine WA.tp 5 rfl ?_
    refine WA.tp 2 rfl ?_
    refine WA.tp 3 rfl ?_ (hy:=Jd (by rfl) 30 _ rfl gA (pA+k*6) rfl (Ko xn xs xd yn ys yd) _ (fun w' h=>h.1) Tryz.underlying30 rfl (by kernel_rfl))
    refine WA.tp 6 rfl ?_
    refine WA.tp 7 rfl ?_ (hy:=Jd (by rfl) 30 _ rfl gB (pB+k*6) rfl (Ko xn xs xd yn ys yd) _ (fun w' h=>h.2) Tryz.underlying30 rfl (by kernel_rfl))
    refine WA.tp 8 rfl ?_
    refine WA.done (by kernel_rfl) ?_
    clear hS
    go_wp2
    go_roundw
    case rel=>exact ⟨k+1,by omega,by go_num,bd,HE2⟩
    case measure=>simp [intOf];omega
   ·have HF:Hid (V=false):=by
     show V=false
     rw [HV.out]
     refine decide_eq_false fun e=>hxy ?_
     rw [e,hy] at hx
     exact (Option.some.inj hx).symm
    clear hx hy HE HV
    obtain ⟨⟨xn,xs,xd⟩,yn,ys,yd⟩:=x
    obtain ⟨⟨xn',xs',xd'⟩,yn',ys',yd'⟩:=y
    have qA:wr.rangeAt gA (pA+k*6) (Ko xn xs xd yn ys yd):=fun i v hv=>Bh (rA i v hv) bw
    have qB:wr.rangeAt gB (pB+k*6) (Ko xn' xs' xd' yn' ys' yd'):=fun i v hv=>Bh (rB i v hv) bw
    clear rA rB HA HB HN lA lB HM
    have hE:=fun w1=>Bcm xn yn xn' yn' xs xd ys yd xs' xd' ys' yd' hxy w1
    go_wp2
    refine Jc (S:=fun w'=>w'.rangeAt gA (pA+k*6) (Ko xn xs xd yn ys yd)∧w'.rangeAt gB (pB+k*6) (Ko xn' xs' xd' yn' ys' yd')) (by kernel_rfl) ⟨(World.rangeAt_drew _ _ _ _).2 qA,(World.rangeAt_drew _ _ _ _).2 qB⟩ (fun hS=>?_)
    clear qA qB bw
    generalize wr.drew=wd at *
    refine WA.start (n:=9) (by kernel_rfl) ?_
    refine WA.tp 0 rfl ?_
    refine WA.tp 1 rfl ?_
    refine WA.tp 4 rfl ?_
    refine WA.tp 5 rfl ?_
    refine WA.tp 2 rfl ?_
    refine WA.tp 3 rfl ?_ (hy:=Jd (by rfl) 30 _ rfl gA (pA+k*6) rfl (Ko xn xs xd yn ys yd) _ (fun w' h=>h.1) Tryz.underlying30 rfl (by kernel_rfl))
    refine WA.tp 6 rfl ?_
    refine WA.tp 7 rfl ?_ (hy:=Jd (by rfl) 30 _ rfl gB (pB+k*6) rfl (Ko xn' xs' xd' yn' ys' yd') _ (fun w' h=>h.2) Tryz.underlying30 rfl (by kernel_rfl))
    refine WA.tp 8 rfl ?_
    refine WA.done (by kernel_rfl) ?_
    clear hS
    go_wp2
    go_ret
    exact ⟨by rw [HF.out];rfl,bd⟩
  ·have hgo':¬ (k:Int)<(n:Int):=by omega
   have HT:Hid (V=true):=by
    show V=true
    rw [HV.out]
    refine decide_eq_true ?_
    have:=HE.out
    rw [List.take_of_length_le (by rw [← HN.out];omega),List.take_of_length_le (by rw [HM.out];omega)] at this
    exact this
   go_wp2
   go_ret
   exact ⟨by rw [HT.out];rfl,bw⟩
theorem Bjb (va vb:Value) (A B:List (Int × Int × Bool)) (hl:A.length≤100000) (w:World) (ha:B9 w 3 va (A.map cZ)) (hb:B9 w 3 vb (B.map cZ)) :
  Calls Tryz.prog 104 #[va,vb] w (Re w (Iz (decide (A=B)))):=by
 obtain ⟨aA,cA,rfl,-,hA⟩:=ha
 obtain ⟨aB,cB,rfl,-,hB⟩:=hb
 rw [List.length_map,List.length_map]
 obtain ⟨V,hV⟩:∃ V,V=decide (A=B):=⟨_,rfl⟩
 rw [← hV]
 by_cases hne:¬ A.length=B.length
 ·have HV:Hid (V=false):=by rw [hV];exact decide_eq_false fun e=>hne (by rw [e])
  have hne':¬ (A.length:Int)=(B.length:Int):=by omega
  have hne2:(((A.length:Nat):Int) == ((B.length:Nat):Int))=false:=beq_eq_false_iff_ne.2 hne'
  clear hV hA hB
  generalize A.length=n at *
  generalize B.length=m at *
  go_enter Tryz.func104,Tryz.ntmps104
  go_wp2
  go_ret
  exact ⟨by rw [HV.out];rfl,Jg _ _⟩
 replace hne:=Classical.not_not.1 hne
 have hBl:=hne.symm
 obtain ⟨n,hn⟩:∃ n,n=A.length:=⟨_,rfl⟩
 rw [← hn] at hl hBl ⊢
 rw [hBl]
 have HN:=Ba hn
 have HM:=Ba hBl
 have HA:=Ba hA
 have HB:=Ba hB
 have HV:=Ba hV
 clear hn hA hB hBl hV hne
 go_enter Tryz.func104,Tryz.ntmps104
 go_wp2
 go_loopw [13] (fun i wr=>∃ k:Nat,k≤n∧i=.int .i64 (k:Nat)∧Below w.heap.size w wr∧Hid (A.take k=B.take k)) (fun i _=>n - (intOf i).toNat)
 case atStart=>exact ⟨0,Nat.zero_le _,rfl,Jg _ _,rfl⟩
 case round =>
  obtain ⟨k,hk,rfl,bw,HE⟩:=hrel
  by_cases hgo:k<n
  ·have hgo':(k:Int)<(n:Int):=by omega
   obtain ⟨x,hx⟩:∃ x,A[k]?=some x:=⟨_,List.getElem?_eq_getElem (by rw [← HN.out];exact hgo)⟩
   obtain ⟨y,hy⟩:∃ x,B[k]?=some x:=⟨_,List.getElem?_eq_getElem (by rw [HM.out];exact hgo)⟩
   obtain ⟨gA,pA,rfl,lA,rA⟩:=HA.out k _ (by rw [List.getElem?_map,hx];rfl)
   obtain ⟨gB,pB,rfl,lB,rB⟩:=HB.out k _ (by rw [List.getElem?_map,hy];rfl)
   have bd:Below w.heap.size w wr.drew:=Ia bw (Fe wr)
   by_cases hxy:x=y
   ·have HE2:Hid (A.take (k+1)=B.take (k+1)):=by
     show _=_
     rw [List.take_add_one,List.take_add_one,hx,hy,hxy,HE.out]
    clear hx hy HE
    subst hxy
    obtain ⟨xa,xb,xf⟩:=x
    have qA:wr.rangeAt gA (pA+k*3) [.int .i64 xa,.int .i64 xb,Iz xf]:=fun i v hv=>Bh (rA i v hv) bw
    have qB:wr.rangeAt gB (pB+k*3) [.int .i64 xa,.int .i64 xb,Iz xf]:=fun i v hv=>Bh (rB i v hv) bw
    clear rA rB HA HB HN lA lB HM HV
    have hE:=fun w1=>Bl9 xa xb xf w1
    go_wp2
    refine Jc (S:=fun w'=>w'.rangeAt gA (pA+k*3) [.int .i64 xa,.int .i64 xb,Iz xf]∧w'.rangeAt gB (pB+k*3) [.int .i64 xa,.int .i64 xb,Iz xf]) (by kernel_rfl) ⟨(World.rangeAt_drew _ _ _ _).2 qA,(World.rangeAt_drew _ _ _ _).2 qB⟩ (fun hS=>?_)
    clear qA qB bw
    generalize wr.drew=wd at *
    refine WA.start (n:=9) (by kernel_rfl) ?_
    refine WA.tp 0 rfl ?_
    refine WA.tp 1 rfl ?_
    refine WA.tp 4 rfl ?_
    refine WA.tp 5 rfl ?_
    refine WA.tp 2 rfl ?_
    refine WA.tp 3 rfl ?_ (hy:=Jd (by rfl) 103 _ rfl gA (pA+k*3) rfl [.int .i64 xa,.int .i64 xb,Iz xf] _ (fun w' h=>h.1) Tryz.underlying103 rfl (by kernel_rfl))
    refine WA.tp 6 rfl ?_
    refine WA.tp 7 rfl ?_ (hy:=Jd (by rfl) 103 _ rfl gB (pB+k*3) rfl [.int .i64 xa,.int .i64 xb,Iz xf] _ (fun w' h=>h.2) Tryz.underlying103 rfl (by kernel_rfl))
    refine WA.tp 8 rfl ?_
    refine WA.done (by kernel_rfl) ?_
    clear hS
    go_wp2
    go_roundw
    case rel=>exact ⟨k+1,by omega,by go_num,bd,HE2⟩
    case measure=>simp [intOf];omega
   ·have HF:Hid (V=false):=by
     show V=false
     rw [HV.out]
     refine decide_eq_false fun e=>hxy ?_
     rw [e,hy] at hx
     exact (Option.some.inj hx).symm
    clear hx hy HE HV
    obtain ⟨xa,xb,xf⟩:=x
    obtain ⟨xa',xb',xf'⟩:=y
    have qA:wr.rangeAt gA (pA+k*3) [.int .i64 xa,.int .i64 xb,Iz xf]:=fun i v hv=>Bh (rA i v hv) bw
    have qB:wr.rangeAt gB (pB+k*3) [.int .i64 xa',.int .i64 xb',Iz xf']:=fun i v hv=>Bh (rB i v hv) bw
    clear rA rB HA HB HN lA lB HM
    have hE:=fun w1=>Bcl xa xb xa' xb' xf xf' hxy w1
    go_wp2
    refine Jc (S:=fun w'=>w'.rangeAt gA (pA+k*3) [.int .i64 xa,.int .i64 xb,Iz xf]∧w'.rangeAt gB (pB+k*3) [.int .i64 xa',.int .i64 xb',Iz xf']) (by kernel_rfl) ⟨(World.rangeAt_drew _ _ _ _).2 qA,(World.rangeAt_drew _ _ _ _).2 qB⟩ (fun hS=>?_)
    clear qA qB bw
    generalize wr.drew=wd at *
    refine WA.start (n:=9) (by kernel_rfl) ?_
    refine WA.tp 0 rfl ?_
    refine WA.tp 1 rfl ?_
    refine WA.tp 4 rfl ?_
    refine WA.tp 5 rfl ?_
    refine WA.tp 2 rfl ?_
    refine WA.tp 3 rfl ?_ (hy:=Jd (by rfl) 103 _ rfl gA (pA+k*3) rfl [.int .i64 xa,.int .i64 xb,Iz xf] _ (fun w' h=>h.1) Tryz.underlying103 rfl (by kernel_rfl))
    refine WA.tp 6 rfl ?_
    refine WA.tp 7 rfl ?_ (hy:=Jd (by rfl) 103 _ rfl gB (pB+k*3) rfl [.int .i64 xa',.int .i64 xb',Iz xf'] _ (fun w' h=>h.2) Tryz.underlying103 rfl (by kernel_rfl))
    refine WA.tp 8 rfl ?_
    refine WA.done (by kernel_rfl) ?_
    clear hS
    go_wp2
    go_ret
    exact ⟨by rw [HF.out];rfl,bd⟩
  ·have hgo':¬ (k:Int)<(n:Int):=by omega
   have HT:Hid (V=true):=by
    show V=true
    rw [HV.out]
    refine decide_eq_true ?_
    have:=HE.out
    rw [List.take_of_length_le (by rw [← HN.out];omega),List.take_of_length_le (by rw [HM.out];omega)] at this
    exact this
   go_wp2
   go_ret
   exact ⟨by rw [HT.out];rfl,bw⟩
theorem Bk7:Value.cells (.string { data:=#[] })=#[.string { data:=#[] }]:=by kernel_rfl
theorem Bjf (n:Nat) (hn:n≤1000000) (w:World) :
  ∃ w',(Instr.makeSlice 91 (.int .i64 n) (.int .i64 n)).run Tryz.prog w=.ok (.slice (some ⟨w.heap.size,0,none⟩) n n) w'∧Fq w' w.heap.size 9 n (fun _=>I ⟨#[]⟩)∧Below w.heap.size w w':=by
 obtain ⟨i0,hi,hz0,hz1,hz2⟩:=info_parts (show (Tryz.prog.info? 9).map (fun i=>(i.zero,i.size,i.bytes))=some (some (I ⟨#[]⟩),1,16) by kernel_rfl)
 have h:=run_make (P:=Tryz.prog) w 91 9 i0 (I ⟨#[]⟩) Tryz.underlying91 hi hz0 .i64 .i64 n n (by omega) (by omega) (by rw [hz2];omega) (by omega)
 rw [hz1,Bk7,Int.toNat_natCast,Nat.mul_one] at h
 refine ⟨_,h,⟨_,heap_alloc_new w _,size_madeCells _ _,fun i hi=>?_⟩,(Jg _ _).alloc (Jb _) _⟩
 simp [madeCells,hi,Nat.mod_one]
theorem Y4 {w:World} {ops:Array Oper} {rest:List Oper} {o:Oper} {a:Act} {Q:Exit→Act→World→Prop}
  (hg:o.guard=none) (l c:Operand) (hop:o.op=Op.makeSlice 91 l c) (L:Int) (n:Nat) (hl:a.eval l=.int .i64 L) (hc:a.eval c=.int .i64 L) (hL:L=(n:Int)) (hn:n≤1000000)
  (hK:∀ w1,Fq w1 w.heap.size 9 n (fun _=>I ⟨#[]⟩)→Below w.heap.size w w1→wpList Tryz.prog ops Q rest (a.put o.dst (.slice (some ⟨w.heap.size,0,none⟩) n n)) w1) :
  wpList Tryz.prog ops Q (o :: rest) a w:=by
 refine wpList_plain hg fun K hK'=>?_
 subst hL
 obtain ⟨w',hrun,hc',hb⟩:=Bjf n hn w
 unfold Oper.wp
 simp [execOp,hop,hl,hc,hrun,Result.andThen]
 exact hK' _ _ (hK _ hc' hb)
def ft8 (l:List ByteArray) (k i:Nat):Value:=if i<k then I (l.getD i eS) else I ⟨#[]⟩
theorem Bho (l:List ByteArray) (k:Nat) (t:ByteArray) (ht:l[k]?=some t) (i:Nat):(if i=k then Value.string t else ft8 l k i)=ft8 l (k+1) i:=by
 unfold ft8
 by_cases h:i=k
 ·subst h
  rw [if_pos rfl,if_pos (by omega),Jh,ht];rfl
 ·rw [if_neg h]
  by_cases h':i<k
  ·rw [if_pos h',if_pos (by omega)]
  ·rw [if_neg h',if_neg (by omega)]
theorem Bkr {w:World} {B g:Nat} {l:List ByteArray} (hB:B≤g) (hl:l.length≤1000000) (h:Fq w g 9 l.length (ft8 l l.length)):w.ownsRow B 9 1 (.slice (some ⟨g,0,none⟩) l.length l.length) l.length (l.map Value.string):=by
 obtain ⟨cs,h1,h2,h3⟩:=h
 refine ⟨by simp,Or.inr ⟨g,l.length,cs,rfl,hB,h1,Nat.le_refl _,by unfold maxLen;omega,by rw [h2,Nat.mul_one],?_⟩⟩
 apply List.ext_getElem?
 intro i
 by_cases hi:i<l.length
 ·rw [List.getElem?_take_of_lt (by omega),Array.getElem?_toList,h3 i hi,List.getElem?_map,List.getElem?_eq_getElem hi]
  unfold ft8
  rw [if_pos hi,Jh,List.getElem?_eq_getElem hi];rfl
 ·rw [List.getElem?_eq_none (by simp;omega),List.getElem?_eq_none (by simp;omega)]
def cQ (q:Q3):List Value:=(D6 q.1 q.2.1 q.2.2)
def TX (T:Q3→ByteArray) (q:Q3) (w:World):Prop:=∀ w1,Below w.heap.size w w1→Calls Tryz.prog 155 #[(D8 q.1 q.2.1 q.2.2)] w1 fun e w'=>∃ t E,e=.returned (.tuple #[I t,.int .i64 E])∧T q=(if E=0 then t else ⟨#[63]⟩)∧Below w1.heap.size w1 w'
theorem Ls (T:Q3→ByteArray) (l:List Q3) (hl:l.length≤1000) (v:Value) (w:World) (hr:B9 w 3 v (l.map cQ)) (hT:∀ q,q∈l→TX T q w) :
  Calls Tryz.prog 97 #[v] w fun e w'=>∃ v',e=.returned v'∧w'.ownsRow w.heap.size 9 1 v' l.length ((l.map T).map Value.string)∧Below w.heap.size w w':=by
 obtain ⟨a,c,rfl,hcp,hR⟩:=hr
 rw [List.length_map] at hcp ⊢
 obtain ⟨n,hn⟩:∃ n,n=l.length:=⟨_,rfl⟩
 rw [← hn] at hl hcp ⊢
 have HN:=Ba hn
 have HR:=Ba hR
 have HT:=Ba hT
 clear hn hR hT
 go_enter Tryz.func97,Tryz.ntmps97
 go_upto_region 3 with (refine Y4 rfl _ _ rfl _ n rfl rfl rfl (by omega) (fun w1 kc b1=>?_))
 go_loopw [13] (fun i wr=>∃ k:Nat,k≤n∧i=.int .i64 (k:Nat)∧Fq wr w.heap.size 9 n (ft8 (l.map T) k)∧Below w.heap.size w wr) (fun i _=>n - (intOf i).toNat)
 case atStart=>exact ⟨0,Nat.zero_le _,rfl,kc.congr (fun i _=>by unfold ft8;rw [if_neg (by omega)]),b1⟩
 case round =>
  obtain ⟨k,hk,rfl,kc,bw⟩:=hrel
  by_cases hgo:k<n
  ·have hgo':(k:Int)<(n:Int):=by omega
   obtain ⟨q,hq⟩:∃ q,l[k]?=some q:=⟨_,List.getElem?_eq_getElem (by rw [← HN.out];exact hgo)⟩
   obtain ⟨g,o,rfl,hg,hc⟩:=HR.out k _ (by rw [List.getElem?_map,hq];rfl)
   have HQ:=HT.out q (List.mem_of_getElem? hq)
   have hqt:(l.map T)[k]?=some (T q):=by rw [List.getElem?_map,hq];rfl
   obtain ⟨n0,s0,d0⟩:=q
   have qA:wr.rangeAt g (o+k*3) (D6 n0 s0 d0):=fun i v hv=>Bh (hc i v hv) bw
   clear hc hq HR HT HN
   have hsz:=bw.size
   go_upto_region 5 with (refine wpList_load_mid rfl 26 _ rfl g (o+k*3) rfl (D6 n0 s0 d0) _ qA Tryz.underlying26 rfl (by kernel_rfl) ?_)
   obtain ⟨w0,hq,kb,b0⟩:=Es wr (D6 n0 s0 d0) 26
   rw [← hq]
   clear hq
   go_upto_region 6 with (first | (refine Je rfl 26 _ rfl _ rfl 26 _ (0,0) _ kb Tryz.underlying26 rfl (by kernel_rfl) ?_) | (go_at_call 155;refine (HQ _ (Ia bw b0)).mono ?_;rintro e w3 ⟨t,E,rfl,hTq,b3⟩))
   have k3:=(kc.b b0).b b3
   have B3:=Ia (Ia bw b0) b3
   have q0:=k3.cell hgo
   have f0:=k3.o k
   clear kb b0 b3 HQ qA kc bw hg hsz
   by_cases hE:E=0
   ·rw [if_pos hE] at hTq
    rw [hTq] at hqt
    have hup:=Ba (Bho (l.map T) k t hqt)
    clear hTq hqt
    subst hE
    go_wp2
    go_roundw
    case rel=>exact ⟨k+1,by omega,by go_num,(k3.set k (I t)).congr (fun i _=>hup.out i),B3.setCell (p:=⟨w.heap.size,k,none⟩) (Jb _) _⟩
    case measure=>simp [intOf];omega
   ·rw [if_neg hE] at hTq
    rw [hTq] at hqt
    have hup:=Ba (Bho (l.map T) k _ hqt)
    clear hTq hqt
    go_wp2
    go_roundw
    case rel=>exact ⟨k+1,by omega,by go_num,(k3.set k (I ⟨#[63]⟩)).congr (fun i _=>hup.out i),B3.setCell (p:=⟨w.heap.size,k,none⟩) (Jb _) _⟩
    case measure=>simp [intOf];omega
  ·have hkn:k=l.length:=by rw [← HN.out];omega
   have hgo':¬ (k:Int)<(n:Int):=by omega
   subst hkn
   go_wp2
   go_ret
   have hrow:=Bkr (l:=l.map T) (B:=w.heap.size) (Jb _) (by rw [List.length_map,← HN.out];omega) (by rw [List.length_map,← HN.out];rw [← HN.out] at kc;exact kc)
   rw [List.length_map] at hrow
   refine ⟨_,rfl,?_,bw⟩
   rw [HN.out]
   rw [List.map_map] at hrow
   exact hrow
theorem Bma (s:ByteArray) (i:Nat) (h:i<s.size):bt s i=(s[i]'h).toNat:=by
 unfold bt
 show (s.data[i]!).toNat=(s.data[i]'h).toNat
 rw [getElem!_pos s.data i h]
theorem Bow {x:UInt8} (h:bl x.toNat=false):¬ (x.toNat:Int)=32∧¬ (x.toNat:Int)=9∧¬ (x.toNat:Int)=10:=by
 unfold bl at h
 simp at h
 omega
theorem Bnq {x:UInt8} (h:bl x.toNat=true):x=32∨x=9∨x=10:=by
 unfold bl at h
 simp at h
 rcases h with h | h | h
 ·exact Or.inl (UInt8.toNat.inj h)
 ·exact Or.inr (Or.inl (UInt8.toNat.inj h))
 ·exact Or.inr (Or.inr (UInt8.toNat.inj h))
def TkI (s:ByteArray) (D:List ByteArray) (a i:Nat):Prop:=if i≤s.size then D ++ Pj s (s.size - i) a i=Cy s else D=Cy s
theorem TkI.more {s:ByteArray} {D:List ByteArray} {a i:Nat} (h:TkI s D a i) (hi:i<s.size) (hb:bl (bt s i)=false):TkI s D a (i+1):=by
 unfold TkI at h ⊢
 rw [if_pos (by omega),show s.size - i=(s.size - (i+1))+1 by omega,Pj,if_neg (by rw [hb];decide)] at h
 rw [if_pos (by omega)]
 exact h
theorem TkI.stop {s:ByteArray} {D:List ByteArray} {a i:Nat} (h:TkI s D a i) (hi:i≤s.size) (hb:i<s.size→bl (bt s i)=true):TkI s (D ++ (if a<i then [s.extract a i] else [])) (i+1) (i+1):=by
 unfold TkI at h ⊢
 rw [if_pos hi] at h
 by_cases hlt:i<s.size
 ·rw [show s.size - i=(s.size - (i+1))+1 by omega,Pj,if_pos (hb hlt)] at h
  rw [if_pos (by omega),← h]
  split <;> simp
 ·rw [show s.size - i=0 by omega,Pj] at h
  rw [if_neg (by omega)]
  exact h
theorem Y9 (s:ByteArray) (w:World) (hs:s.size≤900000):Calls Tryz.prog 44 #[I s] w fun e w'=>∃ v,e=.returned v ∧
  w'.ownsRow w.heap.size 9 1 v (Cy s).length ((Cy s).map Value.string)∧Below w.heap.size w w':=by
 go_enter Tryz.func44,Tryz.ntmps44
 go_wp2_with fail
 go_loopw [3,4,5] (fun v f c wr=>∃ (i a:Nat) (D:List ByteArray),i≤s.size+1∧a≤i∧c=.int .i64 (i:Nat)∧f=.int .i64 (a:Nat)∧wr.ownsRow w.heap.size 9 1 v D.length (D.map Value.string)∧D.length≤i∧Hid (TkI s D a i)∧Below w.heap.size w wr) (fun _ _ c _=>s.size+1 - (intOf c).toNat)
 case atStart=>exact ⟨0,0,[],by omega,Jb _,rfl,rfl,World.ownsRow_nil _ _ _ _,Jb _,by show TkI _ _ _ _;unfold TkI;rw [if_pos (Nat.zero_le _)];rfl,Jg _ _⟩
 case round =>
  obtain ⟨i,a,D,hi,ha,rfl,rfl,ho,hD,hT,hb⟩:=hrel
  by_cases hlt:i≤s.size
  ·have hle:(i:Int)≤(s.size:Int):=by omega
   by_cases hn:i<s.size∧bl (bt s i)=false
   ·obtain ⟨h1,h2⟩:=hn
    have HT:=Ba (hT.out.more h1 h2)
    rw [Bma s i h1] at h2
    have h1':(i:Int)<(s.size:Int):=by omega
    generalize hx:s[i]'h1=x at h2
    obtain ⟨n1,n2,n3⟩:=Bow h2
    have m1:((x.toNat:Int) != 32)=true:=by simp [n1]
    have m2:((x.toNat:Int) != 9)=true:=by simp [n2]
    have m3:((x.toNat:Int) != 10)=true:=by simp [n3]
    clear hT h2 n1 n2 n3
    go_wp2_with fail
    go_roundw
    case rel=>exact ⟨i+1,a,D,by omega,by omega,by go_num,rfl,ho,by omega,HT,hb⟩
    case measure=>simp [intOf];omega
   ·have hq:i<s.size→bl (bt s i)=true:=fun h=>by
     cases hc:bl (bt s i) with
     | true=>rfl
     | false=>exact absurd ⟨h,hc⟩ hn
    have HT:=Ba (hT.out.stop hlt hq)
    have hcase:(∃ (h:i<s.size) (x:UInt8),s[i]'h=x∧(x=32∨x=9∨x=10))∨¬ i<s.size:=by
     by_cases h:i<s.size
     ·exact Or.inl ⟨h,_,rfl,Bnq (by rw [← Bma s i h];exact hq h)⟩
     ·exact Or.inr h
    clear hT hq hn
    by_cases hai:a<i
    ·have hai':(a:Int)<(i:Int):=by omega
     rw [if_pos hai] at HT
     rcases hcase with ⟨h1,x,hx,rfl | rfl | rfl⟩ | hge
     all_goals
      have hc1:(i:Int)<(s.size:Int)∨¬ (i:Int)<(s.size:Int):=by omega
      rcases hc1 with hc1 | hc1
      all_goals try (exfalso;omega;done)
      all_goals
       go_wp2_with (refine Ex 91 9 (I eS) 1 16 Tryz.underlying91 (by kernel_rfl) rfl (by decide) (by decide) rfl (.tmp 37) (.tmp 42) rfl _ D.length _ rfl w.heap.size (ho.alloc _) (Jf hb.size (by simp)) wr.heap.size 1 rfl [I (s.extract a i)] 9 (Bi.new _ _ _) rfl (by simp [Value.oneCell']) (by omega) ?_;intro v' w4 h4 h5)
       go_roundw
       case rel =>
        have ho3:=ho.alloc (.cells #[I (s.extract a i)] 9)
        refine ⟨i+1,i+1,D ++ [s.extract a i],by omega,Jb _,by go_num,by go_num,?_,by simp;omega,HT,?_⟩
        ·rw [Ji,List.map_append];exact h4
        ·exact (hb.alloc hb.size _).grown h5 (Jf hb.size (by simp)) (fun g hg=>(ho3.lt g hg).1)
       case measure=>simp [intOf];omega
    ·have hai':¬ (a:Int)<(i:Int):=by omega
     rw [if_neg hai,List.append_nil] at HT
     rcases hcase with ⟨h1,x,hx,rfl | rfl | rfl⟩ | hge
     all_goals
      have hc1:(i:Int)<(s.size:Int)∨¬ (i:Int)<(s.size:Int):=by omega
      rcases hc1 with hc1 | hc1
      all_goals try (exfalso;omega;done)
      all_goals
       go_wp2_with fail
       go_roundw
       case rel=>exact ⟨i+1,i+1,D,by omega,Jb _,by go_num,by go_num,ho,by omega,HT,hb⟩
       case measure=>simp [intOf];omega
  ·have hle:¬ (i:Int)≤(s.size:Int):=by omega
   have hD2:D=Cy s:=by
    have:=hT.out
    unfold TkI at this
    rwa [if_neg hlt] at this
   clear hT
   go_wp2_with fail
   go_ret
   exact ⟨_,rfl,by rw [← hD2];exact ho,hb⟩
end Go.Proofs.YtnplifkgeeicjaaGreatDoor
