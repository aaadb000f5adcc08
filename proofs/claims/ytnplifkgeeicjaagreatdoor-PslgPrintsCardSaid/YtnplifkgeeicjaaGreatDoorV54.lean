import Derived.ChangeOld
import Derived.Deep.Slices
import Derived.Deep.Strs
import Derived.LaidMore
import Derived.Lay
import Derived.Lib.LaidTab
import Derived.OpenShut
import Derived.ProofKit
import Derived.SevenTiedAt
import Derived.Test.YtnplifkgeeicjaaGreatDoorCards
import Derived.Test.YtnplifkgeeicjaaGreatDoorTie
import Derived.WideShapes
import Derived.Test.YtnplifkgeeicjaaGreatDoorV50
import Derived.Test.YtnplifkgeeicjaaGreatDoorV52
set_option maxRecDepth 100000
namespace Go.Proofs.YtnplifkgeeicjaaGreatDoor
open Go.ChangeShapes Go.WideShapes Go.RowKit Go.Deep
theorem Vx:Tryz.prog.cellsOf 26=3:=by kernel_rfl
theorem Vy:Tryz.prog.cellsOf 30=6:=by kernel_rfl
theorem Bct:Tryz.prog.cellsOf 103=3:=by kernel_rfl
theorem Bk8:Tryz.prog.cellsOf 24=2:=by kernel_rfl
theorem Bk9:Tryz.prog.cellsOf 22=1:=by kernel_rfl
theorem Bcu:Tryz.prog.cellsOf 4=1:=by kernel_rfl
theorem Blb:Tryz.prog.cellsOf 3=1:=by kernel_rfl
theorem Bcs:Tryz.prog.cellsOf 28=18:=by kernel_rfl
theorem Bla:Tryz.prog.cellsOf 46=39:=by kernel_rfl
theorem Yo:Tryz.prog.cellsOf 43=1:=by kernel_rfl
theorem Bh8:Tryz.prog.cellsOf 44=1:=by kernel_rfl
section
variable {H:Type} {enc:TypeId × Value→H} {W:World} {base:Nat} {sp:Nat→Bool} {held:Bool}
theorem Vd {n:Nat} {cs:List Value} {x:DataW H × List MemPlace} (h:DataW.trod enc Tryz.prog W base sp held n 26 cs=some x):∃ q:Q3,cs=(D6 q.1 q.2.1 q.2.2):=by
 obtain ⟨y0,y1,m,hx,hl,hy0,hy1⟩:=trod_struct2 Tryz.underlying26 h
 obtain ⟨z0,z1,m',hx',hl',hz0,hz1⟩:=trod_struct2 Tryz.underlying24 hy0
 rw [Vx] at hl
 match cs,hl with
 | [c0,c1,c2],_ =>
  obtain ⟨n,e0,-⟩:=DataW.trod_bool Tryz.underlying4 hz0
  obtain ⟨s,e1,-⟩:=DataW.trod_string Tryz.underlying22 hz1
  obtain ⟨d,e2,-⟩:=DataW.trod_string Tryz.underlying22 hy1
  rw [Bcu] at e0
  rw [Bk9] at e1 e2
  rw [Bk8] at e0 e1
  simp at e0 e1 e2
  subst e0 e1 e2
  exact ⟨(n,s,d),rfl⟩
theorem Bb6 {n:Nat} {cs:List Value} {x:DataW H × List MemPlace} (h:DataW.trod enc Tryz.prog W base sp held n 30 cs=some x):∃ q:Q3 × Q3,cs=cP q:=by
 obtain ⟨y0,y1,m,hx,hl,hy0,hy1⟩:=trod_struct2 Tryz.underlying30 h
 rw [Vy] at hl
 obtain ⟨q,e0⟩:=Vd hy0
 obtain ⟨r,e1⟩:=Vd hy1
 rw [Vx] at e0 e1
 match cs,hl with
 | [c0,c1,c2,c3,c4,c5],_ =>
  simp at e0 e1
  obtain ⟨rfl,rfl,rfl⟩:=e0
  obtain ⟨rfl,rfl,rfl⟩:=e1
  exact ⟨(q,r),rfl⟩
theorem Bjt {n:Nat} {cs:List Value} {x:DataW H × List MemPlace} (h:DataW.trod enc Tryz.prog W base sp held n 103 cs=some x):∃ s:Int × Int × Bool,cs=cZ s∧Gg s.1∧Gg s.2.1:=by
 obtain ⟨y0,y1,y2,m,hx,hl,hy0,hy1,hy2⟩:=trod_struct3 Tryz.underlying103 h
 rw [Bct] at hl
 obtain ⟨a,e0,-,w0⟩:=DataW.trod_int Tryz.underlying3 hy0
 obtain ⟨b,e1,-,w1⟩:=DataW.trod_int Tryz.underlying3 hy1
 obtain ⟨f,e2,-⟩:=DataW.trod_bool Tryz.underlying4 hy2
 rw [Blb] at e0 e1
 rw [Bcu] at e2
 match cs,hl with
 | [c0,c1,c2],_ =>
  simp at e0 e1 e2
  subst e0 e1 e2
  refine ⟨(a,b,f),rfl,?_,?_⟩
  ·simp only [Lit.wf,Bool.and_eq_true,decide_eq_true_eq] at w0;exact w0
  ·simp only [Lit.wf,Bool.and_eq_true,decide_eq_true_eq] at w1;exact w1
theorem Bnw (a:Addr) (i j:Nat):(a.add i).add j=a.add (i+j):=by
 obtain ⟨b,off,s⟩:=a
 by_cases hi:i=0
 ·subst hi
  simp [Addr.add]
 ·by_cases hj:j=0
  ·subst hj
   simp [Addr.add]
  ·simp [Addr.add,hi,hj,Nat.add_assoc]
theorem Bo0 {w:World} {a:Addr} {v:Value} (h:w.cell? (a.add 0)=some v):∃ b off,a=⟨b,off,none⟩:=by
 obtain ⟨b,off,s⟩:=a
 cases s with
 | none=>exact ⟨b,off,rfl⟩
 | some x =>
  simp only [World.cell?,Addr.add,if_true] at h
  split at h
  ·simp at h
  ·cases h
theorem My {α:Type} {t e:TypeId} {z:Nat} (ht:Tryz.prog.underlying t=some (.slice e)) (hz:Tryz.prog.cellsOf e=z) (h0:0<z) (f:α→List Value) (hf:∀ a,(f a).length=z) (Q:α→Prop)
  (ho:∀ (n:Nat) (cs:List Value) (x:DataW H × List MemPlace),DataW.trod enc Tryz.prog W base sp held n e cs=some x→∃ a,cs=f a∧Q a) {n:Nat} {V:Value} {x:DataW H × List MemPlace} (h:DataW.trod enc Tryz.prog W base sp held n t [V]=some x) :
  ∃ (ao:Option Addr) (m c:Nat) (l:List α),V=.slice ao m c∧l.length=m∧B9 W z V (l.map f)∧(ao=none→c=0)∧∀ a,a∈l→Q a:=by
 rcases open_slice ht h with ⟨e0,-⟩ | ⟨a,len,cap,m,k,D,Pl,hcs,hb,hl,hm,hmm,rfl,hx⟩
 ·simp only [List.cons.injEq,and_true] at e0
  subst e0
  exact ⟨none,0,0,[],rfl,rfl,⟨none,0,rfl,Jb _,fun j x h=>by simp at h⟩,fun _=>rfl,fun a ha=>by cases ha⟩
 ·simp only [List.cons.injEq,and_true] at hcs
  subst hcs
  have hlm:len≤m:=by rw [hmm];split <;> omega
  have hab0:0<len→∃ b off,a=⟨b,off,none⟩:=by
   intro hp
   obtain ⟨cs',q1,q2⟩:=hx 0 (by omega)
   obtain ⟨y,rfl,-⟩:=ho _ _ _ q2
   rw [hz,Nat.zero_mul] at q1
   obtain ⟨-,-,hc⟩:=World.cells?_some q1
   have c0:=hc 0 h0
   rw [List.getElem?_eq_getElem (by rw [hf];exact h0),Bnw,Nat.add_zero] at c0
   exact Bo0 c0
  have one:∀ j,j<len→∃ y:α,Q y∧∃ b off,a=⟨b,off,none⟩∧b<W.heap.size∧W.rangeAt b (off+j*z) (f y):=by
   intro j hj
   obtain ⟨cs',q1,q2⟩:=hx j (by omega)
   obtain ⟨y,rfl,hQ⟩:=ho _ _ _ q2
   rw [hz] at q1
   obtain ⟨-,hl2,hc⟩:=World.cells?_some q1
   obtain ⟨b,off,hab⟩:=hab0 (by omega)
   subst hab
   refine ⟨y,hQ,b,off,rfl,?_,fun i v hv=>?_⟩
   ·have c0:=hc 0 h0
    rw [List.getElem?_eq_getElem (by rw [hf];exact h0)] at c0
    have:=World.block_lt_of_cell? W _ c0
    rw [Bnw,show (⟨b,off,none⟩:Addr).add (j*z+0)=⟨b,off+(j*z+0),none⟩ by simp [Addr.add]] at this
    exact this
   ·have hi:i<z:=by rw [← hf y];exact (List.getElem?_eq_some_iff.1 hv).1
    have:=hc i hi
    rw [hv,Bnw,show (⟨b,off,none⟩:Addr).add (j*z+i)=⟨b,off+(j*z+i),none⟩ by simp [Addr.add],← Nat.add_assoc] at this
    exact this
  obtain ⟨y,hy⟩:∃ y:Fin len→α,∀ j:Fin len,Q (y j)∧∃ b off,a=⟨b,off,none⟩∧b<W.heap.size∧W.rangeAt b (off+j.1*z) (f (y j)):=⟨fun j=>Classical.choose (one j.1 j.2),fun j=>Classical.choose_spec (one j.1 j.2)⟩
  refine ⟨some a,len,cap,List.ofFn y,rfl,List.length_ofFn,⟨some a,cap,by rw [List.length_map,List.length_ofFn],by rw [List.length_map,List.length_ofFn];exact hl,fun j x hj=>?_⟩,(fun h=>by cases h),fun b hb=>?_⟩
  ·rw [List.getElem?_map] at hj
   obtain ⟨b,hb,rfl⟩:=Option.map_eq_some_iff.1 hj
   have hjl:j<len:=by have:=(List.getElem?_eq_some_iff.1 hb).1;rwa [List.length_ofFn] at this
   rw [List.getElem?_ofFn,dif_pos hjl] at hb
   obtain rfl:=Option.some.inj hb
   obtain ⟨-,g,off,e,hg,hr⟩:=hy ⟨j,hjl⟩
   exact ⟨g,off,by rw [e],hg,hr⟩
  ·obtain ⟨j,rfl⟩:=List.mem_ofFn.1 hb
   exact (hy j).1
theorem Uc {n:Nat} {cs:List Value} {x:DataW H × List MemPlace} (h:DataW.trod enc Tryz.prog W base sp held n 28 cs=some x):∃ f:Nat→Q3,cs=C4 f:=by
 obtain ⟨xs,k,rfl,hx,hl,hn,hq⟩:=DataW.trod_array Tryz.underlying28 h
 have hg:∀ j,j<6→∃ q:Q3,(cs.drop (j*3)).take 3=(D6 q.1 q.2.1 q.2.2):=fun j hj=>by
  have h1:=hq j hj
  rw [Vx,List.getElem?_eq_getElem (show j<xs.length by omega)] at h1
  exact Vd h1
 rw [Bcs] at hl
 obtain ⟨q0,e0⟩:=hg 0 (by omega)
 obtain ⟨q1,e1⟩:=hg 1 (by omega)
 obtain ⟨q2,e2⟩:=hg 2 (by omega)
 obtain ⟨q3,e3⟩:=hg 3 (by omega)
 obtain ⟨q4,e4⟩:=hg 4 (by omega)
 obtain ⟨q5,e5⟩:=hg 5 (by omega)
 clear hg hq hx
 match cs,hl with
 | [c0,c1,c2,c3,c4,c5,c6,c7,c8,c9,c10,c11,c12,c13,c14,c15,c16,c17],_ =>
  simp at e0 e1 e2 e3 e4 e5
  obtain ⟨rfl,rfl,rfl⟩:=e0
  obtain ⟨rfl,rfl,rfl⟩:=e1
  obtain ⟨rfl,rfl,rfl⟩:=e2
  obtain ⟨rfl,rfl,rfl⟩:=e3
  obtain ⟨rfl,rfl,rfl⟩:=e4
  obtain ⟨rfl,rfl,rfl⟩:=e5
  exact ⟨fun i=>[q0,q1,q2,q3,q4,q5].getD i q0,rfl⟩
end
open Go.ChangeShapes Go.WideShapes Go.RowKit Go.Deep
theorem Xv {H:Type} {enc:TypeId × Value→H} {W:World} {base:Nat} {sp:Nat→Bool} {held:Bool} {fuel:Nat} {cs:List Value} {x:DataW H × List MemPlace} (h:DataW.trod enc Tryz.prog W base sp held fuel 46 cs=some x) :
  ∃ (a1 a2 a3:Option Addr) (n1 n2 n3 m1 m2 m3:Nat) (A1 A3:List (Q3 × Q3)) (A2:List (Int × Int × Bool)) (x y:Nat→Q3),cs=Dq (.slice a1 n1 m1) (.slice a2 n2 m2) (.slice a3 n3 m3) (C4 x) (C4 y)∧A1.length=n1∧A2.length=n2∧A3.length=n3 ∧
   (∀ s,s∈A2→Gg s.1∧Gg s.2.1)∧B9 W 6 (.slice a1 n1 m1) (A1.map cP)∧B9 W 3 (.slice a2 n2 m2) (A2.map cZ)∧B9 W 6 (.slice a3 n3 m3) (A3.map cP)∧(a1=none→m1=0)∧(a2=none→m2=0)∧(a3=none→m3=0):=by
 obtain ⟨xs,n,rfl,hx,hl,hlen,hf⟩:=DataW.trod_struct Tryz.underlying46 h
 have l5:xs.length=5:=hlen
 have t0:DataW.trod enc Tryz.prog W base sp held n 43 ((cs.drop 0).take (Tryz.prog.cellsOf 43))=xs[0]?:=hf 0 _ rfl
 have t1:DataW.trod enc Tryz.prog W base sp held n 44 ((cs.drop 1).take (Tryz.prog.cellsOf 44))=xs[1]?:=hf 1 _ rfl
 have t2:DataW.trod enc Tryz.prog W base sp held n 43 ((cs.drop 2).take (Tryz.prog.cellsOf 43))=xs[2]?:=hf 2 _ rfl
 have t3:DataW.trod enc Tryz.prog W base sp held n 28 ((cs.drop 3).take (Tryz.prog.cellsOf 28))=xs[3]?:=hf 3 _ rfl
 have t4:DataW.trod enc Tryz.prog W base sp held n 28 ((cs.drop 21).take (Tryz.prog.cellsOf 28))=xs[4]?:=hf 4 _ rfl
 rw [List.getElem?_eq_getElem (show 0<xs.length by omega)] at t0
 rw [List.getElem?_eq_getElem (show 1<xs.length by omega)] at t1
 rw [List.getElem?_eq_getElem (show 2<xs.length by omega)] at t2
 rw [List.getElem?_eq_getElem (show 3<xs.length by omega)] at t3
 rw [List.getElem?_eq_getElem (show 4<xs.length by omega)] at t4
 obtain ⟨f,ef⟩:=Uc t3
 obtain ⟨g,eg⟩:=Uc t4
 rw [Bcs] at ef eg
 rw [Bla] at hl
 clear hf hx h t3 t4
 match cs,hl with
 | c0 :: c1 :: c2 :: r,hl =>
  have lr:r.length=36:=by simp only [List.length_cons] at hl;omega
  have u0:DataW.trod enc Tryz.prog W base sp held n 43 [c0]=some (xs[0]'(by omega)):=by rw [← t0,Yo];rfl
  have u1:DataW.trod enc Tryz.prog W base sp held n 44 [c1]=some (xs[1]'(by omega)):=by rw [← t1,Bh8];rfl
  have u2:DataW.trod enc Tryz.prog W base sp held n 43 [c2]=some (xs[2]'(by omega)):=by rw [← t2,Yo];rfl
  clear t0 t1 t2
  obtain ⟨a1,n1,m1,A1,q1,e1,r1,z1,-⟩:=My Tryz.underlying43 Vy (by decide) cP D7 (fun _=>True) (fun n cs x h=>by obtain ⟨q,hq⟩:=Bb6 h;exact ⟨q,hq,trivial⟩) u0
  obtain ⟨a2,n2,m2,A2,q2,e2,r2,z2,s2⟩:=My Tryz.underlying44 Bct (by decide) cZ Vz (fun s=>Gg s.1∧Gg s.2.1) (fun n cs x h=>by obtain ⟨q,hq,w⟩:=Bjt h;exact ⟨q,hq,w⟩) u1
  obtain ⟨a3,n3,m3,A3,q3,e3,r3,z3,-⟩:=My Tryz.underlying43 Vy (by decide) cP D7 (fun _=>True) (fun n cs x h=>by obtain ⟨q,hq⟩:=Bb6 h;exact ⟨q,hq,trivial⟩) u2
  subst q1 q2 q3
  refine ⟨a1,a2,a3,n1,n2,n3,m1,m2,m3,A1,A3,A2,f,g,?_,e1,e2,e3,s2,r1,r2,r3,z1,z2,z3⟩
  have hf':r.take 18=C4 f:=ef
  have hg':(r.drop 18).take 18=C4 g:=eg
  have hr:r=C4 f ++ C4 g:=by rw [← hf',← hg',List.take_of_length_le (l:=r.drop 18) (by rw [List.length_drop];omega),List.take_append_drop]
  rw [hr]
open Go.ChangeShapes Go.WideShapes Go.ChangeAt Go.RowKit
theorem own:ownKnob Tryz.prog.godebug=none:=by kernel_rfl
theorem Bkm:laidOutB Tryz.prog=true:=by kernel_rfl
theorem Bnl:Tryz.prog.cellsOf 5=1:=by kernel_rfl
theorem Blc:Tryz.prog.cellsOf 328=64:=by kernel_rfl
theorem Bld:Tryz.prog.cellsOf 313=20:=by kernel_rfl
theorem Ble:Tryz.prog.cellsOf 170=1:=by kernel_rfl
def Bfq:List Int:=Lib.deBruijn64tab.map fun (n:Nat)=>(n:Int)
theorem Bo6:(Rows.laid_math_bits_deBruijn64tab:DataW Unit)=Lib.tabData .u8 Bfq:=by kernel_rfl
theorem Bn4:(Rows.laid_internal_strconv_uint64pow10:DataW Unit)=Lib.tabData .u64 Lib.pow10Tab:=by kernel_rfl
end Go.Proofs.YtnplifkgeeicjaaGreatDoor
