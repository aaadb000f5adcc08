import Derived.ArgAppend
import Derived.Deep.CutBlock
import Derived.Deep.Upon
import Derived.Laws.AppendOwnNone
import Derived.Lib.AppendIntMem
import Derived.Lib.AppendZeros
import Derived.Lib.BufferGrow
import Derived.Lib.SliceRun
import Derived.Maps.AppendAt
import Derived.Shelf.LaysM
import Derived.Shelf.Strconv.Itoa2
import Derived.Test.YtnplifkgeeicjaaGreatDoorV28
import Derived.Test.YtnplifkgeeicjaaGreatDoorV32
import Derived.Test.YtnplifkgeeicjaaGreatDoorV41
set_option maxRecDepth 100000
set_option maxHeartbeats 4000000
namespace Go.Proofs.YtnplifkgeeicjaaGreatDoor
open Go.RowKit
def Sen (R:Nat) (w:World) (g:Nat) (a:Addr):Prop :=
 g<R∧a.block<R∧w.cell? ⟨g,0,none⟩=some (.iface 348 (.pointer (some a)))∧∃ c t,w.heap[a.block]?=some (.cells c t (0,0))
theorem Br.old {R:Nat} {w w':World} (k:Br R w w') (hR:R<w.heap.size) {b:Nat} (hb:b<R):w'.heap[b]?=w.heap[b]?:=k.block b (by omega) (by omega)
theorem Br.oldc {R:Nat} {w w':World} (k:Br R w w') (hR:R<w.heap.size) {a:Addr} (hb:a.block<R):w'.cell? a=w.cell? a:=World.cell?_of_block (k.old hR hb)
theorem Br.cel {R:Nat} {w w':World} (k:Br R w w') {g:Nat} {cs:List Value} {t:TypeId} (h:Bi w g cs t) (hn:g≠R):Bi w' g cs t:=by
 unfold Bi at h ⊢
 rw [k.block g (Bi.lt h) hn]
 exact h
theorem Sen.grew {R:Nat} {w w':World} {g:Nat} {a:Addr} (h:Sen R w g a) (k:Br R w w') (hR:R<w.heap.size):Sen R w' g a:=by
 obtain ⟨h1,h2,h3,h4⟩:=h
 refine ⟨h1,h2,?_,?_⟩
 ·rw [k.oldc hR (by exact h1)];exact h3
 ·rw [k.old hR h2];exact h4
def M9 (R:Nat) (w:World) (aL:Addr):Prop :=
 Sen R w 4 aL∧∀ g,g∈[5,6,7,9,10,11]→∃ a,a≠aL∧Sen R w g a
theorem M9.grew {R:Nat} {w w':World} {a:Addr} (h:M9 R w a) (k:Br R w w') (hR:R<w.heap.size):M9 R w' a :=
 ⟨h.1.grew k hR,fun g hg=>(h.2 g hg).elim fun b hb=>⟨b,hb.1,hb.2.grew k hR⟩⟩
def TK (R:Nat) (w:World) (A:Nat) (ts:List ByteArray):Prop:=A<R∧ts.length≤100000∧(∀ j,j<ts.length→w.cell? ⟨A,j,none⟩=some (I (nt ts j)))∧∀ t,t∈ts→t.size≤100000
theorem TK.grew {R:Nat} {w w':World} {A:Nat} {ts:List ByteArray} (h:TK R w A ts) (k:Br R w w') (hR:R<w.heap.size):TK R w' A ts :=
 ⟨h.1,h.2.1,fun j hj=>by rw [k.oldc hR (by exact h.1)];exact h.2.2.1 j hj,h.2.2.2⟩
def Ref (R:Nat) (w:World) (aL:Addr) (p:Nat):Prop:=∃ (z:Int) (a:Addr),a≠aL∧a.block<R∧(∃ c t,w.heap[a.block]?=some (.cells c t (0,0)))∧Bi w p [.int .i64 z,.iface 348 (.pointer (some a))] 134
def Ef (w:World) (R A:Nat) (ts:List ByteArray) (aL:Addr):St→Prop
 | some l=>∃ k:Nat,k+l.length=ts.length∧ts.drop k=l∧Bi w R [.slice (some ⟨A,0,none⟩) ts.length ts.length,.int .i64 k,.nilIface] 139
 | none=>∃ (k:Int) (p:Nat),R<p∧Bi w R [.slice (some ⟨A,0,none⟩) ts.length ts.length,.int .i64 k,.iface 132 (.pointer (some ⟨p,0,none⟩))] 139∧Ref R w aL p
theorem Br.drew' {R:Nat} {w:World}:Br R w w.drew:=(Br.refl R w).drew
theorem Bi.drew' {w:World} {g:Nat} {cs:List Value} {t:TypeId} (h:Bi w g cs t):Bi w.drew g cs t:=h
theorem Zx (R A:Nat) (ts:List ByteArray) (aL:Addr) (x:Value) (w:World) (h:Ef w R A ts aL none) :
  Calls Tryz.prog 91 #[.pointer (some ⟨R,0,none⟩),x] w fun e w'=>e=.returned (.tuple #[])∧w'=w:=by
 obtain ⟨k,p,hp,kr,-⟩:=h
 have c2:=kr.cell 2
 go_enter Tryz.func91,Tryz.ntmps91
 go_wp2
 go_end0
 exact ⟨rfl,rfl⟩
theorem Bds (R A:Nat) (ts l:List ByteArray) (aL a:Addr) (w:World) (hR:R<w.heap.size) (h:Ef w R A ts aL (some l)) (ha:a≠aL) (hb:a.block<R) (hc:∃ c t,w.heap[a.block]?=some (.cells c t (0,0))) :
  Calls Tryz.prog 91 #[.pointer (some ⟨R,0,none⟩),.iface 348 (.pointer (some a))] w fun e w'=>e=.returned (.tuple #[])∧Ef w' R A ts aL none∧Br R w w':=by
 obtain ⟨k,h1,h2,kr⟩:=h
 have c1:=kr.cell 1
 have c2:=kr.cell 2
 have f2:=Bi.o kr 2
 go_enter Tryz.func91,Tryz.ntmps91
 go_wp2
 go_end0
 obtain ⟨V,hV⟩:∃ V:Value,V=.iface 132 (.pointer (some ⟨w.heap.size,0,none⟩)):=⟨_,rfl⟩
 rw [← hV]
 have hG:Br R w ((w.setCell ⟨R,2,none⟩ V).alloc (.cells #[.int .i64 k,.iface 348 (.pointer (some a))] 134)) :=
  (((Bu.refl R w).setCell 2 V).grew).trans (Ib ((Jg _ _).alloc (Jb _) _))
 have hn:=Bi.new (w.setCell ⟨R,2,none⟩ V) [.int .i64 k,.iface 348 (.pointer (some a))] 134
 rw [show (w.setCell ⟨R,2,none⟩ V).heap.size=w.heap.size by simp [World.setCell]] at hn
 refine ⟨rfl,⟨k,w.heap.size,hR,?_,k,a,ha,hb,?_,hn⟩,hG⟩
 ·rw [← hV];exact (kr.set 2 V).alloc _
 ·obtain ⟨c,t,hc⟩:=hc
  exact ⟨c,t,by rw [hG.old hR hb];exact hc⟩
theorem Zy (R A:Nat) (ts:List ByteArray) (aL a:Addr) (st:St) (w:World) (hR:R<w.heap.size) (h:Ef w R A ts aL st) (ha:a≠aL) (hb:a.block<R) (hc:∃ c t,w.heap[a.block]?=some (.cells c t (0,0))) :
  Calls Tryz.prog 91 #[.pointer (some ⟨R,0,none⟩),.iface 348 (.pointer (some a))] w fun e w'=>e=.returned (.tuple #[])∧Ef w' R A ts aL none∧Br R w w':=by
 cases st with
 | some l=>exact Bds R A ts l aL a w hR h ha hb hc
 | none=>exact (Zx R A ts aL _ w h).mono (by rintro e w' ⟨rfl,rfl⟩;exact ⟨rfl,h,Br.refl _ _⟩)
theorem Fy (R A:Nat) (ts:List ByteArray) (aL:Addr) (st:St) (g:Nat) (a:Addr) (w:World) (hR:R<w.heap.size) (h:Ef w R A ts aL st) (ha:a≠aL) (hs:Sen R w g a) :
  Calls Tryz.prog 91 #[.pointer (some ⟨R,0,none⟩),.iface 348 (.pointer (some a))] w fun e w'=>e=.returned (.tuple #[])∧Ef w' R A ts aL none∧Br R w w' :=
 Zy R A ts aL a st w hR h ha hs.2.1 hs.2.2.2
theorem Bg1 (R A:Nat) (ts:List ByteArray) (aL:Addr) (w:World) (h:Ef w R A ts aL none) :
  Calls Tryz.prog 144 #[.pointer (some ⟨R,0,none⟩)] w fun e w'=>e=.returned (I eS)∧w'=w:=by
 obtain ⟨k,p,hp,kr,-⟩:=h
 have c2:=kr.cell 2
 go_enter Tryz.func144,Tryz.ntmps144
 go_wp2
 go_ret
 exact ⟨rfl,rfl⟩
theorem Bg0 (R A:Nat) (ts:List ByteArray) (aL:Addr) (w:World) (hR:R<w.heap.size) (hS:M9 R w aL) (hT:TK R w A ts) (h:Ef w R A ts aL (some [])) :
  Calls Tryz.prog 144 #[.pointer (some ⟨R,0,none⟩)] w fun e w'=>e=.returned (I eS)∧Ef w' R A ts aL none∧Br R w w':=by
 obtain ⟨a,ha,hs⟩:=hS.2 9 (by simp)
 have HC:=Ba (fun w1 (b:Br R w w1) (hr:Ef w1 R A ts aL (some []))=>Fy R A ts aL _ _ a w1 (Jl hR b.size) hr ha (hs.grew b hR))
 have HR:=Ba h
 obtain ⟨k,h1,h2,kr⟩:=h
 have hk:k=ts.length:=by simpa using h1
 subst hk
 have c0:=kr.cell 0
 have c1:=kr.cell 1
 have c2:=kr.cell 2
 have cs:=hs.2.2.1
 have hl:=hT.2.1
 go_enter Tryz.func144,Tryz.ntmps144
 go_wp2_with fail
 go_region
 go_wp2_with (go_at_call 91;refine (HC.out _ Br.drew' HR.out).mono ?_;rintro e w1 ⟨rfl,k1,g1⟩)
 go_ret
 exact ⟨rfl,k1,Br.drew'.trans g1⟩
theorem Bd2 (R A:Nat) (ts l:List ByteArray) (t:ByteArray) (aL:Addr) (w:World) (hT:TK R w A ts) (h:Ef w R A ts aL (some (t :: l))) :
  Calls Tryz.prog 144 #[.pointer (some ⟨R,0,none⟩)] w fun e w'=>e=.returned (I t)∧Ef w' R A ts aL (some l)∧Br R w w':=by
 obtain ⟨k,h1,h2,kr⟩:=h
 have hk:k<ts.length:=by simp at h1;omega
 have ht:nt ts k=t:=by
  unfold nt
  have:ts[k]?=(ts.drop k)[0]?:=by rw [List.getElem?_drop,Nat.add_zero]
  rw [Jh,this,h2]
  rfl
 have ct:=hT.2.2.1 k hk
 rw [ht] at ct
 have hd:ts.drop (k+1)=l:=by rw [← List.drop_drop,h2];rfl
 have hl:=hT.2.1
 have hA:A≠R:=Nat.ne_of_lt hT.1
 have c0:=kr.cell 0
 have c1:=kr.cell 1
 have c2:=kr.cell 2
 have f1:=Bi.o kr 1
 have hkk:¬ (k:Int)=ts.length:=by omega
 have hki:(k:Int)<ts.length:=by omega
 clear h2
 go_enter Tryz.func144,Tryz.ntmps144
 go_wp2_with fail
 go_region
 go_wp2_with fail
 have kr2:=kr.set 1 (.int .i64 ((k:Int)+1))
 have ct2:(w.setCell ⟨R,1,none⟩ (.int .i64 ((k:Int)+1))).cell? ⟨A,k,none⟩=some (I t):=by
  rw [World.cell?_of_block (((Bu.refl R w).setCell 1 _).block A hA)]
  exact ct
 have hG:Br R w (w.setCell ⟨R,1,none⟩ (.int .i64 ((k:Int)+1))):=((Bu.refl R w).setCell 1 _).grew
 clear c0 c1 c2 f1 kr ct
 generalize w.setCell _ _=w1 at *
 have c0:=kr2.cell 0
 have c1:=kr2.cell 1
 go_region
 go_wp2_with fail
 go_ret
 exact ⟨rfl,⟨k+1,by simp at h1;omega,hd,kr2⟩,(hG.trans Br.drew').trans Br.drew'⟩
theorem Bg2 (R A:Nat) (ts:List ByteArray) (aL:Addr) (st:St) (w:World) (hR:R<w.heap.size) (hS:M9 R w aL) (hT:TK R w A ts) (h:Ef w R A ts aL st) :
  Calls Tryz.prog 144 #[.pointer (some ⟨R,0,none⟩)] w fun e w'=>e=.returned (I (nx st).1)∧Ef w' R A ts aL (nx st).2∧Br R w w':=by
 cases st with
 | none=>exact (Bg1 R A ts aL w h).mono (by rintro e w' ⟨rfl,rfl⟩;exact ⟨rfl,h,Br.refl _ _⟩)
 | some l =>
  cases l with
  | nil=>exact Bg0 R A ts aL w hR hS hT h
  | cons t l=>exact Bd2 R A ts l t aL w hT h
structure Env (R A:Nat) (ts:List ByteArray) (aL:Addr) (w:World):Prop where
 hR:R<w.heap.size
 sens:M9 R w aL
 tk:TK R w A ts
 tab:G9 w
 tabR:Ds.g 1<R
theorem G9.grew {R:Nat} {w w':World} (h:G9 w) (hg:Ds.g 1<R) (hR:R<w.heap.size) (k:Br R w w'):G9 w':=fun j hj=>by
 rw [k.oldc hR (by exact hg)]
 exact h j hj
theorem Env.grew {R A:Nat} {ts:List ByteArray} {aL:Addr} {w w':World} (h:Env R A ts aL w) (k:Br R w w'):Env R A ts aL w' :=
 ⟨Jl h.hR k.size,h.sens.grew k h.hR,h.tk.grew k h.hR,h.tab.grew h.tabR h.hR k,h.tabR⟩
theorem Ef.grew {R A:Nat} {ts:List ByteArray} {aL:Addr} {st:St} {w w':World} (h:Ef w R A ts aL st) (hR:R<w.heap.size) (k:Below w.heap.size w w'):Ef w' R A ts aL st:=by
 cases st with
 | some l=>obtain ⟨k0,h1,h2,h3⟩:=h;exact ⟨k0,h1,h2,h3.b k⟩
 | none =>
  obtain ⟨k0,p,h1,h2,z,a,h3,h4,h5,h6⟩:=h
  exact ⟨k0,p,h1,h2.b k,z,a,h3,h4,by rw [k.block _ (by omega)];exact h5,h6.b k⟩
theorem Ef.size {R A:Nat} {ts:List ByteArray} {aL:Addr} {st:St} {w:World} (h:Ef w R A ts aL st) (hT:TK R w A ts):(nx st).1.size≤100000:=by
 cases st with
 | none=>exact Nat.zero_le _
 | some l =>
  cases l with
  | nil=>exact Nat.zero_le _
  | cons t l =>
   obtain ⟨k,h1,h2,-⟩:=h
   exact hT.2.2.2 t (List.mem_of_mem_drop (by rw [h2];exact List.mem_cons_self))
def RC (R A:Nat) (ts:List ByteArray) (aL:Addr) (f:Nat) (xs:Array Value) (w:World) (st:St) (v:Value) (st':St):Prop :=
 Env R A ts aL w→Ef w R A ts aL st→Calls Tryz.prog f xs w fun e w'=>e=.returned v∧Ef w' R A ts aL st'∧Br R w w'
theorem Qk (R A:Nat) (ts:List ByteArray) (aL:Addr) (st:St) (w:World):RC R A ts aL 144 #[.pointer (some ⟨R,0,none⟩)] w st (I (nx st).1) (nx st).2 :=
 fun e h=>Bg2 R A ts aL st w e.hR e.sens e.tk h
theorem Ng (R A:Nat) (ts:List ByteArray) (aL:Addr) (st:St) (c:ByteArray) (w:World):RC R A ts aL 84 #[.pointer (some ⟨R,0,none⟩),I c] w st (.tuple #[]) (wd c st):=by
 intro e h
 obtain ⟨a,ha,hs⟩:=e.sens.2 6 (by simp)
 have HN:=Ba (Qk R A ts aL st w e h)
 have HC:=Ba (fun w1 (b:Br R w w1) (st1:St) (hr:Ef w1 R A ts aL st1)=>Fy R A ts aL st1 _ a w1 (e.grew b).hR hr ha (hs.grew b e.hR))
 have HG:=Ba (fun w1 (b:Br R w w1)=>(hs.grew b e.hR).2.2.1)
 unfold wd
 generalize (nx st).1=t at *
 generalize (nx st).2=st' at *
 clear hs h e
 by_cases hc:t=c
 ·rw [if_pos hc]
  subst hc
  go_enter Tryz.func84,Tryz.ntmps84
  go_wp2_with (go_at_call 144;refine HN.out.mono ?_;rintro e w1 ⟨rfl,k1,g1⟩)
  go_end0
  exact ⟨rfl,k1,g1⟩
 ·rw [if_neg hc]
  have hq:(t.toList == c.toList)=false:=by rw [Mo];simp [hc]
  go_enter Tryz.func84,Tryz.ntmps84
  go_wp2_with (first | (go_at_call 144;refine HN.out.mono ?_;rintro e w1 ⟨rfl,k1,g1⟩;have hv:=HG.out w1 g1) | (go_at_call 91;refine (HC.out _ g1 _ k1).mono ?_;rintro e w2 ⟨rfl,k2,g2⟩))
  go_end0
  exact ⟨rfl,k2,g1.trans g2⟩
theorem Bh3 (t:ByteArray) (k n:Nat) (h:k<(Bj t).length):We ((Bj t).drop k) n=if lm (Bj t) k<48∨57<lm (Bj t) k then none else We ((Bj t).drop (k+1)) (10*n+(lm (Bj t) k - 48)):=by
 rw [List.drop_eq_getElem_cons h,We]
 have e:(Bj t)[k]=lm (Bj t) k:=by unfold lm;rw [Jh,List.getElem?_eq_getElem h];rfl
 rw [e]
theorem Ym (t:ByteArray) (w:World):Calls Tryz.prog 183 #[I t] w fun e w' =>
  e=.returned (.tuple #[.int .i64 ((Qq t).getD 0:Nat),Iz (Qq t).isSome])∧Below w.heap.size w w':=by
 by_cases hb:t.size<1∨3<t.size∨(lm (Bj t) 0=48∧1<t.size)
 ·have e:Qq t=none:=by unfold Qq;rw [if_pos hb]
  rw [e]
  by_cases h1:t.size<1
  ·go_enter Tryz.func183,Tryz.ntmps183
   go_wp2
   go_ret2
   exact ⟨rfl,Jg _ _⟩
  ·by_cases h2:3<t.size
   ·go_enter Tryz.func183,Tryz.ntmps183
    go_wp2
    go_ret2
    exact ⟨rfl,Jg _ _⟩
   ·have h3:lm (Bj t) 0=48∧1<t.size:=by rcases hb with h | h | h <;> first | omega | exact h
    have hs:0<t.size:=by omega
    have g1:((t[0]).toNat:Int)=48:=by rw [Ck t 0 hs,h3.1];rfl
    have g3:(t[0]).toNat=48:=by omega
    have g2:t[0]=48:=UInt8.toNat.inj g3
    have g4:=h3.2
    clear hb h3
    go_enter Tryz.func183,Tryz.ntmps183
    go_wp2
    go_ret2
    exact ⟨rfl,Jg _ _⟩
 ·have e:Qq t=We ((Bj t).drop 0) 0:=by unfold Qq;rw [if_neg hb];rfl
  rw [e]
  have g0:¬ (t.size:Int)<1:=by omega
  have g1:¬ (t.size:Int) > 3:=by omega
  have hs:0<t.size:=by omega
  have g9:t.size≤3:=by omega
  have gl:Hid ((Bj t).length=t.size):=Bt t
  have hcv:=Lib.run_convert_string_bytes (P:=Tryz.prog) w 9 55 5 t Tryz.underlying9 Tryz.underlying55 Tryz.underlying5
  have HC:Hid (∀ j,j<t.size→(Lib.bytesWorld w 5 t).cell? ⟨w.heap.size,j,none⟩=some (.int .u8 (lm (Bj t) j:Nat))):=fun j hj=>by rw [Lib.bytesWorld_cell w 5 t j hj,Ok t j hj]
  have hbw:=Ig w 5 t
  generalize Lib.bytesWorld w 5 t=w1 at *
  obtain ⟨X,hX⟩:∃ X,X=We ((Bj t).drop 0) 0:=⟨_,rfl⟩
  have HX:=Ba hX
  rw [← hX]
  clear hX e
  have g5:(t[0]=48∧¬ (t.size:Int) > 1∧t.size≤1)∨(¬ ((t[0]).toNat:Int)=48∧¬ t[0]=48):=by
   by_cases g2:t[0]=48
   ·have k:t.size≤1:=Nat.le_of_not_lt fun h=>hb (Or.inr (Or.inr ⟨?_,h⟩))
    ·exact Or.inl ⟨g2,by omega,k⟩
    have:=Ck t 0 hs
    rw [g2] at this
    exact this.symm
   ·exact Or.inr ⟨fun h=>g2 (UInt8.toNat.inj (Int.ofNat.inj h)),g2⟩
  clear hb
  rcases g5 with ⟨k2,k3,k4⟩ | ⟨k1,k2⟩
  all_goals
   go_enter Tryz.func183,Tryz.ntmps183
   go_wp2
   go_loop [4,28] (fun n i=>∃ k m:Nat,k≤t.size∧i=.int .i64 (k:Nat)∧n=.int .i64 (m:Nat)∧m<10 ^ k∧Hid (X=We ((Bj t).drop k) m)) (fun _ i=>t.size - (intOf i).toNat)
   case atStart=>exact ⟨0,0,Nat.zero_le _,rfl,rfl,by decide,HX⟩
   case round =>
    obtain ⟨k,m,hk,rfl,rfl,hm,HA⟩:=hrel
    have hm3:m<1000:=Jl hm (Nat.pow_le_pow_right (by decide) (by omega:k≤3))
    by_cases hlt:k<t.size
    ·have q1:=HC.out k hlt
     have hlt':(k:Int)<(t.size:Int):=by omega
     have hD:=Bh3 t k m (by rw [gl.out];exact hlt)
     by_cases hok:lm (Bj t) k<48∨57<lm (Bj t) k
     ·have hn:Hid (X=none):=by rw [if_pos hok,← HA.out] at hD;exact hD
      generalize lm (Bj t) k=x at q1 hok
      clear HA HC hD HX hm
      by_cases y1:x<48
      ·have y1':(x:Int)<48:=by omega
       go_wp2
       go_ret2
       exact ⟨by rw [hn.out];rfl,hbw⟩
      ·have y1':¬ (x:Int)<48:=by omega
       have y2':(x:Int) > 57:=by omega
       go_wp2
       go_ret2
       exact ⟨by rw [hn.out];rfl,hbw⟩
     ·have hp:10*m+(lm (Bj t) k - 48)<10 ^ (k+1):=by rw [Nat.pow_succ];omega
      rw [if_neg hok,← HA.out] at hD
      have HD:=Ba hD
      clear hD hm HA HC HX
      generalize lm (Bj t) k=x at q1 hok hp HD
      have y1:¬ (x:Int)<48:=by omega
      have y2:¬ (x:Int) > 57:=by omega
      have HP:=Ba hp
      clear hok hp
      go_wp2
      go_round
      case rel=>exact ⟨k+1,10*m+(x - 48),by omega,by go_num,by congr 1;omega,HP.out,HD⟩
      case measure=>simp [intOf];omega
    ·have hke:k=t.size:=by omega
     have hn:Hid (X=some m):=by rw [HA.out,List.drop_of_length_le (by rw [gl.out];omega)];rfl
     clear HA HC HX hm
     go_wp2
     go_ret2
     exact ⟨by rw [hn.out];rfl,hbw⟩
abbrev vQ (q:Q3):Value:=(D8 q.1 q.2.1 q.2.2)
abbrev vP (p:Q3 × Q3):Value:=(qa2 p.1.1 p.1.2.1 p.1.2.2 p.2.1 p.2.2.1 p.2.2.2)
abbrev vS (s:Nat × Nat × Bool):Value:=.agg #[.int .i64 (s.1:Nat),.int .i64 (s.2.1:Nat),Iz s.2.2]
def PR (P:ByteArray→Q3) (E:ByteArray→Int):Prop:=∀ (t:ByteArray) (w:World),t.size≤100000→G9 w→Calls Tryz.prog 184 #[I t] w fun e w'=>e=.returned (.tuple #[vQ (P t),.int .i64 (E t)])∧Below w.heap.size w w'
theorem Bh2:∀ (l:List Nat) (n m k:Nat),We l n=some m→n<10 ^ k→m<10 ^ (l.length+k)
 | [],n,m,k,h,hn=>by
  simp [We] at h;subst h;simpa using hn
 | c :: l,n,m,k,h,hn=>by
  rw [We] at h
  split at h
  ·cases h
  ·have:=Bh2 l _ m (k+1) h (by rw [Nat.pow_succ];omega)
   rw [List.length_cons,show l.length+1+k=l.length+(k+1) by omega]
   exact this
theorem Ba5 {t:ByteArray} {n:Nat} (h:Qq t=some n):n<1000:=by
 unfold Qq at h
 split at h
 ·cases h
 ·rename_i hb
  have:=Bh2 _ _ n 0 h (by decide)
  rw [Bt] at this
  exact Jl this (Nat.pow_le_pow_right (by decide) (by omega:t.size+0≤3))
theorem Sm (R A:Nat) (ts:List ByteArray) (aL:Addr) (st:St) (m:Int) (w:World):RC R A ts aL 145 #[.pointer (some ⟨R,0,none⟩),.int .i64 m] w st (.int .i64 (ct m st).1) (ct m st).2:=by
 intro e h
 obtain ⟨a,ha,hs⟩:=e.sens.2 10 (by simp)
 have HN:=Ba (Qk R A ts aL st w e h)
 have HC:=Ba (fun w1 (b:Br R w w1) (st1:St) (hr:Ef w1 R A ts aL st1)=>Fy R A ts aL st1 _ a w1 (e.grew b).hR hr ha (hs.grew b e.hR))
 have HG:=Ba (fun w1 (b:Br R w w1)=>(hs.grew b e.hR).2.2.1)
 have HE:=Ba (fun w1 (b:Br R w w1)=>(e.grew b).hR)
 have HL:=Ba (fun n=>@Ba5 (nx st).1 n)
 unfold ct Fm
 generalize (nx st).1=t at *
 generalize (nx st).2=st' at *
 have HK:=Ba (Ym t)
 generalize Qq t=c at *
 clear hs h e
 cases c with
 | none =>
  simp only [Option.getD_none,Option.isSome_none] at HK
  show Calls _ _ _ _ fun e w'=>e=.returned (.int .i64 0)∧_
  go_enter Tryz.func145,Tryz.ntmps145
  go_wp2_with (first | (go_at_call 144;refine HN.out.mono ?_;rintro e w1 ⟨rfl,k1,g1⟩) | (go_at_call 183;refine (HK.out _).mono ?_;rintro e w2 ⟨rfl,b2⟩;have hv:=HG.out w2 (g1.trans (Ib b2))) | (go_at_call 91;refine (HC.out _ (g1.trans (Ib b2)) _ (Ef.grew k1 (HE.out _ g1) b2)).mono ?_;rintro e w3 ⟨rfl,k2,g2⟩))
  go_ret
  exact ⟨rfl,k2,(g1.trans (Ib b2)).trans g2⟩
 | some n =>
  simp only [Option.getD_some,Option.isSome_some] at HK
  have hn:=HL.out n rfl
  by_cases hm:(n:Int)≤m
  ·have e1:(Option.some n).filter (fun n:Nat=>decide ((n:Int)≤m))=some n:=by simp [Option.filter,hm]
   rw [e1]
   have hm':¬ (n:Int) > m:=by omega
   show Calls _ _ _ _ fun e w'=>e=.returned (.int .i64 (n:Nat))∧_
   go_enter Tryz.func145,Tryz.ntmps145
   go_wp2_with (first | (go_at_call 144;refine HN.out.mono ?_;rintro e w1 ⟨rfl,k1,g1⟩) | (go_at_call 183;refine (HK.out _).mono ?_;rintro e w2 ⟨rfl,b2⟩;have hv:=HG.out w2 (g1.trans (Ib b2))))
   go_ret
   exact ⟨rfl,Ef.grew k1 (HE.out _ g1) b2,g1.trans (Ib b2)⟩
  ·have e1:(Option.some n).filter (fun n:Nat=>decide ((n:Int)≤m))=none:=by simp [Option.filter,hm]
   rw [e1]
   have hm':(n:Int) > m:=by omega
   show Calls _ _ _ _ fun e w'=>e=.returned (.int .i64 0)∧_
   go_enter Tryz.func145,Tryz.ntmps145
   go_wp2_with (first | (go_at_call 144;refine HN.out.mono ?_;rintro e w1 ⟨rfl,k1,g1⟩) | (go_at_call 183;refine (HK.out _).mono ?_;rintro e w2 ⟨rfl,b2⟩;have hv:=HG.out w2 (g1.trans (Ib b2))) | (go_at_call 91;refine (HC.out _ (g1.trans (Ib b2)) _ (Ef.grew k1 (HE.out _ g1) b2)).mono ?_;rintro e w3 ⟨rfl,k2,g2⟩))
   go_ret
   exact ⟨rfl,k2,(g1.trans (Ib b2)).trans g2⟩
theorem Ef.put {R A:Nat} {ts:List ByteArray} {aL:Addr} {st:St} {w:World} (h:Ef w R A ts aL st) {g:Nat} {cs:List Value} {t:TypeId} (hc:Bi w g cs t) (hg:R<g) (ht:t≠134) (j:Nat) (v:Value) :
  Ef (w.setCell ⟨g,j,none⟩ v) R A ts aL st:=by
 have ho:=(Bu.refl g w).setCell j v
 cases st with
 | some l=>obtain ⟨k0,h1,h2,h3⟩:=h;exact ⟨k0,h1,h2,h3.t (by omega) j v⟩
 | none =>
  obtain ⟨k0,p,h1,h2,z,a,h3,h4,h5,h6⟩:=h
  have hp:p≠g:=by
   rintro rfl
   have:=(Option.some.inj (h6.symm.trans hc))
   injection this with _ e _
   exact ht e.symm
  exact ⟨k0,p,h1,h2.t (by omega) j v,z,a,h3,h4,by rw [ho.block _ (by omega)];exact h5,h6.t hp j v⟩
theorem Ef.put3 {R A:Nat} {ts:List ByteArray} {aL:Addr} {st:St} {w:World} (h:Ef w R A ts aL st) {g:Nat} {x y z:Value} {t:TypeId} (hc:Bi w g [x,y,z] t) (hg:R<g) (ht:t≠134) (u v r:Value) :
  Ef (((w.setCell ⟨g,0,none⟩ u).setCell ⟨g,1,none⟩ v).setCell ⟨g,2,none⟩ r) R A ts aL st :=
 ((h.put hc hg ht 0 u).put (hc.set 0 u) hg ht 1 v).put ((hc.set 0 u).set 1 v) hg ht 2 r
theorem Br.put3 {R:Nat} {w w':World} (h:Br R w w') {g:Nat} (hg:w.heap.size≤g) (u v r:Value) :
  Br R w (((w'.setCell ⟨g,0,none⟩ u).setCell ⟨g,1,none⟩ v).setCell ⟨g,2,none⟩ r) :=
 h.only ((((Bu.refl g w').setCell 0 u).setCell 1 v).setCell 2 r) hg
theorem Ud (P:ByteArray→Q3) (E:ByteArray→Int) (hP:PR P E) (R A:Nat) (ts:List ByteArray) (aL:Addr) (st:St) (w:World):RC R A ts aL 146 #[.pointer (some ⟨R,0,none⟩)] w st (vQ (nu P E st).1) (nu P E st).2:=by
 intro e h
 obtain ⟨a,ha,hs⟩:=e.sens.2 11 (by simp)
 have hz:=h.size e.tk
 have HN:=Ba (fun w1 (b:Below w.heap.size w w1)=>Qk R A ts aL st w1 (e.grew (Ib b)) (h.grew e.hR b))
 have HC:=Ba (fun w1 (b:Br R w w1) (st1:St) (hr:Ef w1 R A ts aL st1)=>Fy R A ts aL st1 _ a w1 (e.grew b).hR hr ha (hs.grew b e.hR))
 have HG:=Ba (fun w1 (b:Br R w w1)=>(hs.grew b e.hR).2.2.1)
 have HT:=Ba (fun w1 (b:Br R w w1)=>hP (nx st).1 w1 hz (e.grew b).tab)
 have HE:=Ba (fun w1 (b:Br R w w1)=>(e.grew b).hR)
 have hR:=e.hR
 unfold nu
 generalize (nx st).1=t at *
 generalize (nx st).2=st' at *
 generalize P t=q at *
 obtain ⟨qn,qs,qd⟩:=q
 generalize E t=c at *
 obtain ⟨u,hu⟩:∃ u,u=if c=0 then st' else none:=⟨_,rfl⟩
 have HU:=Ba hu
 simp only [← hu]
 clear hs h e hu
 go_enter Tryz.func146,Tryz.ntmps146
 go_wp2_with fail
 obtain ⟨w0,hq,kr,b0⟩:=Es w (D6 false eS eS) 26
 rw [← hq]
 clear hq
 go_upto_region 2 with (first | (go_at_call 144;refine (HN.out _ b0).mono ?_;rintro e w1 ⟨rfl,k1,g1⟩) | (go_at_call 184;refine (HT.out _ ((Ib b0).trans g1)).mono ?_;rintro e w2 ⟨rfl,b2⟩))
 obtain ⟨w3,hq,kx,b3⟩:=Es w2 (D6 qn qs qd) 26
 rw [← hq]
 clear hq
 have G3:Br R w w3:=((Ib b0).trans g1).trans (Ib (Ia b2 b3))
 have k3:=Ef.grew k1 (HE.out w1 ((Ib b0).trans g1)) (Ia b2 b3)
 have kr3:=(Br.cel g1 kr (by omega)).b (Ia b2 b3)
 have hv:=HG.out w3 G3
 have sz:=kx.lt
 have hg2:w.heap.size<w2.heap.size:=Jl (Jl kr.lt g1.size) b2.size
 clear kr b0 g1 k1 b2 b3 HN HT HG
 by_cases hc:c=0
 ·have HQ:Hid (u=st'):=by rw [HU.out,if_pos hc];rfl
  have x0:=kx.cell 0
  have x1:=kx.cell 1
  have x2:=kx.cell 2
  have f0:=Bi.o kr3 0
  have f1:=Bi.o kr3 1
  have f2:=Bi.o kr3 2
  have y0:=kr3.cell 0
  have y1:=kr3.cell 1
  have y2:=kr3.cell 2
  go_wp2_with fail
  exact Ht (p:=2) (by kernel_rfl) rfl rfl (((kr3.set 0 _).set 1 _).set 2 _) ⟨rfl,by rw [HQ.out];exact k3.put3 kr3 hR (by decide) _ _ _,G3.put3 (Jb _) _ _ _⟩
 ·have HQ:Hid (u=none):=by rw [HU.out,if_neg hc];rfl
  go_upto_region 4 with (go_at_call 91;refine (HC.out _ G3 _ k3).mono ?_;rintro e w4 ⟨rfl,k4,g4⟩)
  have kr4:=Br.cel g4 kr3 (by omega)
  have kx4:=Br.cel g4 kx (by omega)
  clear kr3 kx hv
  have x0:=kx4.cell 0
  have x1:=kx4.cell 1
  have x2:=kx4.cell 2
  have f0:=Bi.o kr4 0
  have f1:=Bi.o kr4 1
  have f2:=Bi.o kr4 2
  have y0:=kr4.cell 0
  have y1:=kr4.cell 1
  have y2:=kr4.cell 2
  go_wp2_with fail
  exact Ht (p:=2) (by kernel_rfl) rfl rfl (((kr4.set 0 _).set 1 _).set 2 _) ⟨rfl,by rw [HQ.out];exact k4.put3 kr4 hR (by decide) _ _ _,(G3.trans g4).put3 (Jb _) _ _ _⟩
theorem Bu.setRow {g:Nat} {a w:World} (h:Bu g a w) (cs:Array Value):Bu g a (w.setRow g cs) :=
 h.trans ⟨rfl,rfl,rfl,by simp [World.setRow],fun k hk=>by simp only [World.setRow,Array.getElem?_modify];rw [if_neg (by omega)]⟩
theorem Bi.rowS {w:World} {g:Nat} {cs:List Value} {t:TypeId} (h:Bi w g cs t) (ds:List Value):Bi (w.setRow g ds.toArray) g ds t:=setRow_heap w g cs.toArray ds.toArray t (0,0) h
theorem Bu.cel {g g':Nat} {w w':World} {cs:List Value} {t:TypeId} (k:Bu g w w') (h:Bi w g' cs t) (hn:g'≠g):Bi w' g' cs t:=by
 unfold Bi at h ⊢
 rw [k.block g' hn]
 exact h
theorem Ef.row {R A:Nat} {ts:List ByteArray} {aL:Addr} {st:St} {w:World} (h:Ef w R A ts aL st) {g:Nat} {cs:List Value} {t:TypeId} (hc:Bi w g cs t) (hg:R<g) (ht:t≠134) (ds:Array Value) :
  Ef (w.setRow g ds) R A ts aL st:=by
 have ho:=(Bu.refl g w).setRow ds
 cases st with
 | some l=>obtain ⟨k0,h1,h2,h3⟩:=h;exact ⟨k0,h1,h2,ho.cel h3 (by omega)⟩
 | none =>
  obtain ⟨k0,p,h1,h2,z,a,h3,h4,h5,h6⟩:=h
  have hp:p≠g:=by
   rintro rfl
   have:=(Option.some.inj (h6.symm.trans hc))
   injection this with _ e _
   exact ht e.symm
  exact ⟨k0,p,h1,ho.cel h2 (by omega),z,a,h3,h4,by rw [ho.block _ (by omega)];exact h5,ho.cel h6 hp⟩
theorem Br.row {R:Nat} {w w':World} (h:Br R w w') {g:Nat} (hg:w.heap.size≤g) (ds:Array Value):Br R w (w'.setRow g ds):=h.only ((Bu.refl g w').setRow ds) hg
theorem Bjp {fn:Func} {p:Tmp} {R:Ending→World→Prop} {a:Act} {w:World} {g:Nat} {x y z x' y' z':Value} (h:fn.results=#[.cell p 30]) (hp:a.tmps.getD p undef=.pointer (some ⟨g,0,none⟩)) (hd:a.defers=[])
  (hc:Bi w g [x,y,z,x',y',z'] 30) (hR:R (.returned (.agg #[x,y,z,x',y',z'])) w):bodyPost Tryz.prog fn R .ret a w :=
 ⟨hd,.agg #[x,y,z,x',y',z'],results_cell_row (P:=Tryz.prog) h _ w g 30 #[x,y,z,x',y',z'] (0,0) _ hp hc Tryz.underlying30 rfl (by kernel_rfl),hR⟩
theorem Bgs (P:ByteArray→Q3) (E:ByteArray→Int) (hP:PR P E) (R A:Nat) (ts:List ByteArray) (aL:Addr) (st:St) (w:World):RC R A ts aL 86 #[.pointer (some ⟨R,0,none⟩)] w st (vP (pt P E st).1) (pt P E st).2:=by
 intro e h
 have hR:=e.hR
 have HN:=Ba (fun w1 st1 (b:Br R w w1) (hr:Ef w1 R A ts aL st1)=>Ud P E hP R A ts aL st1 w1 (e.grew b) hr)
 have HR:=Ba (fun w1 (b:Br R w w1)=>(e.grew b).hR)
 have H0:=Ba (fun w1 (b:Below w.heap.size w w1)=>h.grew e.hR b)
 unfold pt
 have h1:=HN.out
 obtain ⟨q,hq⟩:∃ q,q=(nu P E st).1:=⟨_,rfl⟩
 obtain ⟨st1,hs1⟩:∃ q,q=(nu P E st).2:=⟨_,rfl⟩
 obtain ⟨r,hr⟩:∃ q,q=(nu P E st1).1:=⟨_,rfl⟩
 obtain ⟨st2,hs2⟩:∃ q,q=(nu P E st1).2:=⟨_,rfl⟩
 have N1:=Ba (fun w1 (b:Br R w w1) (k:Ef w1 R A ts aL st)=>HN.out w1 st b k)
 have N2:=Ba (fun w1 (b:Br R w w1) (k:Ef w1 R A ts aL st1)=>HN.out w1 st1 b k)
 rw [← hq,← hs1] at N1
 rw [← hr,← hs2] at N2
 rw [← hq,← hs1,← hr,← hs2]
 clear hq hr hs1 hs2 HN e h h1
 obtain ⟨qn,qs,qd⟩:=q
 obtain ⟨rn,rs,rd⟩:=r
 go_enter Tryz.func86,Tryz.ntmps86
 go_wp2_with fail
 obtain ⟨w0,hq,kr,b0⟩:=Es w (Ko false eS eS false eS eS) 30
 rw [← hq]
 clear hq
 go_upto_region 2 with (go_at_call 146;refine (N1.out _ (Ib b0) (H0.out _ b0)).mono ?_;rintro e w1 ⟨rfl,k1,g1⟩)
 obtain ⟨w2,hq,kx,b2⟩:=Es w1 (D6 qn qs qd) 26
 rw [← hq]
 clear hq
 have G1:=(Ib b0).trans g1
 have G2:Br R w w2:=G1.trans (Ib b2)
 have k2:=Ef.grew k1 (HR.out _ G1) b2
 have kr2:=(Br.cel g1 kr (by omega)).b b2
 have hg2:w.heap.size<w1.heap.size:=Jl kr.lt g1.size
 clear kr b0 g1 k1 b2 G1
 go_upto_region 3 with (go_at_call 146;refine (N2.out _ G2 k2).mono ?_;rintro e w3 ⟨rfl,k3,g3⟩)
 obtain ⟨w4,hq,ky,b4⟩:=Es w3 (D6 rn rs rd) 26
 rw [← hq]
 clear hq
 have G3:=G2.trans g3
 have k4:=Ef.grew k3 (HR.out _ G3) b4
 have kr4:=(Br.cel g3 kr2 (by omega)).b b4
 have kx4:=(Br.cel g3 kx (by omega)).b b4
 have G4:=G3.trans (Ib b4)
 clear kr2 kx g3 k3 b4 G3 G2 k2
 go_wp2_with (first | (refine Je rfl 26 _ rfl _ rfl 26 _ (0,0) _ kx4 Tryz.underlying26 rfl (by kernel_rfl) ?_) | (refine Je rfl 26 _ rfl _ rfl 26 _ (0,0) _ ky Tryz.underlying26 rfl (by kernel_rfl) ?_) | (refine Jj rfl 30 _ _ rfl _ (qv2 qn qs qd rn rs rd) rfl rfl 30 _ kr4 (by kernel_rfl) rfl (by kernel_rfl) ?_))
 exact Bjp (p:=2) (by kernel_rfl) rfl rfl (kr4.rowS _) ⟨rfl,k4.row kr4 hR (by decide) _,G4.row (Jb _) _⟩
def qx (q:Q3) (j:Nat):Value:=if j=0 then Iz q.1 else if j=1 then I q.2.1 else I q.2.2
def fx (x:Nat→Q3) (k j:Nat):Value:=if j / 3<k then qx (x (j / 3)) (j % 3) else qx (false,eS,eS) (j % 3)
def Yg (x:Nat→Q3) (k:Nat):List Value:=(List.range 18).map (fx x k)
theorem Hn (x:Nat→Q3) (k j:Nat) (h:j<18):(Yg x k)[j]?=some (fx x k j):=by
 unfold Yg
 rw [List.getElem?_map,List.getElem?_range h]
 rfl
theorem Bck (x:Nat→Q3) (k:Nat) (hk:k<6):(((Yg x k).set (k*3) (Iz (x k).1)).set (k*3+1) (I (x k).2.1)).set (k*3+2) (I (x k).2.2)=Yg x (k+1):=by
 apply List.ext_getElem?
 intro j
 rcases Nat.lt_or_ge j 18 with hj | hj
 ·rw [Hn x (k+1) j hj,List.getElem?_set,List.getElem?_set,List.getElem?_set,Hn x k j hj]
  have hl:(Yg x k).length=18:=by simp [Yg]
  simp only [List.length_set,hl]
  by_cases h2:k*3+2=j
  ·rw [if_pos h2,if_pos (by omega)];subst h2;unfold fx qx
   rw [if_pos (by omega),if_neg (by omega),if_neg (by omega),show (k*3+2) / 3=k by omega]
  ·rw [if_neg h2]
   by_cases h1:k*3+1=j
   ·rw [if_pos h1,if_pos (by omega)];subst h1;unfold fx qx
    rw [if_pos (by omega),if_neg (by omega),if_pos (by omega),show (k*3+1) / 3=k by omega]
   ·rw [if_neg h1]
    by_cases h0:k*3=j
    ·rw [if_pos h0,if_pos (by omega)];subst h0;unfold fx qx
     rw [if_pos (by omega),if_pos (by omega),show (k*3) / 3=k by omega]
    ·rw [if_neg h0]
     have e:(j / 3<k)=(j / 3<k+1):=by
      have:j / 3≠k:=by omega
      apply propext;omega
     unfold fx
     simp only [e]
 ·have h1:∀ k,(Yg x k)[j]?=none:=fun k=>List.getElem?_eq_none (by simpa [Yg] using hj)
  rw [h1,List.getElem?_eq_none (by simpa [Yg] using hj)]
theorem six (L:List Q3) (h:L.length=6):∃ a b c d e f,L=[a,b,c,d,e,f]:=by
 match L,h with
 | [a,b,c,d,e,f],_=>exact ⟨a,b,c,d,e,f,rfl⟩
theorem Boc (f:St→Q3 × St) (s:St):∃ (x:Nat→Q3) (t:Nat→St),t 0=s∧(∀ k,k<6→f (t k)=(x k,t (k+1)))∧(Kh f 6 s).1=[x 0,x 1,x 2,x 3,x 4,x 5]∧(Kh f 6 s).2=t 6 :=
 ⟨fun k=>(f (Kh f k s).2).1,fun k=>(Kh f k s).2,rfl,fun k _=>by show _=(_,(Kh f (k+1) s).2);rw [Np],rfl,rfl⟩
def vF (x:Nat→Q3):Value:=.agg #[Iz (x 0).1,I (x 0).2.1,I (x 0).2.2,Iz (x 1).1,I (x 1).2.1,I (x 1).2.2,Iz (x 2).1,I (x 2).2.1,I (x 2).2.2,Iz (x 3).1,I (x 3).2.1,I (x 3).2.2,Iz (x 4).1,I (x 4).2.1,I (x 4).2.2,Iz (x 5).1,I (x 5).2.1,I (x 5).2.2]
theorem Bb2 (P:ByteArray→Q3) (E:ByteArray→Int) (hP:PR P E) (R A:Nat) (ts:List ByteArray) (aL:Addr) (st:St) (c:ByteArray) (w:World) (x:Nat→Q3) (t:Nat→St) (ht0:t 0=wd c st) (ht:∀ k,k<6→nu P E (t k)=(x k,t (k+1))) :
  RC R A ts aL 90 #[.pointer (some ⟨R,0,none⟩),I c] w st (vF x) (t 6):=by
 intro e h
 have hR:=e.hR
 have HW:=Ba (fun w1 (b:Below w.heap.size w w1)=>Ng R A ts aL st c w1 (e.grew (Ib b)) (h.grew e.hR b))
 rw [← ht0] at HW
 have HN:=Ba (fun (k:Nat) (hk:k<6) w1 (b:Br R w w1) (hr:Ef w1 R A ts aL (t k))=>by
  have:=Ud P E hP R A ts aL (t k) w1 (e.grew b) hr
  rw [ht k hk] at this
  exact this)
 clear h e ht ht0
 go_enter Tryz.func90,Tryz.ntmps90
 go_upto_region 1 with fail
 obtain ⟨w0,hq,kr,b0⟩:=Es w (ql6 false eS eS false eS eS false eS eS false eS eS false eS eS false eS eS) 28
 rw [← hq]
 clear hq
 go_upto_region 2 with (go_at_call 84;refine (HW.out _ b0).mono ?_;rintro e w1 ⟨rfl,k1,g1⟩)
 go_upto_region 3 with fail
 obtain ⟨w2,hq,kf,b2⟩:=Es w1 (ql6 false eS eS false eS eS false eS eS false eS eS false eS eS false eS eS) 28
 rw [← hq]
 clear hq
 obtain ⟨g,hg⟩:∃ g,g=w1.heap.size:=⟨_,rfl⟩
 rw [← hg] at kf ⊢
 have kf:Bi w2 g (Yg x 0) 28:=kf
 have hg2:w.heap.size<g:=by rw [hg];exact Jl kr.lt g1.size
 have G2:=((Ib b0).trans g1).trans (Ib b2)
 have k2:=Ef.grew k1 (Jl hR ((Ib b0).trans g1).size) b2
 have kr2:=(Br.cel g1 kr (by omega)).b b2
 clear kr b0 g1 k1 b2 hg HW
 go_wp2_with fail
 go_loopw [11] (fun i wr=>∃ k:Nat,k≤6∧i=.int .i64 (k:Nat)∧Bi wr g (Yg x k) 28∧Bi wr w.heap.size (ql6 false eS eS false eS eS false eS eS false eS eS false eS eS false eS eS) 28∧Ef wr R A ts aL (t k)∧Br R w wr) (fun i _=>6 - (intOf i).toNat)
 case atStart=>exact ⟨0,Nat.zero_le _,rfl,kf,kr2,k2,G2⟩
 case round =>
  obtain ⟨k,hk,rfl,kf,kr,kk,G⟩:=hrel
  by_cases hlt:k<6
  ·have hlt':(k:Int)<6:=by omega
   have N1:=HN.out k hlt wr G kk
   have HS:=Ba (Bck x k hlt)
   generalize x k=q at *
   obtain ⟨qn,qs,qd⟩:=q
   go_wp2_with (go_at_call 146;refine N1.mono ?_;rintro e w3 ⟨rfl,k3,g3⟩;have kf3:=Br.cel g3 kf (by omega);have c0:w3.cell? ⟨g,k*3,none⟩=some (fx x k (k*3)):=(kf3.cell _).trans (Hn x k _ (by omega));have c1:w3.cell? ⟨g,k*3+1,none⟩=some (fx x k (k*3+1)):=(kf3.cell _).trans (Hn x k _ (by omega));have c2:w3.cell? ⟨g,k*3+2,none⟩=some (fx x k (k*3+2)):=(kf3.cell _).trans (Hn x k _ (by omega));have f0:=Bi.o kf3 (k*3);have f1:=Bi.o kf3 (k*3+1);have f2:=Bi.o kf3 (k*3+2))
   go_roundw
   case rel =>
    have kr3:=Br.cel g3 kr (by omega)
    refine ⟨k+1,by omega,by go_num,?_,?_,?_,?_⟩
    ·rw [← HS.out];exact ((kf3.set _ _).set _ _).set _ _
    ·exact ((kr3.t (by omega) _ _).t (by omega) _ _).t (by omega) _ _
    ·exact ((k3.put kf3 (by omega) (by decide) _ _).put (kf3.set _ _) (by omega) (by decide) _ _).put ((kf3.set _ _).set _ _) (by omega) (by decide) _ _
    ·exact (G.trans g3).only ((((Bu.refl g w3).setCell _ _).setCell _ _).setCell _ _) (by omega)
   case measure=>simp [intOf];omega
  ·have hke:k=6:=by omega
   subst hke
   go_upto_region 8 with fail
   go_wp2_with (first | (refine Je rfl 28 _ rfl _ rfl 28 _ (0,0) _ kf Tryz.underlying28 rfl (by kernel_rfl) ?_) | (refine Jj rfl 28 _ _ rfl _ (Yg x 6).toArray rfl rfl 28 _ kr (by kernel_rfl) rfl (by kernel_rfl) ?_))
   refine ⟨rfl,vF x,results_cell_row (P:=Tryz.prog) (p:=4) (by kernel_rfl) _ _ _ 28 (Yg x 6).toArray (0,0) _ rfl (kr.rowS _) Tryz.underlying28 rfl (by kernel_rfl),⟨rfl,kk.row kr hR (by decide) _,G.row (Jb _) _⟩⟩
def Qw (W:World) (z:List Value) (t:TypeId) (v:Value) (w:World):Prop:=∃ g,v=.slice (some ⟨g,0,none⟩) 1 1∧W.heap.size≤g∧Bi w g z t
theorem Qw.b {W w w':World} {z:List Value} {t:TypeId} {v:Value} (h:Qw W z t v w) (hb:Below w.heap.size w w'):Qw W z t v w':=by
 obtain ⟨g,h1,h2,h3⟩:=h
 exact ⟨g,h1,h2,h3.b hb⟩
theorem WA.rows3 {P:Program} {ops:Array Oper} {Q:Exit→Act→World→Prop} {w W:World} {o1 o2 o3 oc:Oper} {L:Bool→Bool→Bool→Array Bool} {A:Value→Value→Value→Act} {z1 z2 z3:List Value} {t:TypeId} (c i1 i2 i3:Nat) (r1 r2 r3:Bool)
  (hc:ops[c]?=some oc) (h1:ops[i1]?=some o1) (h2:ops[i2]?=some o2) (h3:ops[i3]?=some o3) (bW:SB W w)
  (ca:∀ b1 b2 b3 x1 x2 x3 w',(b1=true→Qw W z1 t x1 w')→(b2=true→Qw W z2 t x2 w')→(b3=true→Qw W z3 t x3 w')→(r1=true→b1=true)→(r2=true→b2=true)→(r3=true→b3=true)→SB W w'→Below w.heap.size w w'→∀ K:Act→World→Prop,Shut (∀ a w'',SB W w''→(SB W w''→WA P ops Q (SB W) ((L b1 b2 b3).setIfInBounds c true) a w'')→K a w'')→if Region.wanted oc (yielded ops (A x1 x2 x3).tmps)=true then Oper.wp P oc (A x1 x2 x3) w' K Q else K ((A x1 x2 x3).put oc.dst undef) w')
  (Hv:∀ x1 x2 x3 w',Region.wanted o1 (yielded ops (A x1 x2 x3).tmps)=true∧(execOp (A x1 x2 x3).eval o1).run P w'=.ok (.value (.slice (some ⟨w'.heap.size,0,none⟩) 1 1)) (w'.alloc (.cells z1.toArray t))∧∀ u,(A x1 x2 x3).put o1.dst u=A u x2 x3:=by intros _ _ _ _;exact ⟨by rfl,by go_simp,fun _=>by kernel_rfl⟩)
  (al2:∀ x1 x2 x3 w',Region.wanted o2 (yielded ops (A x1 x2 x3).tmps)=true∧(execOp (A x1 x2 x3).eval o2).run P w'=.ok (.value (.slice (some ⟨w'.heap.size,0,none⟩) 1 1)) (w'.alloc (.cells z2.toArray t))∧∀ u,(A x1 x2 x3).put o2.dst u=A x1 u x3:=by intros _ _ _ _;exact ⟨by rfl,by go_simp,fun _=>by kernel_rfl⟩)
  (al3:∀ x1 x2 x3 w',Region.wanted o3 (yielded ops (A x1 x2 x3).tmps)=true∧(execOp (A x1 x2 x3).eval o3).run P w'=.ok (.value (.slice (some ⟨w'.heap.size,0,none⟩) 1 1)) (w'.alloc (.cells z3.toArray t))∧∀ u,(A x1 x2 x3).put o3.dst u=A x1 x2 u:=by intros _ _ _ _;exact ⟨by rfl,by go_simp,fun _=>by kernel_rfl⟩)
  (hL1:∀ b1 b2 b3,(L b1 b2 b3).setIfInBounds i1 true=L true b2 b3:=by intro b1 b2 b3;cases b1 <;> cases b2 <;> cases b3 <;> kernel_rfl)
  (hL2:∀ b1 b2 b3,(L b1 b2 b3).setIfInBounds i2 true=L b1 true b3:=by intro b1 b2 b3;cases b1 <;> cases b2 <;> cases b3 <;> kernel_rfl)
  (hL3:∀ b1 b2 b3,(L b1 b2 b3).setIfInBounds i3 true=L b1 b2 true:=by intro b1 b2 b3;cases b1 <;> cases b2 <;> cases b3 <;> kernel_rfl)
  (hR:∀ b1 b2 b3,Region.ready .any ops (L b1 b2 b3)≠[]∧∀ i∈Region.ready .any ops (L b1 b2 b3),(i=c∧(r1=true→b1=true)∧(r2=true→b2=true)∧(r3=true→b3=true))∨i=i1∨i=i2∨i=i3) :
  ∀ b1 b2 b3 x1 x2 x3,(b1=true→Qw W z1 t x1 w)→(b2=true→Qw W z2 t x2 w)→(b3=true→Qw W z3 t x3 w)→WA P ops Q (SB W) (L b1 b2 b3) (A x1 x2 x3) w:=by
 intro b1 b2 b3 x1 x2 x3 f1 f2 f3
 refine WA.runs (fun l a w'=>WA P ops Q (SB W) l a w'∨∃ b1 b2 b3 x1 x2 x3,l=L b1 b2 b3∧a=A x1 x2 x3∧(b1=true→Qw W z1 t x1 w')∧(b2=true→Qw W z2 t x2 w')∧(b3=true→Qw W z3 t x3 w')∧SB W w'∧Below w.heap.size w w') ?_ (Or.inr ⟨b1,b2,b3,x1,x2,x3,rfl,rfl,f1,f2,f3,bW,Jg _ _⟩)
 rintro l a w' (h | ⟨b1,b2,b3,x1,x2,x3,rfl,rfl,f1,f2,f3,bw,bn⟩)
 ·exact Or.inl h
 ·refine Or.inr ⟨(hR b1 b2 b3).1,fun i hi=>?_⟩
  rcases (hR b1 b2 b3).2 i hi with ⟨rfl,q1,q2,q3⟩ | rfl | rfl | rfl
  ·exact wpOp_step hc (fun K hK=>ca b1 b2 b3 x1 x2 x3 w' f1 f2 f3 q1 q2 q3 bw bn K (fun a w'' hS hW=>hK _ _ ⟨hS,Or.inl (hW hS)⟩))
  ·obtain ⟨hw,hr,hp⟩:=Hv x1 x2 x3 w'
   refine wpOp_step h1 (fun K hK=>?_)
   rw [if_pos hw]
   unfold Oper.wp
   rw [hr]
   simp only [Oper.upon]
   exact hK _ _ ⟨Th bw,Or.inr ⟨true,b2,b3,_,x2,x3,hL1 b1 b2 b3,hp _,fun _=>⟨_,rfl,bw.size,Bi.new w' z1 t⟩,fun e=>(f2 e).b (Kx _ _),fun e=>(f3 e).b (Kx _ _),Th bw,Th bn⟩⟩
  ·obtain ⟨hw,hr,hp⟩:=al2 x1 x2 x3 w'
   refine wpOp_step h2 (fun K hK=>?_)
   rw [if_pos hw]
   unfold Oper.wp
   rw [hr]
   simp only [Oper.upon]
   exact hK _ _ ⟨Th bw,Or.inr ⟨b1,true,b3,x1,_,x3,hL2 b1 b2 b3,hp _,fun e=>(f1 e).b (Kx _ _),fun _=>⟨_,rfl,bw.size,Bi.new w' z2 t⟩,fun e=>(f3 e).b (Kx _ _),Th bw,Th bn⟩⟩
  ·obtain ⟨hw,hr,hp⟩:=al3 x1 x2 x3 w'
   refine wpOp_step h3 (fun K hK=>?_)
   rw [if_pos hw]
   unfold Oper.wp
   rw [hr]
   simp only [Oper.upon]
   exact hK _ _ ⟨Th bw,Or.inr ⟨b1,b2,true,x1,x2,_,hL3 b1 b2 b3,hp _,fun e=>(f1 e).b (Kx _ _),fun e=>(f2 e).b (Kx _ _),fun _=>⟨_,rfl,bw.size,Bi.new w' z3 t⟩,Th bw,Th bn⟩⟩
theorem WA.rows2 {P:Program} {ops:Array Oper} {Q:Exit→Act→World→Prop} {w W:World} {o1 o2 oc:Oper} {L:Bool→Bool→Array Bool} {A:Value→Value→Act} {z1 z2:List Value} {t:TypeId} (c i1 i2:Nat) (r1 r2:Bool)
  (hc:ops[c]?=some oc) (h1:ops[i1]?=some o1) (h2:ops[i2]?=some o2) (bW:SB W w)
  (ca:∀ b1 b2 x1 x2 w',(b1=true→Qw W z1 t x1 w')→(b2=true→Qw W z2 t x2 w')→(r1=true→b1=true)→(r2=true→b2=true)→SB W w'→Below w.heap.size w w'→∀ K:Act→World→Prop,Shut (∀ a w'',SB W w''→(SB W w''→WA P ops Q (SB W) ((L b1 b2).setIfInBounds c true) a w'')→K a w'')→if Region.wanted oc (yielded ops (A x1 x2).tmps)=true then Oper.wp P oc (A x1 x2) w' K Q else K ((A x1 x2).put oc.dst undef) w')
  (Hv:∀ x1 x2 w',Region.wanted o1 (yielded ops (A x1 x2).tmps)=true∧(execOp (A x1 x2).eval o1).run P w'=.ok (.value (.slice (some ⟨w'.heap.size,0,none⟩) 1 1)) (w'.alloc (.cells z1.toArray t))∧∀ u,(A x1 x2).put o1.dst u=A u x2:=by intros _ _ _;exact ⟨by rfl,by go_simp,fun _=>by kernel_rfl⟩)
  (al2:∀ x1 x2 w',Region.wanted o2 (yielded ops (A x1 x2).tmps)=true∧(execOp (A x1 x2).eval o2).run P w'=.ok (.value (.slice (some ⟨w'.heap.size,0,none⟩) 1 1)) (w'.alloc (.cells z2.toArray t))∧∀ u,(A x1 x2).put o2.dst u=A x1 u:=by intros _ _ _;exact ⟨by rfl,by go_simp,fun _=>by kernel_rfl⟩)
  (hL1:∀ b1 b2,(L b1 b2).setIfInBounds i1 true=L true b2:=by intro b1 b2;cases b1 <;> cases b2 <;> kernel_rfl)
  (hL2:∀ b1 b2,(L b1 b2).setIfInBounds i2 true=L b1 true:=by intro b1 b2;cases b1 <;> cases b2 <;> kernel_rfl)
  (hR:∀ b1 b2,Region.ready .any ops (L b1 b2)≠[]∧∀ i∈Region.ready .any ops (L b1 b2),(i=c∧(r1=true→b1=true)∧(r2=true→b2=true))∨i=i1∨i=i2) :
  ∀ b1 b2 x1 x2,(b1=true→Qw W z1 t x1 w)→(b2=true→Qw W z2 t x2 w)→WA P ops Q (SB W) (L b1 b2) (A x1 x2) w:=by
 intro b1 b2 x1 x2 f1 f2
 refine WA.runs (fun l a w'=>WA P ops Q (SB W) l a w'∨∃ b1 b2 x1 x2,l=L b1 b2∧a=A x1 x2∧(b1=true→Qw W z1 t x1 w')∧(b2=true→Qw W z2 t x2 w')∧SB W w'∧Below w.heap.size w w') ?_ (Or.inr ⟨b1,b2,x1,x2,rfl,rfl,f1,f2,bW,Jg _ _⟩)
 rintro l a w' (h | ⟨b1,b2,x1,x2,rfl,rfl,f1,f2,bw,bn⟩)
 ·exact Or.inl h
 ·refine Or.inr ⟨(hR b1 b2).1,fun i hi=>?_⟩
  rcases (hR b1 b2).2 i hi with ⟨rfl,q1,q2⟩ | rfl | rfl
  ·exact wpOp_step hc (fun K hK=>ca b1 b2 x1 x2 w' f1 f2 q1 q2 bw bn K (fun a w'' hS hW=>hK _ _ ⟨hS,Or.inl (hW hS)⟩))
  ·obtain ⟨hw,hr,hp⟩:=Hv x1 x2 w'
   refine wpOp_step h1 (fun K hK=>?_)
   rw [if_pos hw]
   unfold Oper.wp
   rw [hr]
   simp only [Oper.upon]
   exact hK _ _ ⟨Th bw,Or.inr ⟨true,b2,_,x2,hL1 b1 b2,hp _,fun _=>⟨_,rfl,bw.size,Bi.new w' z1 t⟩,fun e=>(f2 e).b (Kx _ _),Th bw,Th bn⟩⟩
  ·obtain ⟨hw,hr,hp⟩:=al2 x1 x2 w'
   refine wpOp_step h2 (fun K hK=>?_)
   rw [if_pos hw]
   unfold Oper.wp
   rw [hr]
   simp only [Oper.upon]
   exact hK _ _ ⟨Th bw,Or.inr ⟨b1,true,x1,_,hL2 b1 b2,hp _,fun e=>(f1 e).b (Kx _ _),fun _=>⟨_,rfl,bw.size,Bi.new w' z2 t⟩,Th bw,Th bn⟩⟩
theorem WA.rows1 {P:Program} {ops:Array Oper} {Q:Exit→Act→World→Prop} {w W:World} {o1 oc:Oper} {L:Bool→Array Bool} {A:Value→Act} {z1:List Value} {t:TypeId} (c i1:Nat) (r1:Bool)
  (hc:ops[c]?=some oc) (h1:ops[i1]?=some o1) (bW:SB W w)
  (ca:∀ b1 x1 w',(b1=true→Qw W z1 t x1 w')→(r1=true→b1=true)→SB W w'→Below w.heap.size w w'→∀ K:Act→World→Prop,Shut (∀ a w'',SB W w''→(SB W w''→WA P ops Q (SB W) ((L b1).setIfInBounds c true) a w'')→K a w'')→if Region.wanted oc (yielded ops (A x1).tmps)=true then Oper.wp P oc (A x1) w' K Q else K ((A x1).put oc.dst undef) w')
  (Hv:∀ x1 w',Region.wanted o1 (yielded ops (A x1).tmps)=true∧(execOp (A x1).eval o1).run P w'=.ok (.value (.slice (some ⟨w'.heap.size,0,none⟩) 1 1)) (w'.alloc (.cells z1.toArray t))∧∀ u,(A x1).put o1.dst u=A u:=by intros _ _;exact ⟨by rfl,by go_simp,fun _=>by kernel_rfl⟩)
  (hL1:∀ b1,(L b1).setIfInBounds i1 true=L true:=by intro b1;cases b1 <;> kernel_rfl)
  (hR:∀ b1,Region.ready .any ops (L b1)≠[]∧∀ i∈Region.ready .any ops (L b1),(i=c∧(r1=true→b1=true))∨i=i1) :
  ∀ b1 x1,(b1=true→Qw W z1 t x1 w)→WA P ops Q (SB W) (L b1) (A x1) w:=by
 intro b1 x1 f1
 refine WA.runs (fun l a w'=>WA P ops Q (SB W) l a w'∨∃ b1 x1,l=L b1∧a=A x1∧(b1=true→Qw W z1 t x1 w')∧SB W w'∧Below w.heap.size w w') ?_ (Or.inr ⟨b1,x1,rfl,rfl,f1,bW,Jg _ _⟩)
 rintro l a w' (h | ⟨b1,x1,rfl,rfl,f1,bw,bn⟩)
 ·exact Or.inl h
 ·refine Or.inr ⟨(hR b1).1,fun i hi=>?_⟩
  rcases (hR b1).2 i hi with ⟨rfl,q1⟩ | rfl
  ·exact wpOp_step hc (fun K hK=>ca b1 x1 w' f1 q1 bw bn K (fun a w'' hS hW=>hK _ _ ⟨hS,Or.inl (hW hS)⟩))
  ·obtain ⟨hw,hr,hp⟩:=Hv x1 w'
   refine wpOp_step h1 (fun K hK=>?_)
   rw [if_pos hw]
   unfold Oper.wp
   rw [hr]
   simp only [Oper.upon]
   exact hK _ _ ⟨Th bw,Or.inr ⟨true,_,hL1 b1,hp _,fun _=>⟨_,rfl,bw.size,Bi.new w' z1 t⟩,Th bw,Th bn⟩⟩
theorem WA.genr3 {P:Program} {ops:Array Oper} {Q:Exit→Act→World→Prop} {S:World→Prop} {l:Array Bool} {a:Act} {w W:World} {i1 s1 i2 s2 i3 s3:Nat} (v1 v2 v3:Value) (z1 z2 z3:List Value) (t:TypeId) (h:∀ b1 b2 b3 x1 x2 x3,(b1=true→Qw W z1 t x1 w)→(b2=true→Qw W z2 t x2 w)→(b3=true→Qw W z3 t x3 w)→WA P ops Q S (((l.setIfInBounds i1 b1).setIfInBounds i2 b2).setIfInBounds i3 b3) (((a.put (some s1) x1).put (some s2) x2).put (some s3) x3) w)
  (hl:(((l.setIfInBounds i1 false).setIfInBounds i2 false).setIfInBounds i3 false)=l:=by kernel_rfl) (ha:(((a.put (some s1) v1).put (some s2) v2).put (some s3) v3)=a:=by kernel_rfl):WA P ops Q S l a w:=by
 have:=h false false false v1 v2 v3 (fun h=>by cases h) (fun h=>by cases h) (fun h=>by cases h)
 rw [hl,ha] at this
 exact this
theorem Bo {R B:Nat} {w w':World} {e:TypeId} {size n:Nat} {v:Value} {xs:List Value} (h:w.ownsRow B e size v n xs) (k:Br R w w') (hB:R<B):w'.ownsRow B e size v n xs:=by
 obtain ⟨h1,h2⟩:=h
 refine ⟨h1,?_⟩
 rcases h2 with h2 | ⟨g,cap,cur,h3,h4,h5,h6⟩
 ·exact .inl h2
 ·refine .inr ⟨g,cap,cur,h3,h4,?_,h6⟩
  have hl:g<w.heap.size:=by
   rcases Nat.lt_or_ge g w.heap.size with h | h
   ·exact h
   ·rw [Array.getElem?_eq_none h] at h5;cases h5
  rw [k.block g hl (by omega)]
  exact h5
theorem Br.grown {R:Nat} {w w1 w2:World} {row:Option Nat} (h:Br R w w1) (hg:w1.grownBy w2 row) (hr:∀ k,row=some k→w.heap.size≤k):Br R w w2 :=
 ⟨hg.os.trans h.os,hg.tape.trans h.tape,hg.output.trans h.output,Jf h.size hg.size,fun i hi hn=>(hg.block i (Jl hi h.size) (fun e=>by have:=hr i e.symm;omega)).trans (h.block i hi hn)⟩
theorem Ef.grown {R A:Nat} {ts:List ByteArray} {aL:Addr} {st:St} {w w':World} (h:Ef w R A ts aL st) {B:Nat} {e:TypeId} {size n:Nat} {v:Value} {xs:List Value} (ho:w.ownsRow B e size v n xs) (hB:R<B) (he:e≠134) (hg:w.grownBy w' v.ownBlock):Ef w' R A ts aL st:=by
 have hne:∀ k,some k=v.ownBlock→B≤k∧∃ cur,w.heap[k]?=some (.cells cur e (0,0)):=fun k hk=>by
  rcases ho.2 with ⟨rfl,-⟩ | ⟨g,cap,cur,rfl,h4,h5,-⟩
  ·cases hk
  ·injection hk with hk;subst hk;exact ⟨h4,cur,h5⟩
 have hc:∀ {g:Nat} {cs:List Value} {t:TypeId},Bi w g cs t→(g<B∨t≠e)→Bi w' g cs t:=fun {g cs t} hc hd=>by
  unfold Bi at hc ⊢
  rw [hg.block g (Bi.lt hc) (fun e1=>by
   obtain ⟨h1,cur,h2⟩:=hne g e1
   rcases hd with hd | hd
   ·omega
   ·rw [h2] at hc
    injection hc with hc
    injection hc with _ hc _
    exact hd hc.symm)]
  exact hc
 cases st with
 | some l=>obtain ⟨k0,h1,h2,h3⟩:=h;exact ⟨k0,h1,h2,hc h3 (Or.inl hB)⟩
 | none =>
  obtain ⟨k0,p,h1,h2,z,a,h3,h4,⟨c,t,h5⟩,h6⟩:=h
  refine ⟨k0,p,h1,hc h2 (Or.inl hB),z,a,h3,h4,⟨c,t,?_⟩,hc h6 (Or.inr (Ne.symm he))⟩
  have hl:a.block<w.heap.size:=by
   rcases Nat.lt_or_ge a.block w.heap.size with h | h
   ·exact h
   ·rw [Array.getElem?_eq_none h] at h5;cases h5
  rw [hg.block _ hl (fun e1=>by have:=(hne _ e1).1;omega)]
  exact h5
theorem Ex {w:World} {ops:Array Oper} {rest:List Oper} {o:Oper} {a:Act} {Q:Exit→Act→World→Prop} (T e:TypeId) (z:Value) (size bytes:Nat)
  (hT:Tryz.prog.underlying T=some (.slice e)) (hi:(Tryz.prog.info? e).map (fun i=>(i.zero,i.size,i.bytes))=some (some z,size,bytes)) (hzs:z.cells.size=size) (hsz:0<size) (hbs:bytes≤1000)
  (hgd:o.guard=none) (s x:Operand) (hop:o.op=Op.call { callee:=Callee.builtin Builtin.append,args:=#[s,x],argTypes:=#[T,T] })
  (sv:Value) (n:Nat) (xs:List Value) (hs:a.eval s=sv) (B:Nat) (hown:w.ownsRow B e size sv n xs) (hB:B≤w.heap.size) (b c:Nat) (hx:a.eval x=.slice (some ⟨b,0,none⟩) 1 c)
  (cs:List Value) (t:TypeId) (hc:Bi w b cs t) (hl:cs.length=size) (h1:∀ u∈cs,u.oneCell'=true) (hn:n≤1000000)
  (hK:∀ v' w',w'.ownsRow B e size v' (n+1) (xs ++ cs)→w.grownBy w' sv.ownBlock→wpList Tryz.prog ops Q rest (a.put o.dst v') w') :
  wpList Tryz.prog ops Q (o :: rest) a w:=by
 obtain ⟨i0,hi,hz0,hz1,hz2⟩:=info_parts hi
 refine wpList_append_own w hgd s x T hop B e i0 z size bytes hT hi hz0 hz1 hz2 hzs hsz sv n xs hs hown ⟨b,0,none⟩ 1 c cs hx (by rw [hl,Nat.one_mul]) (fun j u hj=>?_) h1 (by unfold maxLen;omega) ?_ hB (fun v' w' h2 h3 _=>hK v' w' h2 h3)
 ·rw [show (⟨b,0,none⟩:Addr).add j=⟨b,j,none⟩ by simp [Addr.add];omega,hc.cell j]
  exact hj
 ·exact Jf (Nat.mul_le_mul (by omega:n+1≤1000001) hbs) (by decide)
def cP (p:Q3 × Q3):List Value:=(Ko p.1.1 p.1.2.1 p.1.2.2 p.2.1 p.2.2.1 p.2.2.2)
def cS (s:Nat × Nat × Bool):List Value:=[.int .i64 (s.1:Nat),.int .i64 (s.2.1:Nat),Iz s.2.2]
theorem Bcp (m:Int) (st:St):(ct m st).1<1000:=by
 unfold ct
 split
 ·rename_i n h
  unfold Fm at h
  rw [Option.filter_eq_some_iff] at h
  exact Ba5 h.1
 ·exact Nat.zero_lt_succ _
theorem X4 (P:ByteArray→Q3) (E:ByteArray→Int) (hP:PR P E) (R A:Nat) (ts:List ByteArray) (aL:Addr) (st:St) (c:ByteArray) (m:Int) (w:World) (e:Env R A ts aL w) (h:Ef w R A ts aL st) :
  Calls Tryz.prog 85 #[.pointer (some ⟨R,0,none⟩),I c,.int .i64 m,.func (.func 86) #[.pointer (some ⟨R,0,none⟩)] #[]] w fun e w'=>∃ v,e=.returned v ∧
   w'.ownsRow w.heap.size 30 6 v (Ow (pt P E) c m st).1.length ((Ow (pt P E) c m st).1.flatMap cP)∧Ef w' R A ts aL (Ow (pt P E) c m st).2∧Br R w w':=by
 have HW:=Ba (Ng R A ts aL st c w e h)
 have HC:=Ba (fun w1 (b:Br R w w1) (hr:Ef w1 R A ts aL (wd c st))=>Sm R A ts aL (wd c st) m w1 (e.grew b) hr)
 have hn:=Bcp m (wd c st)
 have HN:=Ba (fun w1 st1 (b:Br R w w1) (hr:Ef w1 R A ts aL st1)=>Bgs P E hP R A ts aL st1 w1 (e.grew b) hr)
 have hR:=e.hR
 unfold Ow
 rw [Kl]
 generalize wd c st=st1 at *
 generalize (ct m st1).1=n at *
 generalize (ct m st1).2=st2 at *
 clear e h
 go_enter Tryz.func85,Tryz.ntmps85
 go_wp2_with (first | (go_at_call 84;refine HW.out.mono ?_;rintro e w1 ⟨rfl,k1,g1⟩) | (go_at_call 145;refine (HC.out _ g1 k1).mono ?_;rintro e w2 ⟨rfl,k2,g2⟩))
 have G2:=g1.trans g2
 clear HW HC g1 k1 g2
 go_loopw [9,16] (fun v i wr=>∃ k:Nat,k≤n∧i=.int .i64 (k:Nat)∧wr.ownsRow w.heap.size 30 6 v k ((Kh (pt P E) k st2).1.flatMap cP)∧Ef wr R A ts aL (Kh (pt P E) k st2).2∧Br R w wr) (fun _ i _=>n - (intOf i).toNat)
 case atStart=>exact ⟨0,Nat.zero_le _,rfl,World.ownsRow_nil _ _ _ _,k2,G2⟩
 case round =>
  obtain ⟨k,hk,rfl,ho,kk,G⟩:=hrel
  by_cases hlt:k<n
  ·have hlt':(k:Int)<(n:Int):=by omega
   have hs:=Ba (Np (pt P E) k st2)
   obtain ⟨L,hL⟩:∃ L,L=(Kh (pt P E) k st2).1:=⟨_,rfl⟩
   obtain ⟨st3,h3⟩:∃ L,L=(Kh (pt P E) k st2).2:=⟨_,rfl⟩
   rw [← hL] at ho
   rw [← h3] at kk
   have N1:=HN.out wr st3 G kk
   obtain ⟨x,hx⟩:∃ x,x=(pt P E st3).1:=⟨_,rfl⟩
   obtain ⟨st4,h4⟩:∃ x,x=(pt P E st3).2:=⟨_,rfl⟩
   rw [← hx,← h4] at N1
   have HS:Hid (Kh (pt P E) (k+1) st2=(L ++ [x],st4)):=by rw [hs.out,← hL,← h3,← hx,← h4];rfl
   clear hL h3 hx h4 hs
   obtain ⟨⟨qn,qs,qd⟩,rn,rs,rd⟩:=x
   go_wp2_with (first | (go_at_call 86;refine N1.mono ?_;rintro e w3 ⟨rfl,k3,g3⟩) | (refine Ex 43 30 ((qa2 false eS eS false eS eS)) 6 80 Tryz.underlying43 (by kernel_rfl) rfl (by decide) (by decide) rfl (.tmp 18) (.tmp 21) rfl _ k _ rfl w.heap.size ((Bo ho g3 hR).alloc _) (Jf (Jf G.size g3.size) (by simp)) w3.heap.size 1 rfl (Ko qn qs qd rn rs rd) 30 (Bi.new _ _ _) rfl (by simp [Value.oneCell']) (by omega) ?_;intro v' w4 h4 h5))
   go_roundw
   case rel =>
    have ho3:=(Bo ho g3 hR).alloc (.cells (qv2 qn qs qd rn rs rd) 30)
    have G3:=(G.trans g3).trans (Ib ((Jg w3.heap.size w3).alloc (Jb _) (.cells (qv2 qn qs qd rn rs rd) 30)))
    refine ⟨k+1,by omega,by go_num,?_,?_,G3.grown h5 (fun g hg=>(ho3.lt g hg).1)⟩
    ·rw [HS.out,List.flatMap_append]
     exact h4
    ·rw [HS.out]
     exact (k3.grew (Jl hR (Jf G.size g3.size)) ((Jg _ _).alloc (Jb _) _)).grown ho3 hR (by decide) h5
   case measure=>simp [intOf];omega
  ·have hke:k=n:=by omega
   subst hke
   go_wp2
   go_ret
   exact ⟨_,rfl,ho,kk,G⟩
theorem neL {s:ByteArray} {l:List UInt8} (h:s≠⟨l.toArray⟩):(s.toList == l)=false:=by
 rw [ByteArray.toList_eq]
 obtain ⟨⟨k⟩⟩:=s
 refine beq_eq_false_iff_ne.2 fun e=>h ?_
 subst e
 rfl
theorem Qi {fn:Func} {p:Tmp} {R:Ending→World→Prop} {a:Act} {w:World} {g:Nat} {x y z:Value} (h:fn.results=#[.cell p 103]) (hp:a.tmps.getD p undef=.pointer (some ⟨g,0,none⟩)) (hd:a.defers=[])
  (hc:Bi w g [x,y,z] 103) (hR:R (.returned (.agg #[x,y,z])) w):bodyPost Tryz.prog fn R .ret a w :=
 ⟨hd,.agg #[x,y,z],results_cell_row (P:=Tryz.prog) h _ w g 103 #[x,y,z] (0,0) _ hp hc Tryz.underlying103 rfl (by kernel_rfl),hR⟩
theorem Zi (R A:Nat) (ts:List ByteArray) (aL:Addr) (st:St) (n:Int) (h0:0≤n) (h1:n≤1000000) (w:World):RC R A ts aL 89 #[.pointer (some ⟨R,0,none⟩),.int .i64 n] w st (vS (sg (n - 1) st).1) (sg (n - 1) st).2:=by
 intro e h
 have hR:=e.hR
 obtain ⟨a,ha,hs⟩:=e.sens.2 7 (by simp)
 have HN:=Ba (fun w1 st1 (b:Br R w w1) (hr:Ef w1 R A ts aL st1)=>Sm R A ts aL st1 (n - 1) w1 (e.grew b) hr)
 have HX:=Ba (fun w1 st1 (b:Br R w w1) (hr:Ef w1 R A ts aL st1)=>Qk R A ts aL st1 w1 (e.grew b) hr)
 have HR:=Ba (fun w1 (b:Br R w w1)=>(e.grew b).hR)
 have H0:=Ba (fun w1 (b:Below w.heap.size w w1)=>h.grew e.hR b)
 have HC:=Ba (fun w1 (b:Br R w w1) (st1:St) (hr:Ef w1 R A ts aL st1)=>Fy R A ts aL st1 _ a w1 (e.grew b).hR hr ha (hs.grew b e.hR))
 have HG:=Ba (fun w1 (b:Br R w w1)=>(hs.grew b e.hR).2.2.1)
 unfold sg kd
 obtain ⟨x,hx⟩:∃ q,q=(ct (n - 1) st).1:=⟨_,rfl⟩
 obtain ⟨st1,hs1⟩:∃ q,q=(ct (n - 1) st).2:=⟨_,rfl⟩
 obtain ⟨y,hy⟩:∃ q,q=(ct (n - 1) st1).1:=⟨_,rfl⟩
 obtain ⟨st2,hs2⟩:∃ q,q=(ct (n - 1) st1).2:=⟨_,rfl⟩
 obtain ⟨t,ht⟩:∃ q,q=(nx st2).1:=⟨_,rfl⟩
 obtain ⟨st3,hs3⟩:∃ q,q=(nx st2).2:=⟨_,rfl⟩
 have N1:=Ba (fun w1 (b:Br R w w1) (k:Ef w1 R A ts aL st)=>HN.out w1 st b k)
 have N2:=Ba (fun w1 (b:Br R w w1) (k:Ef w1 R A ts aL st1)=>HN.out w1 st1 b k)
 have N3:=Ba (fun w1 (b:Br R w w1) (k:Ef w1 R A ts aL st2)=>HX.out w1 st2 b k)
 rw [← hx,← hs1] at N1
 rw [← hy,← hs2] at N2
 rw [← ht,← hs3] at N3
 simp only [← hx,← hs1,← hy,← hs2,← ht,← hs3]
 obtain ⟨u,hu⟩:∃ u,u=if t=tD∨t=tN then st3 else none:=⟨_,rfl⟩
 have HU:=Ba hu
 obtain ⟨f,hf⟩:∃ f,f=decide (t=tD):=⟨_,rfl⟩
 have HF:=Ba hf
 simp only [← hu,← hf]
 clear hx hy ht hs1 hs2 hs3 HN HX hs e h hu hf
 go_enter Tryz.func89,Tryz.ntmps89
 go_wp2_with fail
 obtain ⟨w0,hq,kr,b0⟩:=Es w [.int .i64 0,.int .i64 0,Iz false] 103
 rw [← hq]
 clear hq
 go_upto_region 2 with (go_at_call 145;refine (N1.out _ (Ib b0) (H0.out _ b0)).mono ?_;rintro e w1 ⟨rfl,k1,g1⟩)
 have G1:=(Ib b0).trans g1
 go_upto_region 3 with (go_at_call 145;refine (N2.out _ G1 k1).mono ?_;rintro e w2 ⟨rfl,k2,g2⟩)
 have G2:=G1.trans g2
 go_upto_region 4 with fail
 obtain ⟨w3,hq,kx,b3⟩:=Es w2 [.int .i64 (x:Nat),.int .i64 (y:Nat),Iz false] 103
 rw [← hq]
 clear hq
 have G3:=G2.trans (Ib b3)
 have k3:=Ef.grew k2 (HR.out _ G2) b3
 have kr3:=(Br.cel g2 (Br.cel g1 kr (by omega)) (by omega)).b b3
 have hg2:w.heap.size<w2.heap.size:=Jl kr.lt (Jf g1.size g2.size)
 clear kr b0 g1 k1 g2 k2 G1 G2 b3 N1 N2 H0
 go_upto_region 5 with (go_at_call 144;refine (N3.out _ G3 k3).mono ?_;rintro e w4 ⟨rfl,k4,g4⟩)
 have G4:=G3.trans g4
 have kr4:=Br.cel g4 kr3 (by omega)
 have kx4:=Br.cel g4 kx (by omega)
 have hv:=HG.out _ G4
 clear kr3 kx g4 G3 k3 N3 HG
 by_cases hd:t=tD
 ·subst hd
  have HQ:Hid (u=st3):=by rw [HU.out,if_pos (Or.inl rfl)];rfl
  have HP:Hid (f=true):=by rw [HF.out];rfl
  have x2:=Bi.o kx4 2
  have c2:=kx4.cell 2
  go_upto_region 8 with fail
  have k5:=k4.put kx4 (by omega) (by decide) 2 (Iz true)
  have kr5:=kr4.t (show w.heap.size≠w2.heap.size by omega) 2 (Iz true)
  have G5:=G4.only ((Bu.refl w2.heap.size w4).setCell 2 (Iz true)) (by omega)
  have kx5:Bi (w4.setCell ⟨w2.heap.size,2,none⟩ (Iz true)) w2.heap.size [.int .i64 (x:Nat),.int .i64 (y:Nat),Iz true] 103:=kx4.set 2 (Iz true)
  clear k4 kr4 G4 kx4 x2 c2 hv
  generalize w4.setCell _ _=w5 at *
  go_wp2_with (first | (refine Je rfl 103 _ rfl _ rfl 103 _ (0,0) _ kx5 Tryz.underlying103 rfl (by kernel_rfl) ?_) | (refine Jj rfl 103 _ _ rfl _ #[.int .i64 (x:Nat),.int .i64 (y:Nat),Iz true] rfl rfl 103 _ kr5 (by kernel_rfl) rfl (by kernel_rfl) ?_))
  exact Qi (p:=4) (by kernel_rfl) rfl rfl (kr5.rowS _) ⟨by rw [HP.out],by rw [HQ.out];exact k5.row kr5 hR (by decide) _,G5.row (Jb _) _⟩
 ·have HP:Hid (f=false):=by rw [HF.out];exact decide_eq_false hd
  have q1:(t.toList == [100])=false:=neL hd
  by_cases hn:t=tN
  ·have HQ:Hid (u=st3):=by rw [HU.out,if_pos (Or.inr hn)];rfl
   subst hn
   go_wp2_with (first | (refine Je rfl 103 _ rfl _ rfl 103 _ (0,0) _ kx4 Tryz.underlying103 rfl (by kernel_rfl) ?_) | (refine Jj rfl 103 _ _ rfl _ #[.int .i64 (x:Nat),.int .i64 (y:Nat),Iz false] rfl rfl 103 _ kr4 (by kernel_rfl) rfl (by kernel_rfl) ?_))
   exact Qi (p:=4) (by kernel_rfl) rfl rfl (kr4.rowS _) ⟨by rw [HP.out],by rw [HQ.out];exact k4.row kr4 hR (by decide) _,G4.row (Jb _) _⟩
  ·have HQ:Hid (u=none):=by rw [HU.out,if_neg (fun h=>h.elim hd hn)];rfl
   have q2:(t.toList == [110])=false:=neL hn
   go_upto_region 10 with (go_at_call 91;refine (HC.out _ G4 _ k4).mono ?_;rintro e w5 ⟨rfl,k5,g5⟩)
   have G5:=G4.trans g5
   have kr5:=Br.cel g5 kr4 (by omega)
   have kx5:=Br.cel g5 kx4 (by omega)
   go_wp2_with (first | (refine Je rfl 103 _ rfl _ rfl 103 _ (0,0) _ kx5 Tryz.underlying103 rfl (by kernel_rfl) ?_) | (refine Jj rfl 103 _ _ rfl _ #[.int .i64 (x:Nat),.int .i64 (y:Nat),Iz false] rfl rfl 103 _ kr5 (by kernel_rfl) rfl (by kernel_rfl) ?_))
   exact Qi (p:=4) (by kernel_rfl) rfl rfl (kr5.rowS _) ⟨by rw [HP.out],by rw [HQ.out];exact k5.row kr5 hR (by decide) _,G5.row (Jb _) _⟩
theorem Bge (Cb Pb:Nat) (a0:Option Addr) (nP cP0:Nat) (pcs:List Value) (hnP:nP≤1000000) (R A:Nat) (ts:List ByteArray) (aL:Addr) (st:St) (w:World) (e:Env R A ts aL w) (h:Ef w R A ts aL st)
  (kc:Bi w Cb [.pointer (some ⟨R,0,none⟩)] 135) (kp:Bi w Pb (.slice a0 nP cP0 :: pcs) 46) :
  Calls Tryz.prog 88 #[.pointer (some ⟨Cb,0,none⟩),.pointer (some ⟨Pb,0,none⟩)] w fun e w'=>e=.returned (vS (sg ((nP:Int) - 1) st).1)∧Ef w' R A ts aL (sg ((nP:Int) - 1) st).2∧Br R w w':=by
 have hR:=e.hR
 have HS:=Ba (fun w1 (b:Below w.heap.size w w1)=>Zi R A ts aL st nP (by omega) (by omega) w1 (e.grew (Ib b)) (h.grew e.hR b))
 obtain ⟨x,hx⟩:∃ q,q=(sg ((nP:Int) - 1) st).1:=⟨_,rfl⟩
 obtain ⟨st1,hs1⟩:∃ q,q=(sg ((nP:Int) - 1) st).2:=⟨_,rfl⟩
 rw [← hx,← hs1] at HS
 rw [← hx,← hs1]
 clear hx hs1 h e
 obtain ⟨xa,xb,xc⟩:=x
 go_enter Tryz.func88,Tryz.ntmps88
 go_upto_region 1 with fail
 obtain ⟨w0,hq,kr,b0⟩:=Es w [.int .i64 0,.int .i64 0,Iz false] 103
 rw [← hq]
 clear hq
 have c0:w0.cell? ⟨Cb,0,none⟩=some (.pointer (some ⟨R,0,none⟩)):=(kc.b b0).cell 0
 have p0:w0.cell? ⟨Pb,0,none⟩=some (.slice a0 nP cP0):=(kp.b b0).cell 0
 go_wp2_with (first | (go_at_call 89;refine (HS.out _ b0).mono ?_;rintro e w1 ⟨rfl,k1,g1⟩;have kr1:=Br.cel g1 kr (by omega)) | (refine Jj rfl 103 _ _ rfl _ #[.int .i64 (xa:Nat),.int .i64 (xb:Nat),Iz xc] rfl rfl 103 _ kr1 (by kernel_rfl) rfl (by kernel_rfl) ?_))
 exact Qi (p:=2) (by kernel_rfl) rfl rfl (kr1.rowS _) ⟨rfl,k1.row kr1 hR (by decide) _,((Ib b0).trans g1).row (Jb _) _⟩
theorem Bhb (Cb Pb:Nat) (a0:Option Addr) (nP cP0:Nat) (pcs:List Value) (hnP:nP≤1000000) (R A:Nat) (ts:List ByteArray) (aL:Addr) (st:St) (c:ByteArray) (m:Int) (w:World) (e:Env R A ts aL w) (h:Ef w R A ts aL st) (kc:Bi w Cb [.pointer (some ⟨R,0,none⟩)] 135) (kp:Bi w Pb (.slice a0 nP cP0 :: pcs) 46) (hCb:R<Cb) (hPb:R<Pb) :
  Calls Tryz.prog 87 #[.pointer (some ⟨R,0,none⟩),I c,.int .i64 m,.func (.func 88) #[] #[.pointer (some ⟨Cb,0,none⟩),.pointer (some ⟨Pb,0,none⟩)]] w fun e w'=>∃ v,e=.returned v ∧
   w'.ownsRow w.heap.size 103 3 v (Ow (sg ((nP:Int) - 1)) c m st).1.length ((Ow (sg ((nP:Int) - 1)) c m st).1.flatMap cS)∧Ef w' R A ts aL (Ow (sg ((nP:Int) - 1)) c m st).2∧Br R w w':=by
 have HW:=Ba (Ng R A ts aL st c w e h)
 have HC:=Ba (fun w1 (b:Br R w w1) (hr:Ef w1 R A ts aL (wd c st))=>Sm R A ts aL (wd c st) m w1 (e.grew b) hr)
 have hn:=Bcp m (wd c st)
 have HN:=Ba (fun w1 st1 (b:Br R w w1) (hr:Ef w1 R A ts aL st1)=>Bge Cb Pb a0 nP cP0 pcs hnP R A ts aL st1 w1 (e.grew b) hr (Br.cel b kc (by omega)) (Br.cel b kp (by omega)))
 have hR:=e.hR
 unfold Ow
 rw [Kl]
 generalize wd c st=st1 at *
 generalize (ct m st1).1=n at *
 generalize (ct m st1).2=st2 at *
 clear e h
 go_enter Tryz.func87,Tryz.ntmps87
 go_wp2_with (first | (go_at_call 84;refine HW.out.mono ?_;rintro e w1 ⟨rfl,k1,g1⟩) | (go_at_call 145;refine (HC.out _ g1 k1).mono ?_;rintro e w2 ⟨rfl,k2,g2⟩))
 have G2:=g1.trans g2
 clear HW HC g1 k1 g2
 go_loopw [9,16] (fun v i wr=>∃ k:Nat,k≤n∧i=.int .i64 (k:Nat)∧wr.ownsRow w.heap.size 103 3 v k ((Kh (sg ((nP:Int) - 1)) k st2).1.flatMap cS)∧Ef wr R A ts aL (Kh (sg ((nP:Int) - 1)) k st2).2∧Br R w wr) (fun _ i _=>n - (intOf i).toNat)
 case atStart=>exact ⟨0,Nat.zero_le _,rfl,World.ownsRow_nil _ _ _ _,k2,G2⟩
 case round =>
  obtain ⟨k,hk,rfl,ho,kk,G⟩:=hrel
  by_cases hlt:k<n
  ·have hlt':(k:Int)<(n:Int):=by omega
   have hs:=Ba (Np (sg ((nP:Int) - 1)) k st2)
   obtain ⟨L,hL⟩:∃ L,L=(Kh (sg ((nP:Int) - 1)) k st2).1:=⟨_,rfl⟩
   obtain ⟨st3,h3⟩:∃ L,L=(Kh (sg ((nP:Int) - 1)) k st2).2:=⟨_,rfl⟩
   rw [← hL] at ho
   rw [← h3] at kk
   have N1:=HN.out wr st3 G kk
   obtain ⟨x,hx⟩:∃ x,x=(sg ((nP:Int) - 1) st3).1:=⟨_,rfl⟩
   obtain ⟨st4,h4⟩:∃ x,x=(sg ((nP:Int) - 1) st3).2:=⟨_,rfl⟩
   rw [← hx,← h4] at N1
   have HS:Hid (Kh (sg ((nP:Int) - 1)) (k+1) st2=(L ++ [x],st4)):=by rw [hs.out,← hL,← h3,← hx,← h4];rfl
   clear hL h3 hx h4 hs
   obtain ⟨xa,xb,xc⟩:=x
   go_wp2_with (first | (go_at_call 88;refine N1.mono ?_;rintro e w3 ⟨rfl,k3,g3⟩) | (refine Ex 44 103 (.agg #[.int .i64 0,.int .i64 0,Iz false]) 3 24 Tryz.underlying44 (by kernel_rfl) rfl (by decide) (by decide) rfl (.tmp 18) (.tmp 21) rfl _ k _ rfl w.heap.size ((Bo ho g3 hR).alloc _) (Jf (Jf G.size g3.size) (by simp)) w3.heap.size 1 rfl [.int .i64 (xa:Nat),.int .i64 (xb:Nat),Iz xc] 103 (Bi.new _ _ _) rfl (by simp [Value.oneCell']) (by omega) ?_;intro v' w4 h4 h5))
   go_roundw
   case rel =>
    have ho3:=(Bo ho g3 hR).alloc (.cells #[.int .i64 (xa:Nat),.int .i64 (xb:Nat),Iz xc] 103)
    have G3:=(G.trans g3).trans (Ib ((Jg w3.heap.size w3).alloc (Jb _) (.cells #[.int .i64 (xa:Nat),.int .i64 (xb:Nat),Iz xc] 103)))
    refine ⟨k+1,by omega,by go_num,?_,?_,G3.grown h5 (fun g hg=>(ho3.lt g hg).1)⟩
    ·rw [HS.out,List.flatMap_append]
     exact h4
    ·rw [HS.out]
     exact (k3.grew (Jl hR (Jf G.size g3.size)) ((Jg _ _).alloc (Jb _) _)).grown ho3 hR (by decide) h5
   case measure=>simp [intOf];omega
  ·have hke:k=n:=by omega
   subst hke
   go_wp2
   go_ret
   exact ⟨_,rfl,ho,kk,G⟩
end Go.Proofs.YtnplifkgeeicjaaGreatDoor
