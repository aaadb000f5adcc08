import Derived.Test.YtnplifkgeeicjaaGreatDoorV42
import Derived.Test.YtnplifkgeeicjaaGreatDoorV44
namespace Go.Proofs.YtnplifkgeeicjaaGreatDoor
open Go.RowKit
theorem Uu (s:ByteArray):∀ n a i,(Pj s n a i).length≤n+1
 | 0,a,i=>by rw [Pj];split <;> simp
 | n+1,a,i=>by
  have h1:=Uu s n (i+1) (i+1)
  have h2:=Uu s n a (i+1)
  rw [Pj]
  split
  ·split
   ·rw [List.length_cons];omega
   ·omega
  ·omega
theorem Nh (s:ByteArray) (t:ByteArray):∀ n a i,t∈Pj s n a i→t.size≤s.size
 | 0,a,i,h=>by
  rw [Pj] at h
  split at h
  ·simp at h;subst h;rw [ByteArray.size_extract];omega
  ·cases h
 | n+1,a,i,h=>by
  rw [Pj] at h
  split at h
  ·split at h
   ·rcases List.mem_cons.1 h with rfl | h
    ·rw [ByteArray.size_extract];omega
    ·exact Nh s t n _ _ h
   ·exact Nh s t n _ _ h
  ·exact Nh s t n _ _ h
def Wl (L:List Value):Nat→List Value→List Value
 | _,[]=>L
 | o,v :: r=>Wl (L.set o v) (o+1) r
theorem Bnm {g:Nat} {t:TypeId}:∀ (vs:List Value) {w:World} {L:List Value} (_:Bi w g L t) (o:Nat),Bi (w.setCells g o vs) g (Wl L o vs) t
 | [],_,_,h,_=>h
 | v :: r,_,_,h,o=>Bnm r (h.set o v) (o+1)
theorem Gx {g:Nat} {a:World}:∀ (vs:List Value) {w:World} (_:Bu g a w) (o:Nat),Bu g a (w.setCells g o vs)
 | [],_,h,_=>h
 | v :: r,_,h,o=>Gx r (h.setCell o v) (o+1)
theorem Blg {w:World} {g:Nat} {L:List Value} {t:TypeId} (h:Bi w g L t) (o n:Nat) (hl:o+n≤L.length):w.there g o n:=fun j hj=>by
 refine ⟨?_,h.o _⟩
 rw [h.cell (o+j),List.getElem?_eq_getElem (by omega)]
 rfl
theorem Ef.only {R A:Nat} {ts:List ByteArray} {aL:Addr} {st:St} {w w':World} (h:Ef w R A ts aL st) {g:Nat} {cs:List Value} {t:TypeId} (hc:Bi w g cs t) (hg:R<g) (ht:t≠134) (ho:Bu g w w'):Ef w' R A ts aL st:=by
 cases st with
 | some l=>obtain ⟨k0,h1,h2,h3⟩:=h;exact ⟨k0,h1,h2,ho.cel h3 (by omega)⟩
 | none =>
  obtain ⟨k0,p,h1,h2,z,a,h3,h4,h5,h6⟩:=h
  have hp:p≠g:=by
   rintro rfl
   have:=(Option.some.inj (h6.symm.trans hc))
   injection this with _ e _
   exact ht e.symm
  exact ⟨k0,p,h1,ho.cel h2 (by omega),z,a,h3,h4,by rw [ho.block _ (by omega)];exact h5,ho.cel h6 hp⟩
theorem M9.mono {R R':Nat} {w:World} {a:Addr} (h:M9 R w a) (hR:R≤R'):M9 R' w a :=
 ⟨⟨Jl h.1.1 hR,Jl h.1.2.1 hR,h.1.2.2⟩,fun g hg=>(h.2 g hg).elim fun b hb=>⟨b,hb.1,Jl hb.2.1 hR,Jl hb.2.2.1 hR,hb.2.2.2⟩⟩
theorem Sen.b {w w':World} {g:Nat} {a:Addr} (h:Sen w.heap.size w g a) (k:Below w.heap.size w w'):Sen w.heap.size w' g a:=by
 obtain ⟨h1,h2,h3,h4⟩:=h
 refine ⟨h1,h2,?_,?_⟩
 ·rw [k.cell (p:=⟨g,0,none⟩) h1];exact h3
 ·rw [k.block _ h2];exact h4
theorem M9.b {w w':World} {a:Addr} (h:M9 w.heap.size w a) (k:Below w.heap.size w w'):M9 w.heap.size w' a :=
 ⟨h.1.b k,fun g hg=>(h.2 g hg).elim fun b hb=>⟨b,hb.1,hb.2.b k⟩⟩
theorem By {w:World} {B:Nat} {e:TypeId} {size n:Nat} {v:Value} {xs:List Value} (h:w.ownsRow B e size v n xs):∃ a c,v=.slice a n c:=by
 rcases h.2 with ⟨rfl,rfl⟩ | ⟨g,cap,cur,rfl,-⟩
 ·exact ⟨none,0,rfl⟩
 ·exact ⟨_,_,rfl⟩
abbrev C4 (x:Nat→Q3):List Value:=[Iz (x 0).1,I (x 0).2.1,I (x 0).2.2,Iz (x 1).1,I (x 1).2.1,I (x 1).2.2,Iz (x 2).1,I (x 2).2.1,I (x 2).2.2,Iz (x 3).1,I (x 3).2.1,I (x 3).2.2,Iz (x 4).1,I (x 4).2.1,I (x 4).2.2,Iz (x 5).1,I (x 5).2.1,I (x 5).2.2]
abbrev Z18:List Value:=(ql6 false eS eS false eS eS false eS eS false eS eS false eS eS false eS eS)
theorem Bpd (x:Nat→Q3):vF x=.agg (C4 x).toArray:=rfl
abbrev Dq (v1 v2 v3:Value) (F G:List Value):List Value:=v1 :: v2 :: v3 :: (F ++ G)
def Oq (w:World) (aL:Addr) (er:Value):Prop:=∃ (p:Nat) (z:Int) (a:Addr),er=.iface 132 (.pointer (some ⟨p,0,none⟩))∧a≠aL∧(∃ c t,w.heap[a.block]?=some (.cells c t (0,0)))∧Bi w p [.int .i64 z,.iface 348 (.pointer (some a))] 134
abbrev Bs:Value:=.slice none 0 0
theorem Env.only {R A:Nat} {ts:List ByteArray} {aL:Addr} {w w':World} {g:Nat} (h:Env R A ts aL w) (k:Bu g w w') (hg:R<g):Env R A ts aL w':=by
 have kk:∀ b,b<R→w'.heap[b]?=w.heap[b]?:=fun b hb=>k.block b (by omega)
 have hs:∀ g a,Sen R w g a→Sen R w' g a:=fun g a ⟨h1,h2,h3,h4⟩=>⟨h1,h2,by rw [World.cell?_of_block (kk g h1)];exact h3,by rw [kk _ h2];exact h4⟩
 exact ⟨by rw [k.size];exact h.hR,⟨hs _ _ h.sens.1,fun g hg=>(h.sens.2 g hg).elim fun b hb=>⟨b,hb.1,hs _ _ hb.2⟩⟩,
  ⟨h.tk.1,h.tk.2.1,fun j hj=>by rw [World.cell?_of_block (kk A h.tk.1)];exact h.tk.2.2.1 j hj,h.tk.2.2.2⟩,
  fun j hj=>by rw [World.cell?_of_block (kk _ h.tabR)];exact h.tab j hj,h.tabR⟩
theorem Bv {w w':World} {B g:Nat} {e:TypeId} {size n:Nat} {v:Value} {xs:List Value} (h:w.ownsRow B e size v n xs) (k:Bu g w w') (hg:g<B):w'.ownsRow B e size v n xs:=by
 obtain ⟨h1,h2⟩:=h
 refine ⟨h1,?_⟩
 rcases h2 with h2 | ⟨q,cap,cur,h3,h4,h5,h6⟩
 ·exact .inl h2
 ·exact .inr ⟨q,cap,cur,h3,h4,by rw [k.block q (by omega)];exact h5,h6⟩
theorem Cf {w:World} {B B':Nat} {e:TypeId} {size n:Nat} {v:Value} {xs:List Value} (h:w.ownsRow B e size v n xs) (hB:B'≤B):w.ownsRow B' e size v n xs:=by
 obtain ⟨h1,h2⟩:=h
 refine ⟨h1,?_⟩
 rcases h2 with h2 | ⟨q,cap,cur,h3,h4,h5⟩
 ·exact .inl h2
 ·exact .inr ⟨q,cap,cur,h3,Jf hB h4,h5⟩
abbrev Z39:List Value:=[Bs,Bs,Bs,Iz false,I eS,I eS,Iz false,I eS,I eS,Iz false,I eS,I eS,Iz false,I eS,I eS,Iz false,I eS,I eS,Iz false,I eS,I eS,Iz false,I eS,I eS,Iz false,I eS,I eS,Iz false,I eS,I eS,Iz false,I eS,I eS,Iz false,I eS,I eS,Iz false,I eS,I eS]
structure RW (w:World) (R A:Nat) (ts:List ByteArray) (aL:Addr) (Pb:Nat) (st:St) (cs:List Value) (wi:World):Prop where
 env:Env R A ts aL wi
 rdr:Ef wi R A ts aL st
 kc:Bi wi (R+1) [.pointer (some ⟨R,0,none⟩)] 135
 kp:Bi wi Pb cs 46
 kz:Bi wi w.heap.size Z39 46
 bw:Below w.heap.size w wi
 hZ:w.heap.size<R
 hP:R+1<Pb
theorem RW.grew {w:World} {R A:Nat} {ts:List ByteArray} {aL:Addr} {Pb:Nat} {st st':St} {cs:List Value} {wi wj:World} (h:RW w R A ts aL Pb st cs wi) (k:Br R wi wj) (hr:Ef wj R A ts aL st'):RW w R A ts aL Pb st' cs wj :=
 ⟨h.env.grew k,hr,k.cel h.kc (by omega),k.cel h.kp (by have:=h.hP;omega),k.cel h.kz (by have:=h.hZ;omega),k.b h.bw (by have:=h.hZ;omega) (by have:=h.hZ;have:=h.env.hR;omega),h.hZ,h.hP⟩
theorem RW.only {w:World} {R A:Nat} {ts:List ByteArray} {aL:Addr} {Pb:Nat} {st:St} {cs cs':List Value} {wi wj:World} (h:RW w R A ts aL Pb st cs wi) (k:Bu Pb wi wj) (hc:Bi wj Pb cs' 46):RW w R A ts aL Pb st cs' wj:=by
 have hP:=h.hP
 have hZ:=h.hZ
 exact ⟨h.env.only k (by omega),h.rdr.only h.kp (by omega) (by decide) k,k.cel h.kc (by omega),hc,k.cel h.kz (by omega),k.b h.bw (by omega),hZ,hP⟩
theorem RW.set {w:World} {R A:Nat} {ts:List ByteArray} {aL:Addr} {Pb:Nat} {st:St} {cs:List Value} {wi:World} (h:RW w R A ts aL Pb st cs wi) (j:Nat) (v:Value):RW w R A ts aL Pb st (cs.set j v) (wi.setCell ⟨Pb,j,none⟩ v) :=
 h.only ((Bu.refl Pb wi).setCell j v) (h.kp.set j v)
theorem RW.mid {w:World} {R A:Nat} {ts:List ByteArray} {aL:Addr} {Pb:Nat} {st:St} {cs:List Value} {wi:World} (h:RW w R A ts aL Pb st cs wi) (o:Nat) (vs:List Value):RW w R A ts aL Pb st (Wl cs o vs) (wi.setCells Pb o vs) :=
 h.only (Gx vs (Bu.refl Pb wi) o) (Bnm vs h.kp o)
theorem Bmm {w w':World} {B A:Nat} {ts:List ByteArray} (h:w.ownsRow B 9 1 (.slice (some ⟨A,0,none⟩) ts.length ts.length) ts.length (ts.map Value.string)) (k:Below w.heap.size w w'):∀ j,j<ts.length→w'.cell? ⟨A,j,none⟩=some (I (nt ts j)):=fun j hj=>by
 have h1:=h.cells (g:=A) rfl j (I (nt ts j)) (by rw [List.getElem?_map,List.getElem?_eq_getElem hj];unfold nt;rw [Jh,List.getElem?_eq_getElem hj];rfl)
 rw [show (⟨A,0,none⟩:Addr).add j=⟨A,j,none⟩ by simp [Addr.add];omega] at h1
 exact Bh h1 k
theorem Lm {w:World} {g:Nat} {L:List Value} {t:TypeId} (h:Bi w g L t):w.rangeAt g 0 L:=fun j v hv=>by
 rw [h.cell,Nat.zero_add]
 exact hv
theorem Bca {w:World} {g:Nat} {cs:List Value} (h:Bi w g cs 46) (hl:cs.length=39):(loadVar 46 ⟨g,0,none⟩).run Tryz.prog w=.ok (.agg cs.toArray) w :=
 run_loadVar_row w g 46 46 cs.toArray (0,0) _ h Tryz.underlying46 rfl (by rw [List.size_toArray,hl];kernel_rfl)
theorem Ew {fn:Func} {p u:Tmp} {R:Ending→World→Prop} {a:Act} {w:World} {g:Nat} {cs:List Value} {v:Value} (h:fn.results=#[.cell p 46,.tmp u]) (hp:a.tmps.getD p undef=.pointer (some ⟨g,0,none⟩)) (hu:a.tmps.getD u undef=v) (hd:a.defers=[])
  (hc:Bi w g cs 46) (hl:cs.length=39) (hR:R (.returned (.tuple #[.agg cs.toArray,v])) w):bodyPost Tryz.prog fn R .ret a w:=by
 refine ⟨hd,.tuple #[.agg cs.toArray,v],?_,hR⟩
 have hp':a.tmps[p]?.getD undef=.pointer (some ⟨g,0,none⟩):=by simpa using hp
 have hu':a.tmps[u]?.getD undef=v:=by simpa using hu
 simp only [results,h]
 simp [hp',hu',asAddr,Bca hc hl]
theorem Oq.row {w:World} {aL:Addr} {er:Value} {g:Nat} {cs:List Value} {t:TypeId} (h:Oq w aL er) (hc:Bi w g cs t) (ht:t≠134) (ds:List Value):Oq (w.setRow g ds.toArray) aL er:=by
 obtain ⟨p,z,a,h1,h2,⟨c,t',h3⟩,h4⟩:=h
 have hp:p≠g:=by
  rintro rfl
  have:=(Option.some.inj (h4.symm.trans hc))
  injection this with _ e _
  exact ht e.symm
 have ho:=(Bu.refl g w).setRow ds.toArray
 refine ⟨p,z,a,h1,h2,?_,ho.cel h4 hp⟩
 by_cases hg:a.block=g
 ·exact ⟨_,_,by rw [hg];exact hc.rowS ds⟩
 ·exact ⟨c,t',by rw [ho.block _ hg];exact h3⟩
theorem Oq.of {R:Nat} {w:World} {aL:Addr} {p:Nat} (h:Ref R w aL p):Oq w aL (.iface 132 (.pointer (some ⟨p,0,none⟩))):=by
 obtain ⟨z,a,h1,h2,h3,h4⟩:=h
 exact ⟨p,z,a,rfl,h1,h3,h4⟩
theorem Oq.drew {w:World} {aL:Addr} {er:Value} (h:Oq w aL er):Oq w.drew aL er:=h
set_option linter.constructorNameAsVariable false in
set_option maxRecDepth 100000 in
set_option maxHeartbeats 16000000 in
theorem Bbv (P:ByteArray→Q3) (E:ByteArray→Int) (hP:PR P E) (s:ByteArray) (w:World) (hs:s.size≤20000) (aL:Addr) (hS:M9 w.heap.size w aL) (hT:G9 w) (hB:Ds.g 1<w.heap.size) :
  Calls Tryz.prog 42 #[I s] w fun e w'=>∃ (v1 v2 v3 er:Value) (x y:Nat→Q3),e=.returned (.tuple #[.agg (Dq v1 v2 v3 (C4 x) (C4 y)).toArray,er]) ∧
   w'.ownsRow w.heap.size 30 6 v1 (r1 P E (Cy s)).1.length ((r1 P E (Cy s)).1.flatMap cP) ∧
   w'.ownsRow w.heap.size 103 3 v2 (r2 P E (Cy s)).1.length ((r2 P E (Cy s)).1.flatMap cS) ∧
   w'.ownsRow w.heap.size 30 6 v3 (r3 P E (Cy s)).1.length ((r3 P E (Cy s)).1.flatMap cP) ∧
   (r4 P E (Cy s)).1=[x 0,x 1,x 2,x 3,x 4,x 5]∧(r5 P E (Cy s)).1=[y 0,y 1,y 2,y 3,y 4,y 5] ∧
   (r6 P E (Cy s)=some []→er=.nilIface)∧(r6 P E (Cy s)≠some []→Oq w' aL er)∧Below w.heap.size w w':=by
 have hs':¬ (s.size:Int) > 20000:=by omega
 have htl:(Cy s).length≤100000:=by have:=Uu s s.size 0 0;unfold Cy;omega
 have htz:∀ t,t∈Cy s→t.size≤100000:=fun t h=>by have:=Nh s t _ _ _ h;omega
 go_enter Tryz.func42,Tryz.ntmps42
 go_upto_region 1 with fail
 obtain ⟨w0,hq,kz,b0⟩:=Es w [Bs,Bs,Bs,Iz false,I eS,I eS,Iz false,I eS,I eS,Iz false,I eS,I eS,Iz false,I eS,I eS,Iz false,I eS,I eS,Iz false,I eS,I eS,Iz false,I eS,I eS,Iz false,I eS,I eS,Iz false,I eS,I eS,Iz false,I eS,I eS,Iz false,I eS,I eS,Iz false,I eS,I eS] 46
 rw [← hq]
 clear hq
 go_upto_region 4 with (go_at_call 82;refine (Baw s _ (by omega)).mono ?_;rintro e w1 ⟨A,rfl,hA,ho,b1⟩)
 have ts0:=kz.lt
 have hAl:=ho.lt A rfl
 go_upto_region 4 with fail
 obtain ⟨w2,hq,kr,kc,b2⟩:=Yu w1 [.slice (some ⟨A,0,none⟩) (Cy s).length (Cy s).length,.int .i64 0,.nilIface] [.pointer (some ⟨w1.heap.size,0,none⟩)] 139 135
 rw [← hq]
 have E2:Hid (w2.heap.size=w1.heap.size+1+1):=by show w2.heap.size=_;rw [hq];simp
 clear hq
 go_upto_region 5 with (refine Jj rfl 46 _ _ rfl w2.heap.size #[Bs,Bs,Bs,Iz false,I eS,I eS,Iz false,I eS,I eS,Iz false,I eS,I eS,Iz false,I eS,I eS,Iz false,I eS,I eS,Iz false,I eS,I eS,Iz false,I eS,I eS,Iz false,I eS,I eS,Iz false,I eS,I eS,Iz false,I eS,I eS,Iz false,I eS,I eS,Iz false,I eS,I eS] rfl rfl 46 _ (Bi.new w2 Z39 46) (by kernel_rfl) rfl (by kernel_rfl) ?_)
 generalize hW:World.setRow _ _ _=w3
 generalize (Value.agg #[Bs,Bs,Bs,Iz false,I eS,I eS,Iz false,I eS,I eS,Iz false,I eS,I eS,Iz false,I eS,I eS,Iz false,I eS,I eS,Iz false,I eS,I eS,Iz false,I eS,I eS,Iz false,I eS,I eS,Iz false,I eS,I eS,Iz false,I eS,I eS,Iz false,I eS,I eS,Iz false,I eS,I eS])=zv
 have kp:Bi w3 w2.heap.size Z39 46:=by rw [← hW];exact (Bi.new w2 Z39 46).rowS Z39
 have b3:Below w2.heap.size w2 w3:=by rw [← hW];exact below_setRow ((Jg _ _).alloc (Jb _) _) (Jb _) _
 clear hW
 obtain ⟨ts,hts⟩:∃ ts,ts=Cy s:=⟨_,rfl⟩
 rw [← hts] at ho kr htl htz ⊢
 have HTS:=Ba hts
 clear hts
 have e2:=E2.out
 rw [e2] at kp
 rw [e2]
 have s3:=kp.lt
 have H3:RW w w1.heap.size A ts aL (w1.heap.size+1+1) (some ts) Z39 w3 :=
  ⟨⟨by omega,(hS.b (Ia (Ia (Ia b0 b1) b2) b3)).mono (by have:=b1.size;omega),⟨hAl.2,htl,Bmm ho (Ia b2 b3),htz⟩,hT.b (Ia (Ia (Ia b0 b1) b2) b3),by have:=b1.size;omega⟩,
   ⟨0,by simp,rfl,kr.b b3⟩,kc.b b3,kp,((kz.b b1).b b2).b b3,Ia (Ia (Ia b0 b1) b2) b3,by have:=b1.size;omega,by omega⟩
 obtain ⟨Pb,hP⟩:∃ R,R=w1.heap.size+1+1:=⟨_,rfl⟩
 rw [← hP] at H3
 rw [← hP]
 obtain ⟨R,hR⟩:∃ R,R=w1.heap.size:=⟨_,rfl⟩
 rw [← hR] at H3
 rw [← hR]
 clear hR hP kr kc kp kz b0 b1 b2 b3 e2 E2 ho hA hAl ts0 s3 htl htz hs hS hT hB hs'
 have c3:w3.cell? ⟨R+1,0,none⟩=some (.pointer (some ⟨R,0,none⟩)):=H3.kc.cell 0
 go_upto_region 6 with (go_at_call 84;refine (Ng R A ts aL _ wP w3 H3.env H3.rdr).mono ?_;rintro e w4 ⟨rfl,D4,g4⟩)
 have H4:=H3.grew g4 D4
 clear H3 g4 D4 c3
 have c4:w4.cell? ⟨R+1,0,none⟩=some (.pointer (some ⟨R,0,none⟩)):=H4.kc.cell 0
 have HL:=X4 P E hP R A ts aL _ wV 40 w4 H4.env H4.rdr
 obtain ⟨ρ1,e1⟩:∃ ρ,ρ=Ow (pt P E) wV 40 (wd wP (some ts)):=⟨_,rfl⟩
 rw [← e1] at HL
 obtain ⟨n1,f1⟩:∃ n,n=ρ1.1.length:=⟨_,rfl⟩
 rw [← f1] at HL
 have HE1:Hid (ρ1=r1 P E ts):=e1
 have HF1:=Ba f1
 have hn1:n1<1000:=by rw [f1,e1];unfold Ow;rw [Kl];exact Bcp _ _
 clear e1 f1
 replace HL:=Ba HL
 go_upto_region 7 with (go_at_call 85;refine HL.out.mono ?_;rintro e w5 ⟨v,rfl,oN,D5,g5⟩;obtain ⟨a1,m1,rfl⟩:=By oN;have kp5:=Br.cel g5 H4.kp (by have:=H4.hP;omega);have q0:w5.cell? ⟨Pb,0,none⟩=some Bs:=kp5.cell 0;have f0:=Bi.o kp5 0)
 have hP1:=H4.hP
 have H6:RW w R A ts aL Pb ρ1.2 [.slice a1 n1 m1,Bs,Bs,Iz false,I eS,I eS,Iz false,I eS,I eS,Iz false,I eS,I eS,Iz false,I eS,I eS,Iz false,I eS,I eS,Iz false,I eS,I eS,Iz false,I eS,I eS,Iz false,I eS,I eS,Iz false,I eS,I eS,Iz false,I eS,I eS,Iz false,I eS,I eS,Iz false,I eS,I eS] (w5.setCell ⟨Pb,0,none⟩ (.slice a1 n1 m1)):=(H4.grew g5 D5).set 0 (.slice a1 n1 m1)
 have o1:(w5.setCell ⟨Pb,0,none⟩ (.slice a1 n1 m1)).ownsRow (Pb+1) 30 6 (.slice a1 n1 m1) n1 (ρ1.1.flatMap cP):=Cf (Bv oN ((Bu.refl Pb w5).setCell 0 (.slice a1 n1 m1)) H4.kp.lt) H4.kp.lt
 clear H4 c4 HL oN D5 g5 kp5 q0 f0
 generalize w5.setCell _ _=w6 at *
 have c6:w6.cell? ⟨R+1,0,none⟩=some (.pointer (some ⟨R,0,none⟩)):=H6.kc.cell 0
 have HL:=Bhb (R+1) Pb a1 n1 m1 _ (by omega) R A ts aL _ wS 60 w6 H6.env H6.rdr H6.kc H6.kp (by omega) (by have:=H6.hP;omega)
 obtain ⟨ρ2,e2⟩:∃ ρ,ρ=Ow (sg ((n1:Int) - 1)) wS 60 ρ1.2:=⟨_,rfl⟩
 rw [← e2] at HL
 obtain ⟨n2,f2⟩:∃ n,n=ρ2.1.length:=⟨_,rfl⟩
 rw [← f2] at HL
 have HE2:Hid (ρ2=r2 P E ts):=by rw [HF1.out,HE1.out] at e2;exact e2
 have HF2:=Ba f2
 clear e2 f2
 replace HL:=Ba HL
 go_upto_region 8 with (go_at_call 87;refine HL.out.mono ?_;rintro e w7 ⟨v,rfl,oN,D5,g5⟩;obtain ⟨a2,m2,rfl⟩:=By oN;have kp5:=Br.cel g5 H6.kp (by have:=H6.hP;omega);have q0:w7.cell? ⟨Pb,1,none⟩=some Bs:=kp5.cell 1;have f0:=Bi.o kp5 1)
 have hP2:=H6.hP
 have H8:RW w R A ts aL Pb ρ2.2 [.slice a1 n1 m1,.slice a2 n2 m2,Bs,Iz false,I eS,I eS,Iz false,I eS,I eS,Iz false,I eS,I eS,Iz false,I eS,I eS,Iz false,I eS,I eS,Iz false,I eS,I eS,Iz false,I eS,I eS,Iz false,I eS,I eS,Iz false,I eS,I eS,Iz false,I eS,I eS,Iz false,I eS,I eS,Iz false,I eS,I eS] (w7.setCell ⟨Pb,1,none⟩ (.slice a2 n2 m2)):=(H6.grew g5 D5).set 1 (.slice a2 n2 m2)
 have o2:(w7.setCell ⟨Pb,1,none⟩ (.slice a2 n2 m2)).ownsRow (Pb+1) 103 3 (.slice a2 n2 m2) n2 (ρ2.1.flatMap cS):=Cf (Bv oN ((Bu.refl Pb w7).setCell 1 (.slice a2 n2 m2)) H6.kp.lt) H6.kp.lt
 replace o1:=Bv (Bo o1 g5 (by omega)) ((Bu.refl Pb w7).setCell 1 (.slice a2 n2 m2)) (by omega)
 clear H6 c6 HL oN D5 g5 kp5 q0 f0
 generalize w7.setCell _ _=w8 at *
 have c8:w8.cell? ⟨R+1,0,none⟩=some (.pointer (some ⟨R,0,none⟩)):=H8.kc.cell 0
 have HL:=X4 P E hP R A ts aL _ wH 10 w8 H8.env H8.rdr
 obtain ⟨ρ3,e3⟩:∃ ρ,ρ=Ow (pt P E) wH 10 ρ2.2:=⟨_,rfl⟩
 rw [← e3] at HL
 obtain ⟨n3,f3⟩:∃ n,n=ρ3.1.length:=⟨_,rfl⟩
 rw [← f3] at HL
 have HE3:Hid (ρ3=r3 P E ts):=by rw [HE2.out] at e3;exact e3
 have HF3:=Ba f3
 clear e3 f3
 replace HL:=Ba HL
 go_upto_region 9 with (go_at_call 85;refine HL.out.mono ?_;rintro e w9 ⟨v,rfl,oN,D5,g5⟩;obtain ⟨a3,m3,rfl⟩:=By oN;have kp5:=Br.cel g5 H8.kp (by have:=H8.hP;omega);have q0:w9.cell? ⟨Pb,2,none⟩=some Bs:=kp5.cell 2;have f0:=Bi.o kp5 2)
 have hP3:=H8.hP
 have H10:RW w R A ts aL Pb ρ3.2 [.slice a1 n1 m1,.slice a2 n2 m2,.slice a3 n3 m3,Iz false,I eS,I eS,Iz false,I eS,I eS,Iz false,I eS,I eS,Iz false,I eS,I eS,Iz false,I eS,I eS,Iz false,I eS,I eS,Iz false,I eS,I eS,Iz false,I eS,I eS,Iz false,I eS,I eS,Iz false,I eS,I eS,Iz false,I eS,I eS,Iz false,I eS,I eS] (w9.setCell ⟨Pb,2,none⟩ (.slice a3 n3 m3)):=(H8.grew g5 D5).set 2 (.slice a3 n3 m3)
 have o3:(w9.setCell ⟨Pb,2,none⟩ (.slice a3 n3 m3)).ownsRow (Pb+1) 30 6 (.slice a3 n3 m3) n3 (ρ3.1.flatMap cP):=Cf (Bv oN ((Bu.refl Pb w9).setCell 2 (.slice a3 n3 m3)) H8.kp.lt) H8.kp.lt
 replace o1:=Bv (Bo o1 g5 (by omega)) ((Bu.refl Pb w9).setCell 2 (.slice a3 n3 m3)) (by omega)
 replace o2:=Bv (Bo o2 g5 (by omega)) ((Bu.refl Pb w9).setCell 2 (.slice a3 n3 m3)) (by omega)
 clear H8 c8 HL oN D5 g5 kp5 q0 f0
 generalize w9.setCell _ _=w10 at *
 obtain ⟨x,tx,tx0,htx,hx1,hx2⟩:=Boc (nu P E) (wd wF ρ3.2)
 have HX1:=Ba hx1
 have HX2:=Ba hx2
 have c10:w10.cell? ⟨R+1,0,none⟩=some (.pointer (some ⟨R,0,none⟩)):=H10.kc.cell 0
 have HL:=Ba (Bb2 P E hP R A ts aL _ wF w10 x tx tx0 htx H10.env H10.rdr)
 clear hx1 hx2 tx0 htx
 go_upto_region 10 with (first | (go_at_call 90;refine HL.out.mono ?_;rintro e w11 ⟨rfl,D11,g11⟩;have kp11:=Br.cel g11 H10.kp (by have:=H10.hP;omega)) | (refine Jk rfl 28 _ _ rfl Pb 3 #[Iz (x 0).1,I (x 0).2.1,I (x 0).2.2,Iz (x 1).1,I (x 1).2.1,I (x 1).2.2,Iz (x 2).1,I (x 2).2.1,I (x 2).2.2,Iz (x 3).1,I (x 3).2.1,I (x 3).2.2,Iz (x 4).1,I (x 4).2.1,I (x 4).2.2,Iz (x 5).1,I (x 5).2.1,I (x 5).2.2] rfl rfl (Blg kp11 3 18 (Nat.le_of_ble_eq_true rfl)) (by kernel_rfl) (by kernel_rfl) ?_))
 have hu:Wl [.slice a1 n1 m1,.slice a2 n2 m2,.slice a3 n3 m3,Iz false,I eS,I eS,Iz false,I eS,I eS,Iz false,I eS,I eS,Iz false,I eS,I eS,Iz false,I eS,I eS,Iz false,I eS,I eS,Iz false,I eS,I eS,Iz false,I eS,I eS,Iz false,I eS,I eS,Iz false,I eS,I eS,Iz false,I eS,I eS,Iz false,I eS,I eS] 3 [Iz (x 0).1,I (x 0).2.1,I (x 0).2.2,Iz (x 1).1,I (x 1).2.1,I (x 1).2.2,Iz (x 2).1,I (x 2).2.1,I (x 2).2.2,Iz (x 3).1,I (x 3).2.1,I (x 3).2.2,Iz (x 4).1,I (x 4).2.1,I (x 4).2.2,Iz (x 5).1,I (x 5).2.1,I (x 5).2.2]=[.slice a1 n1 m1,.slice a2 n2 m2,.slice a3 n3 m3,Iz (x 0).1,I (x 0).2.1,I (x 0).2.2,Iz (x 1).1,I (x 1).2.1,I (x 1).2.2,Iz (x 2).1,I (x 2).2.1,I (x 2).2.2,Iz (x 3).1,I (x 3).2.1,I (x 3).2.2,Iz (x 4).1,I (x 4).2.1,I (x 4).2.2,Iz (x 5).1,I (x 5).2.1,I (x 5).2.2,Iz false,I eS,I eS,Iz false,I eS,I eS,Iz false,I eS,I eS,Iz false,I eS,I eS,Iz false,I eS,I eS,Iz false,I eS,I eS]:=by kernel_rfl
 have H12:=(H10.grew g11 D11).mid 3 [Iz (x 0).1,I (x 0).2.1,I (x 0).2.2,Iz (x 1).1,I (x 1).2.1,I (x 1).2.2,Iz (x 2).1,I (x 2).2.1,I (x 2).2.2,Iz (x 3).1,I (x 3).2.1,I (x 3).2.2,Iz (x 4).1,I (x 4).2.1,I (x 4).2.2,Iz (x 5).1,I (x 5).2.1,I (x 5).2.2]
 rw [hu] at H12
 have hPP:=H10.hP
 replace o1:=Bv (Bo o1 g11 (by omega)) (Gx [Iz (x 0).1,I (x 0).2.1,I (x 0).2.2,Iz (x 1).1,I (x 1).2.1,I (x 1).2.2,Iz (x 2).1,I (x 2).2.1,I (x 2).2.2,Iz (x 3).1,I (x 3).2.1,I (x 3).2.2,Iz (x 4).1,I (x 4).2.1,I (x 4).2.2,Iz (x 5).1,I (x 5).2.1,I (x 5).2.2] (Bu.refl Pb w11) 3) (by omega)
 replace o2:=Bv (Bo o2 g11 (by omega)) (Gx [Iz (x 0).1,I (x 0).2.1,I (x 0).2.2,Iz (x 1).1,I (x 1).2.1,I (x 1).2.2,Iz (x 2).1,I (x 2).2.1,I (x 2).2.2,Iz (x 3).1,I (x 3).2.1,I (x 3).2.2,Iz (x 4).1,I (x 4).2.1,I (x 4).2.2,Iz (x 5).1,I (x 5).2.1,I (x 5).2.2] (Bu.refl Pb w11) 3) (by omega)
 replace o3:=Bv (Bo o3 g11 (by omega)) (Gx [Iz (x 0).1,I (x 0).2.1,I (x 0).2.2,Iz (x 1).1,I (x 1).2.1,I (x 1).2.2,Iz (x 2).1,I (x 2).2.1,I (x 2).2.2,Iz (x 3).1,I (x 3).2.1,I (x 3).2.2,Iz (x 4).1,I (x 4).2.1,I (x 4).2.2,Iz (x 5).1,I (x 5).2.1,I (x 5).2.2] (Bu.refl Pb w11) 3) (by omega)
 clear hu hPP H10 c10 HL D11 g11 kp11
 generalize World.setCells _ _ _ _=w12 at *
 generalize vF x=fx0 at *
 obtain ⟨y,ty,ty0,hty,hy1,hy2⟩:=Boc (nu P E) (wd wG (tx 6))
 have HY1:=Ba hy1
 have HY2:=Ba hy2
 have c12:w12.cell? ⟨R+1,0,none⟩=some (.pointer (some ⟨R,0,none⟩)):=H12.kc.cell 0
 have HL:=Ba (Bb2 P E hP R A ts aL _ wG w12 y ty ty0 hty H12.env H12.rdr)
 clear hy1 hy2 ty0 hty
 go_upto_region 11 with (first | (go_at_call 90;refine HL.out.mono ?_;rintro e w13 ⟨rfl,D13,g13⟩;have kp13:=Br.cel g13 H12.kp (by have:=H12.hP;omega)) | (refine Jk rfl 28 _ _ rfl Pb 21 #[Iz (y 0).1,I (y 0).2.1,I (y 0).2.2,Iz (y 1).1,I (y 1).2.1,I (y 1).2.2,Iz (y 2).1,I (y 2).2.1,I (y 2).2.2,Iz (y 3).1,I (y 3).2.1,I (y 3).2.2,Iz (y 4).1,I (y 4).2.1,I (y 4).2.2,Iz (y 5).1,I (y 5).2.1,I (y 5).2.2] rfl rfl (Blg kp13 21 18 (Nat.le_of_ble_eq_true rfl)) (by kernel_rfl) (by kernel_rfl) ?_))
 have hu:Wl [.slice a1 n1 m1,.slice a2 n2 m2,.slice a3 n3 m3,Iz (x 0).1,I (x 0).2.1,I (x 0).2.2,Iz (x 1).1,I (x 1).2.1,I (x 1).2.2,Iz (x 2).1,I (x 2).2.1,I (x 2).2.2,Iz (x 3).1,I (x 3).2.1,I (x 3).2.2,Iz (x 4).1,I (x 4).2.1,I (x 4).2.2,Iz (x 5).1,I (x 5).2.1,I (x 5).2.2,Iz false,I eS,I eS,Iz false,I eS,I eS,Iz false,I eS,I eS,Iz false,I eS,I eS,Iz false,I eS,I eS,Iz false,I eS,I eS] 21 [Iz (y 0).1,I (y 0).2.1,I (y 0).2.2,Iz (y 1).1,I (y 1).2.1,I (y 1).2.2,Iz (y 2).1,I (y 2).2.1,I (y 2).2.2,Iz (y 3).1,I (y 3).2.1,I (y 3).2.2,Iz (y 4).1,I (y 4).2.1,I (y 4).2.2,Iz (y 5).1,I (y 5).2.1,I (y 5).2.2]=[.slice a1 n1 m1,.slice a2 n2 m2,.slice a3 n3 m3,Iz (x 0).1,I (x 0).2.1,I (x 0).2.2,Iz (x 1).1,I (x 1).2.1,I (x 1).2.2,Iz (x 2).1,I (x 2).2.1,I (x 2).2.2,Iz (x 3).1,I (x 3).2.1,I (x 3).2.2,Iz (x 4).1,I (x 4).2.1,I (x 4).2.2,Iz (x 5).1,I (x 5).2.1,I (x 5).2.2,Iz (y 0).1,I (y 0).2.1,I (y 0).2.2,Iz (y 1).1,I (y 1).2.1,I (y 1).2.2,Iz (y 2).1,I (y 2).2.1,I (y 2).2.2,Iz (y 3).1,I (y 3).2.1,I (y 3).2.2,Iz (y 4).1,I (y 4).2.1,I (y 4).2.2,Iz (y 5).1,I (y 5).2.1,I (y 5).2.2]:=by kernel_rfl
 have H14:=(H12.grew g13 D13).mid 21 [Iz (y 0).1,I (y 0).2.1,I (y 0).2.2,Iz (y 1).1,I (y 1).2.1,I (y 1).2.2,Iz (y 2).1,I (y 2).2.1,I (y 2).2.2,Iz (y 3).1,I (y 3).2.1,I (y 3).2.2,Iz (y 4).1,I (y 4).2.1,I (y 4).2.2,Iz (y 5).1,I (y 5).2.1,I (y 5).2.2]
 rw [hu] at H14
 have hPP:=H12.hP
 replace o1:=Bv (Bo o1 g13 (by omega)) (Gx [Iz (y 0).1,I (y 0).2.1,I (y 0).2.2,Iz (y 1).1,I (y 1).2.1,I (y 1).2.2,Iz (y 2).1,I (y 2).2.1,I (y 2).2.2,Iz (y 3).1,I (y 3).2.1,I (y 3).2.2,Iz (y 4).1,I (y 4).2.1,I (y 4).2.2,Iz (y 5).1,I (y 5).2.1,I (y 5).2.2] (Bu.refl Pb w13) 21) (by omega)
 replace o2:=Bv (Bo o2 g13 (by omega)) (Gx [Iz (y 0).1,I (y 0).2.1,I (y 0).2.2,Iz (y 1).1,I (y 1).2.1,I (y 1).2.2,Iz (y 2).1,I (y 2).2.1,I (y 2).2.2,Iz (y 3).1,I (y 3).2.1,I (y 3).2.2,Iz (y 4).1,I (y 4).2.1,I (y 4).2.2,Iz (y 5).1,I (y 5).2.1,I (y 5).2.2] (Bu.refl Pb w13) 21) (by omega)
 replace o3:=Bv (Bo o3 g13 (by omega)) (Gx [Iz (y 0).1,I (y 0).2.1,I (y 0).2.2,Iz (y 1).1,I (y 1).2.1,I (y 1).2.2,Iz (y 2).1,I (y 2).2.1,I (y 2).2.2,Iz (y 3).1,I (y 3).2.1,I (y 3).2.2,Iz (y 4).1,I (y 4).2.1,I (y 4).2.2,Iz (y 5).1,I (y 5).2.1,I (y 5).2.2] (Bu.refl Pb w13) 21) (by omega)
 clear hu hPP H12 c12 HL D13 g13 kp13
 generalize World.setCells _ _ _ _=w14 at *
 generalize vF y=fy0 at *
 have c14:w14.cell? ⟨R+1,0,none⟩=some (.pointer (some ⟨R,0,none⟩)):=H14.kc.cell 0
 have HL:=Ba (Ng R A ts aL _ wE w14 H14.env H14.rdr)
 have HF6:Hid (wd wE (ty 6)=r6 P E ts):=by
  show wd wE (ty 6)=wd wE (Kh (nu P E) 6 (wd wG (Kh (nu P E) 6 (wd wF (r3 P E ts).2)).2)).2
  rw [← HE3.out,HX2.out,HY2.out]
 have HR4:Hid ((r4 P E ts).1=[x 0,x 1,x 2,x 3,x 4,x 5]):=by
  have h:=HX1.out
  rw [HE3.out] at h
  exact h
 have HR5:Hid ((r5 P E ts).1=[y 0,y 1,y 2,y 3,y 4,y 5]):=by
  have h:=HY1.out
  rw [← HX2.out,HE3.out] at h
  exact h
 generalize wd wE (ty 6)=st6 at *
 go_upto_region 12 with (go_at_call 84;refine HL.out.mono ?_;rintro e w15 ⟨rfl,D15,g15⟩)
 have hPP:=H14.hP
 have H15:=H14.grew g15 D15
 replace o1:=Bo o1 g15 (by omega)
 replace o2:=Bo o2 g15 (by omega)
 replace o3:=Bo o3 g15 (by omega)
 clear H14 c14 HL D15 g15
 obtain ⟨aM,haM,hsM⟩:=H15.env.sens.2 5 (by simp)
 have HC:=Ba (fun w1 (b:Br R w15 w1) (st1:St) (hr:Ef w1 R A ts aL st1)=>Fy R A ts aL st1 _ aM w1 (H15.env.grew b).hR hr haM (hsM.grew b H15.env.hR))
 have hvM:w15.cell? ⟨5,0,none⟩=some (.iface 348 (.pointer (some aM))):=hsM.2.2.1
 have cc:w15.cell? ⟨R+1,0,none⟩=some (.pointer (some ⟨R,0,none⟩)):=H15.kc.cell 0
 have HTL:=H15.env.tk.2.1
 have Hd:=H15.grew Br.drew' (H15.rdr.grew H15.env.hR (Fe w15))
 have HR15:=Ba H15.rdr
 clear haM hsM
 cases st6 with
 | none =>
  obtain ⟨k,p,hp,kr,hrf⟩:=H15.rdr
  have c0:=kr.cell 0
  have c1:=kr.cell 1
  by_cases hk:k<(ts.length:Int)
  ·go_region
   go_upto_region 14 with (go_at_call 91;refine (HC.out _ Br.drew' _ Hd.rdr).mono ?_;rintro e wz ⟨rfl,Dz,gz⟩)
   have Hz:=Hd.grew gz Dz
   obtain ⟨kk,pp,hpp,krz,hrz⟩:=Dz
   have HZ:=Hz.grew Br.drew' (Hz.rdr.grew Hz.env.hR (Fe wz))
   have kRd:=krz.drew'
   refine Jc (S:=fun w'=>w'.rangeAt Pb 0 [.slice a1 n1 m1,.slice a2 n2 m2,.slice a3 n3 m3,Iz (x 0).1,I (x 0).2.1,I (x 0).2.2,Iz (x 1).1,I (x 1).2.1,I (x 1).2.2,Iz (x 2).1,I (x 2).2.1,I (x 2).2.2,Iz (x 3).1,I (x 3).2.1,I (x 3).2.2,Iz (x 4).1,I (x 4).2.1,I (x 4).2.2,Iz (x 5).1,I (x 5).2.1,I (x 5).2.2,Iz (y 0).1,I (y 0).2.1,I (y 0).2.2,Iz (y 1).1,I (y 1).2.1,I (y 1).2.2,Iz (y 2).1,I (y 2).2.1,I (y 2).2.2,Iz (y 3).1,I (y 3).2.1,I (y 3).2.2,Iz (y 4).1,I (y 4).2.1,I (y 4).2.2,Iz (y 5).1,I (y 5).2.1,I (y 5).2.2]∧w'.cell? ⟨R+1,0,none⟩=some (.pointer (some ⟨R,0,none⟩))∧w'.cell? ⟨R,2,none⟩=some (Value.iface 132 (.pointer (some ⟨pp,0,none⟩)))) (by kernel_rfl) ⟨Lm HZ.kp,HZ.kc.cell 0,kRd.cell 2⟩ (fun hS=>?_)
   have hFin:=(Oq.of hrz).drew
   have p1:=Bo (Bo o1 (Br.drew'.trans gz) (by omega)) (Br.drew' (R:=R)) (by omega)
   have p2:=Bo (Bo o2 (Br.drew'.trans gz) (by omega)) (Br.drew' (R:=R)) (by omega)
   have p3:=Bo (Bo o3 (Br.drew'.trans gz) (by omega)) (Br.drew' (R:=R)) (by omega)
   generalize wz.drew=wd at *
   refine WA.start (n:=7) (by kernel_rfl) ?_
   refine WA.tp 0 rfl ?_ (hy:=Jd (by rfl) 46 _ rfl Pb 0 rfl _ _ (fun w' h=>h.1) Tryz.underlying46 rfl (by kernel_rfl))
   refine WA.tp 1 rfl ?_
   refine WA.tp 2 rfl ?_
   refine WA.tp 3 rfl ?_
   refine WA.tp 4 rfl ?_
   refine WA.cal 5 rfl (fun K hK=>?_)
   rw [if_pos (by rfl)]
   refine wp_store_row 46 _ _ rfl _ #[.slice a1 n1 m1,.slice a2 n2 m2,.slice a3 n3 m3,Iz (x 0).1,I (x 0).2.1,I (x 0).2.2,Iz (x 1).1,I (x 1).2.1,I (x 1).2.2,Iz (x 2).1,I (x 2).2.1,I (x 2).2.2,Iz (x 3).1,I (x 3).2.1,I (x 3).2.2,Iz (x 4).1,I (x 4).2.1,I (x 4).2.2,Iz (x 5).1,I (x 5).2.1,I (x 5).2.2,Iz (y 0).1,I (y 0).2.1,I (y 0).2.2,Iz (y 1).1,I (y 1).2.1,I (y 1).2.2,Iz (y 2).1,I (y 2).2.1,I (y 2).2.2,Iz (y 3).1,I (y 3).2.1,I (y 3).2.2,Iz (y 4).1,I (y 4).2.1,I (y 4).2.2,Iz (y 5).1,I (y 5).2.1,I (y 5).2.2] rfl rfl 46 _ HZ.kz (by kernel_rfl) rfl (by kernel_rfl) ?_
   have hZ:=HZ.hZ
   have hPb:=HZ.hP
   have oZ:=(Bu.refl w.heap.size wd).setRow #[.slice a1 n1 m1,.slice a2 n2 m2,.slice a3 n3 m3,Iz (x 0).1,I (x 0).2.1,I (x 0).2.2,Iz (x 1).1,I (x 1).2.1,I (x 1).2.2,Iz (x 2).1,I (x 2).2.1,I (x 2).2.2,Iz (x 3).1,I (x 3).2.1,I (x 3).2.2,Iz (x 4).1,I (x 4).2.1,I (x 4).2.2,Iz (x 5).1,I (x 5).2.1,I (x 5).2.2,Iz (y 0).1,I (y 0).2.1,I (y 0).2.2,Iz (y 1).1,I (y 1).2.1,I (y 1).2.2,Iz (y 2).1,I (y 2).2.1,I (y 2).2.2,Iz (y 3).1,I (y 3).2.1,I (y 3).2.2,Iz (y 4).1,I (y 4).2.1,I (y 4).2.2,Iz (y 5).1,I (y 5).2.1,I (y 5).2.2]
   refine hK.out _ _ ⟨Lm (oZ.cel HZ.kp (by omega)),(oZ.cel HZ.kc (by omega)).cell 0,(oZ.cel kRd (by omega)).cell 2⟩ (fun hS=>?_)
   clear hK K
   refine WA.tp 6 rfl ?_
   refine WA.done (by kernel_rfl) ?_
   clear hS
   go_wp2_with fail
   refine Ew (p:=2) (u:=3) (cs:=[.slice a1 n1 m1,.slice a2 n2 m2,.slice a3 n3 m3,Iz (x 0).1,I (x 0).2.1,I (x 0).2.2,Iz (x 1).1,I (x 1).2.1,I (x 1).2.2,Iz (x 2).1,I (x 2).2.1,I (x 2).2.2,Iz (x 3).1,I (x 3).2.1,I (x 3).2.2,Iz (x 4).1,I (x 4).2.1,I (x 4).2.2,Iz (x 5).1,I (x 5).2.1,I (x 5).2.2,Iz (y 0).1,I (y 0).2.1,I (y 0).2.2,Iz (y 1).1,I (y 1).2.1,I (y 1).2.2,Iz (y 2).1,I (y 2).2.1,I (y 2).2.2,Iz (y 3).1,I (y 3).2.1,I (y 3).2.2,Iz (y 4).1,I (y 4).2.1,I (y 4).2.2,Iz (y 5).1,I (y 5).2.1,I (y 5).2.2]) (by kernel_rfl) rfl rfl rfl (HZ.kz.rowS [.slice a1 n1 m1,.slice a2 n2 m2,.slice a3 n3 m3,Iz (x 0).1,I (x 0).2.1,I (x 0).2.2,Iz (x 1).1,I (x 1).2.1,I (x 1).2.2,Iz (x 2).1,I (x 2).2.1,I (x 2).2.2,Iz (x 3).1,I (x 3).2.1,I (x 3).2.2,Iz (x 4).1,I (x 4).2.1,I (x 4).2.2,Iz (x 5).1,I (x 5).2.1,I (x 5).2.2,Iz (y 0).1,I (y 0).2.1,I (y 0).2.2,Iz (y 1).1,I (y 1).2.1,I (y 1).2.2,Iz (y 2).1,I (y 2).2.1,I (y 2).2.2,Iz (y 3).1,I (y 3).2.1,I (y 3).2.2,Iz (y 4).1,I (y 4).2.1,I (y 4).2.2,Iz (y 5).1,I (y 5).2.1,I (y 5).2.2]) rfl ⟨_,_,_,_,x,y,rfl,?_⟩
   rw [← HTS.out,← HE1.out,← HE2.out,← HE3.out,← HF1.out,← HF2.out,← HF3.out]
   replace p1:=Cf (Bv p1 oZ (by omega)) (show w.heap.size≤Pb+1 by omega)
   replace p2:=Cf (Bv p2 oZ (by omega)) (show w.heap.size≤Pb+1 by omega)
   replace p3:=Cf (Bv p3 oZ (by omega)) (show w.heap.size≤Pb+1 by omega)
   have bZ:=oZ.b HZ.bw (Jb _)
   refine ⟨p1,p2,p3,?_,?_,fun h=>?_,fun h=>?_,bZ⟩
   ·exact HR4.out
   ·exact HR5.out
   ·rw [← HF6.out] at h;cases h
   ·exact hFin.row HZ.kz (by decide) _
  ·go_region
   go_upto_region 14 with fail
   have HZ:=Hd.grew Br.drew' (Hd.rdr.grew Hd.env.hR (Fe w15.drew))
   have kRd:=(Bi.drew' kr).drew'
   refine Jc (S:=fun w'=>w'.rangeAt Pb 0 [.slice a1 n1 m1,.slice a2 n2 m2,.slice a3 n3 m3,Iz (x 0).1,I (x 0).2.1,I (x 0).2.2,Iz (x 1).1,I (x 1).2.1,I (x 1).2.2,Iz (x 2).1,I (x 2).2.1,I (x 2).2.2,Iz (x 3).1,I (x 3).2.1,I (x 3).2.2,Iz (x 4).1,I (x 4).2.1,I (x 4).2.2,Iz (x 5).1,I (x 5).2.1,I (x 5).2.2,Iz (y 0).1,I (y 0).2.1,I (y 0).2.2,Iz (y 1).1,I (y 1).2.1,I (y 1).2.2,Iz (y 2).1,I (y 2).2.1,I (y 2).2.2,Iz (y 3).1,I (y 3).2.1,I (y 3).2.2,Iz (y 4).1,I (y 4).2.1,I (y 4).2.2,Iz (y 5).1,I (y 5).2.1,I (y 5).2.2]∧w'.cell? ⟨R+1,0,none⟩=some (.pointer (some ⟨R,0,none⟩))∧w'.cell? ⟨R,2,none⟩=some (Value.iface 132 (.pointer (some ⟨p,0,none⟩)))) (by kernel_rfl) ⟨Lm HZ.kp,HZ.kc.cell 0,kRd.cell 2⟩ (fun hS=>?_)
   have hFin:=((Oq.of hrf).drew).drew
   have p1:=Bo (Bo o1 (Br.drew' (R:=R)) (by omega)) (Br.drew' (R:=R)) (by omega)
   have p2:=Bo (Bo o2 (Br.drew' (R:=R)) (by omega)) (Br.drew' (R:=R)) (by omega)
   have p3:=Bo (Bo o3 (Br.drew' (R:=R)) (by omega)) (Br.drew' (R:=R)) (by omega)
   generalize w15.drew.drew=wd at *
   refine WA.start (n:=7) (by kernel_rfl) ?_
   refine WA.tp 0 rfl ?_ (hy:=Jd (by rfl) 46 _ rfl Pb 0 rfl _ _ (fun w' h=>h.1) Tryz.underlying46 rfl (by kernel_rfl))
   refine WA.tp 1 rfl ?_
   refine WA.tp 2 rfl ?_
   refine WA.tp 3 rfl ?_
   refine WA.tp 4 rfl ?_
   refine WA.cal 5 rfl (fun K hK=>?_)
   rw [if_pos (by rfl)]
   refine wp_store_row 46 _ _ rfl _ #[.slice a1 n1 m1,.slice a2 n2 m2,.slice a3 n3 m3,Iz (x 0).1,I (x 0).2.1,I (x 0).2.2,Iz (x 1).1,I (x 1).2.1,I (x 1).2.2,Iz (x 2).1,I (x 2).2.1,I (x 2).2.2,Iz (x 3).1,I (x 3).2.1,I (x 3).2.2,Iz (x 4).1,I (x 4).2.1,I (x 4).2.2,Iz (x 5).1,I (x 5).2.1,I (x 5).2.2,Iz (y 0).1,I (y 0).2.1,I (y 0).2.2,Iz (y 1).1,I (y 1).2.1,I (y 1).2.2,Iz (y 2).1,I (y 2).2.1,I (y 2).2.2,Iz (y 3).1,I (y 3).2.1,I (y 3).2.2,Iz (y 4).1,I (y 4).2.1,I (y 4).2.2,Iz (y 5).1,I (y 5).2.1,I (y 5).2.2] rfl rfl 46 _ HZ.kz (by kernel_rfl) rfl (by kernel_rfl) ?_
   have hZ:=HZ.hZ
   have hPb:=HZ.hP
   have oZ:=(Bu.refl w.heap.size wd).setRow #[.slice a1 n1 m1,.slice a2 n2 m2,.slice a3 n3 m3,Iz (x 0).1,I (x 0).2.1,I (x 0).2.2,Iz (x 1).1,I (x 1).2.1,I (x 1).2.2,Iz (x 2).1,I (x 2).2.1,I (x 2).2.2,Iz (x 3).1,I (x 3).2.1,I (x 3).2.2,Iz (x 4).1,I (x 4).2.1,I (x 4).2.2,Iz (x 5).1,I (x 5).2.1,I (x 5).2.2,Iz (y 0).1,I (y 0).2.1,I (y 0).2.2,Iz (y 1).1,I (y 1).2.1,I (y 1).2.2,Iz (y 2).1,I (y 2).2.1,I (y 2).2.2,Iz (y 3).1,I (y 3).2.1,I (y 3).2.2,Iz (y 4).1,I (y 4).2.1,I (y 4).2.2,Iz (y 5).1,I (y 5).2.1,I (y 5).2.2]
   refine hK.out _ _ ⟨Lm (oZ.cel HZ.kp (by omega)),(oZ.cel HZ.kc (by omega)).cell 0,(oZ.cel kRd (by omega)).cell 2⟩ (fun hS=>?_)
   clear hK K
   refine WA.tp 6 rfl ?_
   refine WA.done (by kernel_rfl) ?_
   clear hS
   go_wp2_with fail
   refine Ew (p:=2) (u:=3) (cs:=[.slice a1 n1 m1,.slice a2 n2 m2,.slice a3 n3 m3,Iz (x 0).1,I (x 0).2.1,I (x 0).2.2,Iz (x 1).1,I (x 1).2.1,I (x 1).2.2,Iz (x 2).1,I (x 2).2.1,I (x 2).2.2,Iz (x 3).1,I (x 3).2.1,I (x 3).2.2,Iz (x 4).1,I (x 4).2.1,I (x 4).2.2,Iz (x 5).1,I (x 5).2.1,I (x 5).2.2,Iz (y 0).1,I (y 0).2.1,I (y 0).2.2,Iz (y 1).1,I (y 1).2.1,I (y 1).2.2,Iz (y 2).1,I (y 2).2.1,I (y 2).2.2,Iz (y 3).1,I (y 3).2.1,I (y 3).2.2,Iz (y 4).1,I (y 4).2.1,I (y 4).2.2,Iz (y 5).1,I (y 5).2.1,I (y 5).2.2]) (by kernel_rfl) rfl rfl rfl (HZ.kz.rowS [.slice a1 n1 m1,.slice a2 n2 m2,.slice a3 n3 m3,Iz (x 0).1,I (x 0).2.1,I (x 0).2.2,Iz (x 1).1,I (x 1).2.1,I (x 1).2.2,Iz (x 2).1,I (x 2).2.1,I (x 2).2.2,Iz (x 3).1,I (x 3).2.1,I (x 3).2.2,Iz (x 4).1,I (x 4).2.1,I (x 4).2.2,Iz (x 5).1,I (x 5).2.1,I (x 5).2.2,Iz (y 0).1,I (y 0).2.1,I (y 0).2.2,Iz (y 1).1,I (y 1).2.1,I (y 1).2.2,Iz (y 2).1,I (y 2).2.1,I (y 2).2.2,Iz (y 3).1,I (y 3).2.1,I (y 3).2.2,Iz (y 4).1,I (y 4).2.1,I (y 4).2.2,Iz (y 5).1,I (y 5).2.1,I (y 5).2.2]) rfl ⟨_,_,_,_,x,y,rfl,?_⟩
   rw [← HTS.out,← HE1.out,← HE2.out,← HE3.out,← HF1.out,← HF2.out,← HF3.out]
   replace p1:=Cf (Bv p1 oZ (by omega)) (show w.heap.size≤Pb+1 by omega)
   replace p2:=Cf (Bv p2 oZ (by omega)) (show w.heap.size≤Pb+1 by omega)
   replace p3:=Cf (Bv p3 oZ (by omega)) (show w.heap.size≤Pb+1 by omega)
   have bZ:=oZ.b HZ.bw (Jb _)
   refine ⟨p1,p2,p3,?_,?_,fun h=>?_,fun h=>?_,bZ⟩
   ·exact HR4.out
   ·exact HR5.out
   ·rw [← HF6.out] at h;cases h
   ·exact hFin.row HZ.kz (by decide) _
 | some l =>
  obtain ⟨k,h1,h2,kr⟩:=H15.rdr
  have c0:=kr.cell 0
  have c1:=kr.cell 1
  cases l with
  | nil =>
   have hk:¬ (k:Int)<(ts.length:Int):=by simp at h1;omega
   go_region
   go_upto_region 14 with fail
   have HZ:=Hd.grew Br.drew' (Hd.rdr.grew Hd.env.hR (Fe w15.drew))
   have kRd:=(Bi.drew' kr).drew'
   refine Jc (S:=fun w'=>w'.rangeAt Pb 0 [.slice a1 n1 m1,.slice a2 n2 m2,.slice a3 n3 m3,Iz (x 0).1,I (x 0).2.1,I (x 0).2.2,Iz (x 1).1,I (x 1).2.1,I (x 1).2.2,Iz (x 2).1,I (x 2).2.1,I (x 2).2.2,Iz (x 3).1,I (x 3).2.1,I (x 3).2.2,Iz (x 4).1,I (x 4).2.1,I (x 4).2.2,Iz (x 5).1,I (x 5).2.1,I (x 5).2.2,Iz (y 0).1,I (y 0).2.1,I (y 0).2.2,Iz (y 1).1,I (y 1).2.1,I (y 1).2.2,Iz (y 2).1,I (y 2).2.1,I (y 2).2.2,Iz (y 3).1,I (y 3).2.1,I (y 3).2.2,Iz (y 4).1,I (y 4).2.1,I (y 4).2.2,Iz (y 5).1,I (y 5).2.1,I (y 5).2.2]∧w'.cell? ⟨R+1,0,none⟩=some (.pointer (some ⟨R,0,none⟩))∧w'.cell? ⟨R,2,none⟩=some (Value.nilIface)) (by kernel_rfl) ⟨Lm HZ.kp,HZ.kc.cell 0,kRd.cell 2⟩ (fun hS=>?_)
   have hFin:=trivial
   have p1:=Bo (Bo o1 (Br.drew' (R:=R)) (by omega)) (Br.drew' (R:=R)) (by omega)
   have p2:=Bo (Bo o2 (Br.drew' (R:=R)) (by omega)) (Br.drew' (R:=R)) (by omega)
   have p3:=Bo (Bo o3 (Br.drew' (R:=R)) (by omega)) (Br.drew' (R:=R)) (by omega)
   generalize w15.drew.drew=wd at *
   refine WA.start (n:=7) (by kernel_rfl) ?_
   refine WA.tp 0 rfl ?_ (hy:=Jd (by rfl) 46 _ rfl Pb 0 rfl _ _ (fun w' h=>h.1) Tryz.underlying46 rfl (by kernel_rfl))
   refine WA.tp 1 rfl ?_
   refine WA.tp 2 rfl ?_
   refine WA.tp 3 rfl ?_
   refine WA.tp 4 rfl ?_
   refine WA.cal 5 rfl (fun K hK=>?_)
   rw [if_pos (by rfl)]
   refine wp_store_row 46 _ _ rfl _ #[.slice a1 n1 m1,.slice a2 n2 m2,.slice a3 n3 m3,Iz (x 0).1,I (x 0).2.1,I (x 0).2.2,Iz (x 1).1,I (x 1).2.1,I (x 1).2.2,Iz (x 2).1,I (x 2).2.1,I (x 2).2.2,Iz (x 3).1,I (x 3).2.1,I (x 3).2.2,Iz (x 4).1,I (x 4).2.1,I (x 4).2.2,Iz (x 5).1,I (x 5).2.1,I (x 5).2.2,Iz (y 0).1,I (y 0).2.1,I (y 0).2.2,Iz (y 1).1,I (y 1).2.1,I (y 1).2.2,Iz (y 2).1,I (y 2).2.1,I (y 2).2.2,Iz (y 3).1,I (y 3).2.1,I (y 3).2.2,Iz (y 4).1,I (y 4).2.1,I (y 4).2.2,Iz (y 5).1,I (y 5).2.1,I (y 5).2.2] rfl rfl 46 _ HZ.kz (by kernel_rfl) rfl (by kernel_rfl) ?_
   have hZ:=HZ.hZ
   have hPb:=HZ.hP
   have oZ:=(Bu.refl w.heap.size wd).setRow #[.slice a1 n1 m1,.slice a2 n2 m2,.slice a3 n3 m3,Iz (x 0).1,I (x 0).2.1,I (x 0).2.2,Iz (x 1).1,I (x 1).2.1,I (x 1).2.2,Iz (x 2).1,I (x 2).2.1,I (x 2).2.2,Iz (x 3).1,I (x 3).2.1,I (x 3).2.2,Iz (x 4).1,I (x 4).2.1,I (x 4).2.2,Iz (x 5).1,I (x 5).2.1,I (x 5).2.2,Iz (y 0).1,I (y 0).2.1,I (y 0).2.2,Iz (y 1).1,I (y 1).2.1,I (y 1).2.2,Iz (y 2).1,I (y 2).2.1,I (y 2).2.2,Iz (y 3).1,I (y 3).2.1,I (y 3).2.2,Iz (y 4).1,I (y 4).2.1,I (y 4).2.2,Iz (y 5).1,I (y 5).2.1,I (y 5).2.2]
   refine hK.out _ _ ⟨Lm (oZ.cel HZ.kp (by omega)),(oZ.cel HZ.kc (by omega)).cell 0,(oZ.cel kRd (by omega)).cell 2⟩ (fun hS=>?_)
   clear hK K
   refine WA.tp 6 rfl ?_
   refine WA.done (by kernel_rfl) ?_
   clear hS
   go_wp2_with fail
   refine Ew (p:=2) (u:=3) (cs:=[.slice a1 n1 m1,.slice a2 n2 m2,.slice a3 n3 m3,Iz (x 0).1,I (x 0).2.1,I (x 0).2.2,Iz (x 1).1,I (x 1).2.1,I (x 1).2.2,Iz (x 2).1,I (x 2).2.1,I (x 2).2.2,Iz (x 3).1,I (x 3).2.1,I (x 3).2.2,Iz (x 4).1,I (x 4).2.1,I (x 4).2.2,Iz (x 5).1,I (x 5).2.1,I (x 5).2.2,Iz (y 0).1,I (y 0).2.1,I (y 0).2.2,Iz (y 1).1,I (y 1).2.1,I (y 1).2.2,Iz (y 2).1,I (y 2).2.1,I (y 2).2.2,Iz (y 3).1,I (y 3).2.1,I (y 3).2.2,Iz (y 4).1,I (y 4).2.1,I (y 4).2.2,Iz (y 5).1,I (y 5).2.1,I (y 5).2.2]) (by kernel_rfl) rfl rfl rfl (HZ.kz.rowS [.slice a1 n1 m1,.slice a2 n2 m2,.slice a3 n3 m3,Iz (x 0).1,I (x 0).2.1,I (x 0).2.2,Iz (x 1).1,I (x 1).2.1,I (x 1).2.2,Iz (x 2).1,I (x 2).2.1,I (x 2).2.2,Iz (x 3).1,I (x 3).2.1,I (x 3).2.2,Iz (x 4).1,I (x 4).2.1,I (x 4).2.2,Iz (x 5).1,I (x 5).2.1,I (x 5).2.2,Iz (y 0).1,I (y 0).2.1,I (y 0).2.2,Iz (y 1).1,I (y 1).2.1,I (y 1).2.2,Iz (y 2).1,I (y 2).2.1,I (y 2).2.2,Iz (y 3).1,I (y 3).2.1,I (y 3).2.2,Iz (y 4).1,I (y 4).2.1,I (y 4).2.2,Iz (y 5).1,I (y 5).2.1,I (y 5).2.2]) rfl ⟨_,_,_,_,x,y,rfl,?_⟩
   rw [← HTS.out,← HE1.out,← HE2.out,← HE3.out,← HF1.out,← HF2.out,← HF3.out]
   replace p1:=Cf (Bv p1 oZ (by omega)) (show w.heap.size≤Pb+1 by omega)
   replace p2:=Cf (Bv p2 oZ (by omega)) (show w.heap.size≤Pb+1 by omega)
   replace p3:=Cf (Bv p3 oZ (by omega)) (show w.heap.size≤Pb+1 by omega)
   have bZ:=oZ.b HZ.bw (Jb _)
   refine ⟨p1,p2,p3,?_,?_,fun h=>?_,fun h=>?_,bZ⟩
   ·exact HR4.out
   ·exact HR5.out
   ·rfl
   ·exact absurd HF6.out.symm h
  | cons t l =>
   have hk:(k:Int)<(ts.length:Int):=by simp at h1;omega
   go_region
   go_upto_region 14 with (go_at_call 91;refine (HC.out _ Br.drew' _ Hd.rdr).mono ?_;rintro e wz ⟨rfl,Dz,gz⟩)
   have Hz:=Hd.grew gz Dz
   obtain ⟨kk,pp,hpp,krz,hrz⟩:=Dz
   have HZ:=Hz.grew Br.drew' (Hz.rdr.grew Hz.env.hR (Fe wz))
   have kRd:=krz.drew'
   refine Jc (S:=fun w'=>w'.rangeAt Pb 0 [.slice a1 n1 m1,.slice a2 n2 m2,.slice a3 n3 m3,Iz (x 0).1,I (x 0).2.1,I (x 0).2.2,Iz (x 1).1,I (x 1).2.1,I (x 1).2.2,Iz (x 2).1,I (x 2).2.1,I (x 2).2.2,Iz (x 3).1,I (x 3).2.1,I (x 3).2.2,Iz (x 4).1,I (x 4).2.1,I (x 4).2.2,Iz (x 5).1,I (x 5).2.1,I (x 5).2.2,Iz (y 0).1,I (y 0).2.1,I (y 0).2.2,Iz (y 1).1,I (y 1).2.1,I (y 1).2.2,Iz (y 2).1,I (y 2).2.1,I (y 2).2.2,Iz (y 3).1,I (y 3).2.1,I (y 3).2.2,Iz (y 4).1,I (y 4).2.1,I (y 4).2.2,Iz (y 5).1,I (y 5).2.1,I (y 5).2.2]∧w'.cell? ⟨R+1,0,none⟩=some (.pointer (some ⟨R,0,none⟩))∧w'.cell? ⟨R,2,none⟩=some (Value.iface 132 (.pointer (some ⟨pp,0,none⟩)))) (by kernel_rfl) ⟨Lm HZ.kp,HZ.kc.cell 0,kRd.cell 2⟩ (fun hS=>?_)
   have hFin:=(Oq.of hrz).drew
   have p1:=Bo (Bo o1 (Br.drew'.trans gz) (by omega)) (Br.drew' (R:=R)) (by omega)
   have p2:=Bo (Bo o2 (Br.drew'.trans gz) (by omega)) (Br.drew' (R:=R)) (by omega)
   have p3:=Bo (Bo o3 (Br.drew'.trans gz) (by omega)) (Br.drew' (R:=R)) (by omega)
   generalize wz.drew=wd at *
   refine WA.start (n:=7) (by kernel_rfl) ?_
   refine WA.tp 0 rfl ?_ (hy:=Jd (by rfl) 46 _ rfl Pb 0 rfl _ _ (fun w' h=>h.1) Tryz.underlying46 rfl (by kernel_rfl))
   refine WA.tp 1 rfl ?_
   refine WA.tp 2 rfl ?_
   refine WA.tp 3 rfl ?_
   refine WA.tp 4 rfl ?_
   refine WA.cal 5 rfl (fun K hK=>?_)
   rw [if_pos (by rfl)]
   refine wp_store_row 46 _ _ rfl _ #[.slice a1 n1 m1,.slice a2 n2 m2,.slice a3 n3 m3,Iz (x 0).1,I (x 0).2.1,I (x 0).2.2,Iz (x 1).1,I (x 1).2.1,I (x 1).2.2,Iz (x 2).1,I (x 2).2.1,I (x 2).2.2,Iz (x 3).1,I (x 3).2.1,I (x 3).2.2,Iz (x 4).1,I (x 4).2.1,I (x 4).2.2,Iz (x 5).1,I (x 5).2.1,I (x 5).2.2,Iz (y 0).1,I (y 0).2.1,I (y 0).2.2,Iz (y 1).1,I (y 1).2.1,I (y 1).2.2,Iz (y 2).1,I (y 2).2.1,I (y 2).2.2,Iz (y 3).1,I (y 3).2.1,I (y 3).2.2,Iz (y 4).1,I (y 4).2.1,I (y 4).2.2,Iz (y 5).1,I (y 5).2.1,I (y 5).2.2] rfl rfl 46 _ HZ.kz (by kernel_rfl) rfl (by kernel_rfl) ?_
   have hZ:=HZ.hZ
   have hPb:=HZ.hP
   have oZ:=(Bu.refl w.heap.size wd).setRow #[.slice a1 n1 m1,.slice a2 n2 m2,.slice a3 n3 m3,Iz (x 0).1,I (x 0).2.1,I (x 0).2.2,Iz (x 1).1,I (x 1).2.1,I (x 1).2.2,Iz (x 2).1,I (x 2).2.1,I (x 2).2.2,Iz (x 3).1,I (x 3).2.1,I (x 3).2.2,Iz (x 4).1,I (x 4).2.1,I (x 4).2.2,Iz (x 5).1,I (x 5).2.1,I (x 5).2.2,Iz (y 0).1,I (y 0).2.1,I (y 0).2.2,Iz (y 1).1,I (y 1).2.1,I (y 1).2.2,Iz (y 2).1,I (y 2).2.1,I (y 2).2.2,Iz (y 3).1,I (y 3).2.1,I (y 3).2.2,Iz (y 4).1,I (y 4).2.1,I (y 4).2.2,Iz (y 5).1,I (y 5).2.1,I (y 5).2.2]
   refine hK.out _ _ ⟨Lm (oZ.cel HZ.kp (by omega)),(oZ.cel HZ.kc (by omega)).cell 0,(oZ.cel kRd (by omega)).cell 2⟩ (fun hS=>?_)
   clear hK K
   refine WA.tp 6 rfl ?_
   refine WA.done (by kernel_rfl) ?_
   clear hS
   go_wp2_with fail
   refine Ew (p:=2) (u:=3) (cs:=[.slice a1 n1 m1,.slice a2 n2 m2,.slice a3 n3 m3,Iz (x 0).1,I (x 0).2.1,I (x 0).2.2,Iz (x 1).1,I (x 1).2.1,I (x 1).2.2,Iz (x 2).1,I (x 2).2.1,I (x 2).2.2,Iz (x 3).1,I (x 3).2.1,I (x 3).2.2,Iz (x 4).1,I (x 4).2.1,I (x 4).2.2,Iz (x 5).1,I (x 5).2.1,I (x 5).2.2,Iz (y 0).1,I (y 0).2.1,I (y 0).2.2,Iz (y 1).1,I (y 1).2.1,I (y 1).2.2,Iz (y 2).1,I (y 2).2.1,I (y 2).2.2,Iz (y 3).1,I (y 3).2.1,I (y 3).2.2,Iz (y 4).1,I (y 4).2.1,I (y 4).2.2,Iz (y 5).1,I (y 5).2.1,I (y 5).2.2]) (by kernel_rfl) rfl rfl rfl (HZ.kz.rowS [.slice a1 n1 m1,.slice a2 n2 m2,.slice a3 n3 m3,Iz (x 0).1,I (x 0).2.1,I (x 0).2.2,Iz (x 1).1,I (x 1).2.1,I (x 1).2.2,Iz (x 2).1,I (x 2).2.1,I (x 2).2.2,Iz (x 3).1,I (x 3).2.1,I (x 3).2.2,Iz (x 4).1,I (x 4).2.1,I (x 4).2.2,Iz (x 5).1,I (x 5).2.1,I (x 5).2.2,Iz (y 0).1,I (y 0).2.1,I (y 0).2.2,Iz (y 1).1,I (y 1).2.1,I (y 1).2.2,Iz (y 2).1,I (y 2).2.1,I (y 2).2.2,Iz (y 3).1,I (y 3).2.1,I (y 3).2.2,Iz (y 4).1,I (y 4).2.1,I (y 4).2.2,Iz (y 5).1,I (y 5).2.1,I (y 5).2.2]) rfl ⟨_,_,_,_,x,y,rfl,?_⟩
   rw [← HTS.out,← HE1.out,← HE2.out,← HE3.out,← HF1.out,← HF2.out,← HF3.out]
   replace p1:=Cf (Bv p1 oZ (by omega)) (show w.heap.size≤Pb+1 by omega)
   replace p2:=Cf (Bv p2 oZ (by omega)) (show w.heap.size≤Pb+1 by omega)
   replace p3:=Cf (Bv p3 oZ (by omega)) (show w.heap.size≤Pb+1 by omega)
   have bZ:=oZ.b HZ.bw (Jb _)
   refine ⟨p1,p2,p3,?_,?_,fun h=>?_,fun h=>?_,bZ⟩
   ·exact HR4.out
   ·exact HR5.out
   ·rw [← HF6.out] at h;cases h
   ·exact hFin.row HZ.kz (by decide) _
end Go.Proofs.YtnplifkgeeicjaaGreatDoor
