import Derived.Test.YtnplifkgeeicjaaGreatDoorV40
import Derived.Test.YtnplifkgeeicjaaGreatDoorV45
import Derived.Test.YtnplifkgeeicjaaGreatDoorV56
set_option maxRecDepth 100000
set_option maxHeartbeats 4000000
namespace Go.Proofs.YtnplifkgeeicjaaGreatDoor
open Go.RowKit
def Qd (w:World):Prop:=w.cell? ⟨8,0,none⟩=some (.iface 245 (.agg #[.pointer (some ⟨20,86,none⟩)]))
theorem Bcy (V:Nat) (e:Addr) (w:World) (hg:Qd w) (kv:Bi w V [.pointer none] 132) :
  Calls Tryz.prog 92 #[.iface 132 (.pointer (some e)),.iface 148 (.pointer (some ⟨V,0,none⟩))] w fun ev w'=>ev=.returned (Iz true)∧Bi w' V [.pointer (some e)] 132∧Br V w w':=by
 refine (Bnv e ⟨V,0,none⟩ (.pointer none) w hg (kv.cell 0) (Bi.o kv 0)).mono ?_
 rintro ev w' ⟨rfl,rfl⟩
 refine ⟨rfl,((((kv.alloc _).alloc _).alloc _).alloc _).set 0 _,?_⟩
 exact Br.trans (Ib (((((Jg w.heap.size w).alloc (Jb _) _).alloc (by simp) _).alloc (by simp;omega) _).alloc (by simp;omega) _)) ((Bu.refl V _).setCell 0 _).grew
theorem Bep (w:World):Calls Tryz.prog 43 #[.nilIface] w (Re w (.int .i64 0)):=by
 go_enter Tryz.func43,Tryz.ntmps43
 go_upto_region 2 with fail
 obtain ⟨w0,hq,kr,b0⟩:=Es w [.pointer none] 132
 rw [← hq]
 clear hq
 go_wp2_with (go_at_call 92;refine (Bnu _ _).mono ?_;rintro e w1 ⟨rfl,rfl⟩)
 go_ret
 exact ⟨rfl,b0⟩
theorem Beo (w:World) (aL:Addr) (er:Value) (h:Oq w aL er) (hT:Qd w) (hL:w.cell? ⟨4,0,none⟩=some (.iface 348 (.pointer (some aL)))) (hc:∃ c t,w.heap[aL.block]?=some (.cells c t (0,0))) :
  Calls Tryz.prog 43 #[er] w (Re w (.int .i64 4)):=by
 obtain ⟨p,z,a,rfl,hne,⟨ca,ta,ha⟩,kp⟩:=h
 obtain ⟨cb,tb,hb⟩:=hc
 go_enter Tryz.func43,Tryz.ntmps43
 go_upto_region 2 with fail
 obtain ⟨w0,hq,kr,b0⟩:=Es w [.pointer none] 132
 rw [← hq]
 clear hq
 have hT0:Qd w0:=by unfold Qd at hT ⊢;rw [b0.cell (World.block_lt_of_cell? w _ hT)];exact hT
 have hL0:=(b0.cell (World.block_lt_of_cell? w _ hL)).trans hL
 have kp0:=kp.b b0
 have la:a.block<w.heap.size:=by
  rcases Nat.lt_or_ge a.block w.heap.size with h | h
  ·exact h
  ·rw [Array.getElem?_eq_none h] at ha;cases ha
 have lb:aL.block<w.heap.size:=by
  rcases Nat.lt_or_ge aL.block w.heap.size with h | h
  ·exact h
  ·rw [Array.getElem?_eq_none h] at hb;cases hb
 have ha0:=(b0.block _ la).trans ha
 have hb0:=(b0.block _ lb).trans hb
 have hlL:4<w.heap.size:=World.block_lt_of_cell? w _ hL
 have lp:=kp.lt
 have HA:=Ba (Bcy w.heap.size ⟨p,0,none⟩ w0 hT0 kr)
 have hs0:=kr.lt
 have HI:=Ba (fun w1 (k:Br w.heap.size w0 w1)=>Tc p 0 aL a ca cb ta tb w1 ((Br.cel k kp0 (by omega)).cell 1) hne (by rw [k.block _ (by omega) (by omega)];exact ha0) (by rw [k.block _ (by omega) (by omega)];exact hb0))
 have HL:=Ba (fun w1 (k:Br w.heap.size w0 w1)=>(World.cell?_of_block (k.block 4 (by omega) (by omega))).trans hL0)
 have B:=Ba b0
 clear hT hL kp ha hb la lb ha0 hb0 hlL lp kp0 hL0 hT0 kr b0 hs0
 go_upto_region 4 with (go_at_call 92;refine HA.out.mono ?_;rintro e w1 ⟨rfl,k1,g1⟩)
 have c1:w1.cell? ⟨w.heap.size,0,none⟩=some (.pointer (some ⟨p,0,none⟩)):=k1.cell 0
 have hl1:w1.cell? ⟨4,0,none⟩=some (.iface 348 (.pointer (some aL))):=HL.out _ g1
 go_wp2_with (go_at_call 93;refine (HI.out _ g1).mono ?_;rintro e w2 ⟨rfl,rfl⟩)
 go_ret
 exact ⟨rfl,g1.b B.out (Jb _) (B.out.size)⟩
theorem Bax (w:World) (aL:Addr) (p:Nat) (z:Int) (kp:Bi w p [.int .i64 z,.iface 348 (.pointer (some aL))] 134) (hT:Qd w) (hL:w.cell? ⟨4,0,none⟩=some (.iface 348 (.pointer (some aL)))) :
  Calls Tryz.prog 43 #[.iface 132 (.pointer (some ⟨p,0,none⟩))] w (Re w (.int .i64 5)):=by
 go_enter Tryz.func43,Tryz.ntmps43
 go_upto_region 2 with fail
 obtain ⟨w0,hq,kr,b0⟩:=Es w [.pointer none] 132
 rw [← hq]
 clear hq
 have hT0:Qd w0:=by unfold Qd at hT ⊢;rw [b0.cell (World.block_lt_of_cell? w _ hT)];exact hT
 have hL0:=(b0.cell (World.block_lt_of_cell? w _ hL)).trans hL
 have kp0:=kp.b b0
 have hlL:4<w.heap.size:=World.block_lt_of_cell? w _ hL
 have lp:=kp.lt
 have HA:=Ba (Bcy w.heap.size ⟨p,0,none⟩ w0 hT0 kr)
 have hs0:=kr.lt
 have HI:=Ba (fun w1 (k:Br w.heap.size w0 w1)=>Vp p 0 aL w1 ((Br.cel k kp0 (by omega)).cell 1))
 have HL:=Ba (fun w1 (k:Br w.heap.size w0 w1)=>(World.cell?_of_block (k.block 4 (by omega) (by omega))).trans hL0)
 have B:=Ba b0
 clear hT hL kp hlL lp kp0 hL0 hT0 kr b0 hs0
 go_upto_region 4 with (go_at_call 92;refine HA.out.mono ?_;rintro e w1 ⟨rfl,k1,g1⟩)
 have c1:w1.cell? ⟨w.heap.size,0,none⟩=some (.pointer (some ⟨p,0,none⟩)):=k1.cell 0
 have hl1:w1.cell? ⟨4,0,none⟩=some (.iface 348 (.pointer (some aL))):=HL.out _ g1
 go_wp2_with (go_at_call 93;refine (HI.out _ g1).mono ?_;rintro e w2 ⟨rfl,rfl⟩)
 go_ret
 exact ⟨rfl,g1.b B.out (Jb _) (B.out.size)⟩
theorem Bmi {l:List Nat} (e:l=[3,5]):l≠[]:=by rw [e];simp
theorem Bmh {l:List Nat} {i:Nat} (h:i∈l) (e:l=[3,5]):i=3∨i=5:=by rw [e] at h;simpa using h
set_option linter.constructorNameAsVariable false in
theorem Tz (s:ByteArray) (w:World) (hs:20000<s.size) (aL:Addr) (hL:w.cell? ⟨4,0,none⟩=some (.iface 348 (.pointer (some aL)))) :
  Calls Tryz.prog 42 #[I s] w fun e w'=>∃ p z,e=.returned (.tuple #[.agg Z39.toArray,.iface 132 (.pointer (some ⟨p,0,none⟩))])∧Bi w' p [.int .i64 z,.iface 348 (.pointer (some aL))] 134∧Below w.heap.size w w':=by
 have hs':(s.size:Int) > 20000:=by omega
 go_enter Tryz.func42,Tryz.ntmps42
 go_upto_region 2 with fail
 obtain ⟨w0,hq,kz,b0⟩:=Es w [Bs,Bs,Bs,Iz false,I eS,I eS,Iz false,I eS,I eS,Iz false,I eS,I eS,Iz false,I eS,I eS,Iz false,I eS,I eS,Iz false,I eS,I eS,Iz false,I eS,I eS,Iz false,I eS,I eS,Iz false,I eS,I eS,Iz false,I eS,I eS,Iz false,I eS,I eS,Iz false,I eS,I eS] 46
 rw [← hq]
 clear hq
 have hL0:=(b0.cell (World.block_lt_of_cell? w _ hL)).trans hL
 refine Jc (S:=fun w'=>w'.cell? ⟨4,0,none⟩=some (.iface 348 (.pointer (some aL)))) (by kernel_rfl) hL0 (fun hS=>?_)
 replace kz:=kz.drew'
 replace b0:=Ia b0 (Fe _)
 have hlL:=World.block_lt_of_cell? w _ hL
 clear hL hL0
 generalize w0.drew=wd at *
 refine WA.start (n:=7) (by kernel_rfl) ?_
 refine WA.tp 0 rfl ?_
 refine WA.tp 1 rfl ?_
 refine WA.tp 2 rfl ?_
 refine WA.all (Bmi (by kernel_rfl)) (fun i hi=>?_)
 have sw:∀ {w':World},Below wd.heap.size wd w'→w'.cell? ⟨4,0,none⟩=some (.iface 348 (.pointer (some aL))):=fun b=>(b.cell (World.block_lt_of_cell? wd _ hS)).trans hS
 have lz:=kz.lt
 rcases Bmh hi (by kernel_rfl) with rfl | rfl
 ·refine wpOp_step rfl (fun K hK=>?_)
  go_simp
  obtain ⟨w1,hq,kp,b1⟩:=Es wd [.int .i64 0,.iface 348 (.pointer (some aL))] 134
  rw [← hq]
  refine hK _ _ ⟨sw b1,?_⟩
  clear hK K hq hi
  replace hS:=sw b1
  replace kz:=kz.b b1
  replace b0:=Ia b0 b1
  refine WA.tp 4 rfl ?_
  refine WA.cal 5 rfl (fun K hK=>?_)
  rw [if_pos (by rfl)]
  refine wp_store_row 46 _ _ rfl _ #[Bs,Bs,Bs,Iz false,I eS,I eS,Iz false,I eS,I eS,Iz false,I eS,I eS,Iz false,I eS,I eS,Iz false,I eS,I eS,Iz false,I eS,I eS,Iz false,I eS,I eS,Iz false,I eS,I eS,Iz false,I eS,I eS,Iz false,I eS,I eS,Iz false,I eS,I eS,Iz false,I eS,I eS] rfl rfl 46 _ kz (by kernel_rfl) rfl (by kernel_rfl) ?_
  have oZ:=(Bu.refl w.heap.size w1).setRow #[Bs,Bs,Bs,Iz false,I eS,I eS,Iz false,I eS,I eS,Iz false,I eS,I eS,Iz false,I eS,I eS,Iz false,I eS,I eS,Iz false,I eS,I eS,Iz false,I eS,I eS,Iz false,I eS,I eS,Iz false,I eS,I eS,Iz false,I eS,I eS,Iz false,I eS,I eS,Iz false,I eS,I eS]
  refine hK.out _ _ ((World.cell?_of_block (oZ.block 4 (Nat.ne_of_lt hlL))).trans hS) (fun hS=>?_)
  clear hK K
  refine WA.tp 6 rfl ?_
  refine WA.done (by kernel_rfl) ?_
  clear hS
  go_wp2_with fail
  exact Ew (p:=2) (u:=3) (cs:=[Bs,Bs,Bs,Iz false,I eS,I eS,Iz false,I eS,I eS,Iz false,I eS,I eS,Iz false,I eS,I eS,Iz false,I eS,I eS,Iz false,I eS,I eS,Iz false,I eS,I eS,Iz false,I eS,I eS,Iz false,I eS,I eS,Iz false,I eS,I eS,Iz false,I eS,I eS,Iz false,I eS,I eS]) (by kernel_rfl) rfl rfl rfl (kz.rowS [Bs,Bs,Bs,Iz false,I eS,I eS,Iz false,I eS,I eS,Iz false,I eS,I eS,Iz false,I eS,I eS,Iz false,I eS,I eS,Iz false,I eS,I eS,Iz false,I eS,I eS,Iz false,I eS,I eS,Iz false,I eS,I eS,Iz false,I eS,I eS,Iz false,I eS,I eS,Iz false,I eS,I eS]) rfl ⟨wd.heap.size,rfl,⟨0,oZ.cel kp (by omega)⟩,oZ.b b0 (Jb _)⟩
 ·refine wpOp_step rfl (fun K hK=>?_)
  rw [if_pos (by rfl)]
  refine wp_store_row 46 _ _ rfl _ #[Bs,Bs,Bs,Iz false,I eS,I eS,Iz false,I eS,I eS,Iz false,I eS,I eS,Iz false,I eS,I eS,Iz false,I eS,I eS,Iz false,I eS,I eS,Iz false,I eS,I eS,Iz false,I eS,I eS,Iz false,I eS,I eS,Iz false,I eS,I eS,Iz false,I eS,I eS,Iz false,I eS,I eS] rfl rfl 46 _ kz (by kernel_rfl) rfl (by kernel_rfl) ?_
  have oZ:=(Bu.refl w.heap.size wd).setRow #[Bs,Bs,Bs,Iz false,I eS,I eS,Iz false,I eS,I eS,Iz false,I eS,I eS,Iz false,I eS,I eS,Iz false,I eS,I eS,Iz false,I eS,I eS,Iz false,I eS,I eS,Iz false,I eS,I eS,Iz false,I eS,I eS,Iz false,I eS,I eS,Iz false,I eS,I eS,Iz false,I eS,I eS]
  have kr:=kz.rowS [Bs,Bs,Bs,Iz false,I eS,I eS,Iz false,I eS,I eS,Iz false,I eS,I eS,Iz false,I eS,I eS,Iz false,I eS,I eS,Iz false,I eS,I eS,Iz false,I eS,I eS,Iz false,I eS,I eS,Iz false,I eS,I eS,Iz false,I eS,I eS,Iz false,I eS,I eS,Iz false,I eS,I eS]
  have bZ:=oZ.b b0 (Jb _)
  have hS1:=(World.cell?_of_block (oZ.block 4 (Nat.ne_of_lt hlL))).trans hS
  refine hK _ _ ⟨hS1,?_⟩
  clear hK K hi sw hS
  generalize World.setRow _ _ _=w1 at *
  refine WA.cal 3 rfl (fun K hK=>?_)
  simp only [Jq]
  go_simp
  obtain ⟨w2,hq,kp,b1⟩:=Es w1 [.int .i64 0,.iface 348 (.pointer (some aL))] 134
  rw [← hq]
  have hS2:=(b1.cell (World.block_lt_of_cell? w1 _ hS1)).trans hS1
  refine hK.out _ _ hS2 (fun hS=>?_)
  clear hK K hq
  refine WA.tp 4 rfl ?_
  refine WA.tp 6 rfl ?_
  refine WA.done (by kernel_rfl) ?_
  clear hS
  go_wp2_with fail
  exact Ew (p:=2) (u:=3) (cs:=[Bs,Bs,Bs,Iz false,I eS,I eS,Iz false,I eS,I eS,Iz false,I eS,I eS,Iz false,I eS,I eS,Iz false,I eS,I eS,Iz false,I eS,I eS,Iz false,I eS,I eS,Iz false,I eS,I eS,Iz false,I eS,I eS,Iz false,I eS,I eS,Iz false,I eS,I eS,Iz false,I eS,I eS]) (by kernel_rfl) rfl rfl rfl (kr.b b1) rfl ⟨w1.heap.size,rfl,⟨0,kp⟩,Ia bZ b1⟩
def Co (w:World) (B:Nat) (cs:List Value) (p:Pl):Prop:=∃ (v1 v2 v3:Value) (x y:Nat→Q3),cs=Dq v1 v2 v3 (C4 x) (C4 y) ∧
 w.ownsRow B 30 6 v1 p.pts.length (p.pts.flatMap cP)∧w.ownsRow B 103 3 v2 p.segs.length (p.segs.flatMap cS)∧w.ownsRow B 30 6 v3 p.holes.length (p.holes.flatMap cP) ∧
 p.F=[x 0,x 1,x 2,x 3,x 4,x 5]∧p.G=[y 0,y 1,y 2,y 3,y 4,y 5]
theorem O5 {w:World} {B:Nat} {v1 v2 v3:Value} {x y:Nat→Q3} {A1 A3:List (Q3 × Q3)} {A2:List (Nat × Nat × Bool)} {A4 A5:List Q3} (o1:w.ownsRow B 30 6 v1 A1.length (A1.flatMap cP)) (o2:w.ownsRow B 103 3 v2 A2.length (A2.flatMap cS))
  (o3:w.ownsRow B 30 6 v3 A3.length (A3.flatMap cP)) (hF:A4=[x 0,x 1,x 2,x 3,x 4,x 5]) (hG:A5=[y 0,y 1,y 2,y 3,y 4,y 5]):Co w B (Dq v1 v2 v3 (C4 x) (C4 y)) ⟨A1,A2,A3,A4,A5⟩:=⟨v1,v2,v3,x,y,rfl,o1,o2,o3,hF,hG⟩
abbrev zQ:Q3:=(false,eS,eS)
def Ys:Pl:=⟨[],[],[],[zQ,zQ,zQ,zQ,zQ,zQ],[zQ,zQ,zQ,zQ,zQ,zQ]⟩
theorem Ej (w:World) (B:Nat):Co w B Z39 Ys:=⟨Bs,Bs,Bs,fun _=>zQ,fun _=>zQ,rfl,World.ownsRow_nil _ _ _ _,World.ownsRow_nil _ _ _ _,World.ownsRow_nil _ _ _ _,rfl,rfl⟩
def Fi (P:ByteArray→Q3) (E:ByteArray→Int) (s:ByteArray):Pl × Int:=if 20000<s.size then (Ys,5) else match Qb P E (Cy s) with | some p=>(p,0) | none=>(Ys,4)
theorem Co.len {w:World} {B:Nat} {cs:List Value} {p:Pl} (h:Co w B cs p):cs.length=39:=by
 obtain ⟨v1,v2,v3,x,y,rfl,-⟩:=h
 rfl
theorem Co.one {w:World} {B:Nat} {cs:List Value} {p:Pl} (h:Co w B cs p):cs.toArray.all (·.oneCell')=true:=by
 obtain ⟨v1,v2,v3,x,y,rfl,o1,o2,o3,-⟩:=h
 obtain ⟨a1,c1,rfl⟩:=By o1
 obtain ⟨a2,c2,rfl⟩:=By o2
 obtain ⟨a3,c3,rfl⟩:=By o3
 kernel_rfl
theorem Co.only {w w':World} {B g:Nat} {cs:List Value} {p:Pl} (h:Co w B cs p) (k:Bu g w w') (hg:g<B):Co w' B cs p:=by
 obtain ⟨v1,v2,v3,x,y,h0,o1,o2,o3,h4⟩:=h
 exact ⟨v1,v2,v3,x,y,h0,Bv o1 k hg,Bv o2 k hg,Bv o3 k hg,h4⟩
theorem Cg {w w':World} {B:Nat} {e:TypeId} {size n:Nat} {v:Value} {xs:List Value} (h:w.ownsRow B e size v n xs) (k:Below w.heap.size w w'):w'.ownsRow B e size v n xs:=by
 obtain ⟨h1,h2⟩:=h
 refine ⟨h1,?_⟩
 rcases h2 with h2 | ⟨q,cap,cur,h3,h4,h5,h6⟩
 ·exact .inl h2
 ·have hl:q<w.heap.size:=by
   rcases Nat.lt_or_ge q w.heap.size with h | h
   ·exact h
   ·rw [Array.getElem?_eq_none h] at h5;cases h5
  exact .inr ⟨q,cap,cur,h3,h4,by rw [k.block q hl];exact h5,h6⟩
theorem Co.b {w w':World} {B:Nat} {cs:List Value} {p:Pl} (h:Co w B cs p) (k:Below w.heap.size w w'):Co w' B cs p:=by
 obtain ⟨v1,v2,v3,x,y,h0,o1,o2,o3,h4⟩:=h
 exact ⟨v1,v2,v3,x,y,h0,Cg o1 k,Cg o2 k,Cg o3 k,h4⟩
theorem Co.mono {w:World} {B B':Nat} {cs:List Value} {p:Pl} (h:Co w B cs p) (hB:B'≤B):Co w B' cs p:=by
 obtain ⟨v1,v2,v3,x,y,h0,o1,o2,o3,h4⟩:=h
 exact ⟨v1,v2,v3,x,y,h0,Cf o1 hB,Cf o2 hB,Cf o3 hB,h4⟩
structure Na (w:World) (aL:Addr):Prop where
 sens:M9 w.heap.size w aL
 tab:G9 w
 tabB:Ds.g 1<w.heap.size
 errT:Qd w
theorem Na.b {w w':World} {aL:Addr} (h:Na w aL) (k:Below w.heap.size w w'):Na w' aL :=
 ⟨(h.sens.b k).mono k.size,h.tab.b k,Jl h.tabB k.size,by have:=h.errT;unfold Qd at this ⊢;rw [k.cell (World.block_lt_of_cell? w _ this)];exact this⟩
theorem Bgd (P:ByteArray→Q3) (E:ByteArray→Int) (hP:PR P E) (s:ByteArray) (w:World) (aL:Addr) (h:Na w aL) :
  Calls Tryz.prog 42 #[I s] w fun e w'=>∃ (cs:List Value) (er:Value) (p:Pl),e=.returned (.tuple #[.agg cs.toArray,er])∧Co w' w.heap.size cs p∧Below w.heap.size w w' ∧
   ((Fi P E s).2=0→p=(Fi P E s).1∧er=.nilIface)∧((Fi P E s).2≠0→er≠.nilIface∧(Fi P E s).1=Ys) ∧
   ∀ w1,Below w'.heap.size w' w1→Calls Tryz.prog 43 #[er] w1 fun e w2=>e=.returned (.int .i64 (Fi P E s).2)∧Below w1.heap.size w1 w2:=by
 unfold Fi
 by_cases hs:20000<s.size
 ·rw [if_pos hs]
  refine (Tz s w hs aL h.sens.1.2.2.1).mono ?_
  rintro e w' ⟨p,z,rfl,kp,b⟩
  refine ⟨Z39,_,Ys,rfl,Ej _ _,b,(fun h=>by cases h),(fun _=>⟨(fun h=>by cases h),rfl⟩),fun w1 b1=>?_⟩
  have hL:=h.sens.1.2.2.1
  exact Bax w1 aL p z (kp.b b1) (by have:=(h.b b).errT;unfold Qd at this ⊢;rw [b1.cell (World.block_lt_of_cell? w' _ this)];exact this) (((h.b b).b b1).sens.1.2.2.1)
 ·rw [if_neg hs]
  refine (Bbv P E hP s w (by omega) aL h.sens h.tab h.tabB).mono ?_
  rintro e w' ⟨v1,v2,v3,er,x,y,rfl,o1,o2,o3,hF,hG,hok,hbad,b⟩
  have hp:=O5 o1 o2 o3 hF hG
  unfold Qb rpl
  generalize (r1 P E (Cy s)).1=A1 at *
  generalize (r2 P E (Cy s)).1=A2 at *
  generalize (r3 P E (Cy s)).1=A3 at *
  generalize (r4 P E (Cy s)).1=A4 at *
  generalize (r5 P E (Cy s)).1=A5 at *
  generalize r6 P E (Cy s)=A6 at *
  by_cases h6:A6=some []
  ·rw [if_pos h6]
   obtain rfl:=hok h6
   exact ⟨_,_,_,rfl,hp,b,fun _=>⟨rfl,rfl⟩,fun h=>absurd rfl h,fun w1 _=>Bep w1⟩
  ·rw [if_neg h6]
   have hr:=hbad h6
   refine ⟨_,_,_,rfl,hp,b,(fun h=>by cases h),fun _=>⟨?_,rfl⟩,fun w1 b1=>?_⟩
   ·obtain ⟨p,z,a,rfl,-⟩:=hr
    intro h;cases h
   ·have e1:=(h.b b).b b1
    have hr1:Oq w1 aL er:=by
     obtain ⟨p,z,a,h1,h2,⟨c,t,h3⟩,h4⟩:=hr
     refine ⟨p,z,a,h1,h2,⟨c,t,?_⟩,h4.b b1⟩
     have hl:a.block<w'.heap.size:=by
      rcases Nat.lt_or_ge a.block w'.heap.size with h | h
      ·exact h
      ·rw [Array.getElem?_eq_none h] at h3;cases h3
     rw [b1.block _ hl];exact h3
    exact Beo w1 aL er hr1 e1.errT e1.sens.1.2.2.1 e1.sens.1.2.2.2
theorem Hm (w1:World) (cs:List Value) (hl:cs.length=39) (h1:cs.toArray.all (·.oneCell')=true):∃ w2,(storeCells ⟨w1.heap.size,0,none⟩ cs).run Tryz.prog (w1.alloc (.cells #[Bs,Bs,Bs,Iz false,I eS,I eS,Iz false,I eS,I eS,Iz false,I eS,I eS,Iz false,I eS,I eS,Iz false,I eS,I eS,Iz false,I eS,I eS,Iz false,I eS,I eS,Iz false,I eS,I eS,Iz false,I eS,I eS,Iz false,I eS,I eS,Iz false,I eS,I eS,Iz false,I eS,I eS] 46))=.ok () w2∧Bi w2 w1.heap.size cs 46∧Below w1.heap.size w1 w2:=by
 have hc:=Bi.new w1 [Bs,Bs,Bs,Iz false,I eS,I eS,Iz false,I eS,I eS,Iz false,I eS,I eS,Iz false,I eS,I eS,Iz false,I eS,I eS,Iz false,I eS,I eS,Iz false,I eS,I eS,Iz false,I eS,I eS,Iz false,I eS,I eS,Iz false,I eS,I eS,Iz false,I eS,I eS,Iz false,I eS,I eS] 46
 have:=run_storeCells_from (P:=Tryz.prog) w1.heap.size 46 cs 0 _ _ hc (by rw [Nat.zero_add,hl];rfl) (fun v hv=>(Array.all_eq_true_iff_forall_mem.1 h1) v (by simpa using hv))
 rw [List.take_zero,List.nil_append] at this
 exact ⟨_,this,hc.rowS cs,below_setRow ((Jg _ _).alloc (Jb _) _) (Jb _) _⟩
set_option linter.constructorNameAsVariable false in
theorem T7 (P:ByteArray→Q3) (E:ByteArray→Int) (hP:PR P E) (s:ByteArray) (w:World) (aL:Addr) (h:Na w aL) :
  Calls Tryz.prog 18 #[I s] w fun e w'=>∃ cs:List Value,e=.returned (.tuple #[.agg cs.toArray,.int .i64 (Fi P E s).2])∧Co w' w.heap.size cs (Fi P E s).1∧Below w.heap.size w w':=by
 have HR:=Ba (fun w1 (b:Below w.heap.size w w1)=>Bgd P E hP s w1 aL (h.b b))
 generalize Fi P E s=r at *
 obtain ⟨p0,e0⟩:=r
 clear h
 go_enter Tryz.func18,Tryz.ntmps18
 go_upto_region 1 with fail
 obtain ⟨w0,hq,kz,b0⟩:=Es w [Bs,Bs,Bs,Iz false,I eS,I eS,Iz false,I eS,I eS,Iz false,I eS,I eS,Iz false,I eS,I eS,Iz false,I eS,I eS,Iz false,I eS,I eS,Iz false,I eS,I eS,Iz false,I eS,I eS,Iz false,I eS,I eS,Iz false,I eS,I eS,Iz false,I eS,I eS,Iz false,I eS,I eS] 46
 rw [← hq]
 clear hq
 go_upto_region 2 with (go_at_call 42;refine (HR.out _ b0).mono ?_;rintro e w1 ⟨cs,er,p,rfl,hp,b1,h0,h1,hE⟩;have hlen:=hp.len;obtain ⟨w2,hst,k2,b2⟩:=Hm w1 cs hp.len hp.one)
 go_upto_region 3 with (go_at_call 43;refine (hE w2 b2).mono ?_;rintro e w3 ⟨rfl,b3⟩)
 have kz3:=((kz.b b1).b b2).b b3
 have k3:=k2.b b3
 have hp3:=(hp.b b2).b b3
 have s0:=b0.size
 have B3:=Ia (Ia (Ia b0 b1) b2) b3
 have hlt:w.heap.size<w0.heap.size:=kz.lt
 have one:=hp.one
 clear hE hst k2 b2 b3 b1 kz b0 HR
 by_cases he:e0=0
 ·obtain ⟨rfl,rfl⟩:=h0 he
  subst he
  clear h0 h1
  go_wp2_with (first | (refine Je rfl 46 _ rfl _ rfl 46 cs.toArray (0,0) _ k3 Tryz.underlying46 rfl (by rw [List.size_toArray,hlen];kernel_rfl) ?_) | (refine Jj rfl 46 _ _ rfl _ cs.toArray rfl rfl 46 _ kz3 (by rw [List.size_toArray,hlen];kernel_rfl) (show 39=cs.toArray.size by rw [List.size_toArray,hlen]) one ?_))
  have oZ:=(Bu.refl w.heap.size w3).setRow cs.toArray
  exact Ew (p:=2) (u:=3) (cs:=cs) (by kernel_rfl) rfl rfl rfl (kz3.rowS cs) hlen ⟨cs,rfl,(hp3.only oZ hlt).mono s0,oZ.b B3 (Jb _)⟩
 ·obtain ⟨-,rfl⟩:=h1 he
  clear h0 h1 hp3 hp k3 one
  go_wp2_with (refine Jj rfl 46 _ _ rfl _ #[Bs,Bs,Bs,Iz false,I eS,I eS,Iz false,I eS,I eS,Iz false,I eS,I eS,Iz false,I eS,I eS,Iz false,I eS,I eS,Iz false,I eS,I eS,Iz false,I eS,I eS,Iz false,I eS,I eS,Iz false,I eS,I eS,Iz false,I eS,I eS,Iz false,I eS,I eS,Iz false,I eS,I eS] rfl rfl 46 _ kz3 (by kernel_rfl) rfl (by kernel_rfl) ?_)
  have oZ:=(Bu.refl w.heap.size w3).setRow #[Bs,Bs,Bs,Iz false,I eS,I eS,Iz false,I eS,I eS,Iz false,I eS,I eS,Iz false,I eS,I eS,Iz false,I eS,I eS,Iz false,I eS,I eS,Iz false,I eS,I eS,Iz false,I eS,I eS,Iz false,I eS,I eS,Iz false,I eS,I eS,Iz false,I eS,I eS,Iz false,I eS,I eS]
  exact Ew (p:=2) (u:=3) (cs:=[Bs,Bs,Bs,Iz false,I eS,I eS,Iz false,I eS,I eS,Iz false,I eS,I eS,Iz false,I eS,I eS,Iz false,I eS,I eS,Iz false,I eS,I eS,Iz false,I eS,I eS,Iz false,I eS,I eS,Iz false,I eS,I eS,Iz false,I eS,I eS,Iz false,I eS,I eS,Iz false,I eS,I eS]) (by kernel_rfl) rfl rfl rfl (kz3.rowS [Bs,Bs,Bs,Iz false,I eS,I eS,Iz false,I eS,I eS,Iz false,I eS,I eS,Iz false,I eS,I eS,Iz false,I eS,I eS,Iz false,I eS,I eS,Iz false,I eS,I eS,Iz false,I eS,I eS,Iz false,I eS,I eS,Iz false,I eS,I eS,Iz false,I eS,I eS,Iz false,I eS,I eS]) rfl ⟨[Bs,Bs,Bs,Iz false,I eS,I eS,Iz false,I eS,I eS,Iz false,I eS,I eS,Iz false,I eS,I eS,Iz false,I eS,I eS,Iz false,I eS,I eS,Iz false,I eS,I eS,Iz false,I eS,I eS,Iz false,I eS,I eS,Iz false,I eS,I eS,Iz false,I eS,I eS,Iz false,I eS,I eS],rfl,Ej _ _,oZ.b B3 (Jb _)⟩
theorem Lo {B:Nat} {w w1 w2:World} {row:Option Nat} (h:Below B w w1) (hg:w1.grownBy w2 row) (hB:B≤w.heap.size) (hr:∀ k,row=some k→B≤k):Below B w w2 :=
 ⟨hg.os.trans h.os,hg.tape.trans h.tape,hg.output.trans h.output,Jf h.size hg.size,fun i hi=>(hg.block i (Jl hi (Jf hB h.size)) (fun e=>by have:=hr i e.symm;omega)).trans (h.block i hi)⟩
theorem Ua {w w':World} {B B' z z' n n':Nat} {e e':TypeId} {u v:Value} {xs ys:List Value} (h:w.ownsRow B e z u n xs) (hv:w.ownsRow B' e' z' v n' ys) (hne:e≠e') (hg:w.grownBy w' v.ownBlock):w'.ownsRow B e z u n xs:=by
 obtain ⟨h1,h2⟩:=h
 refine ⟨h1,?_⟩
 rcases h2 with h2 | ⟨q,cap,cur,h3,h4,h5,h6⟩
 ·exact .inl h2
 ·have hl:q<w.heap.size:=by
   rcases Nat.lt_or_ge q w.heap.size with h | h
   ·exact h
   ·rw [Array.getElem?_eq_none h] at h5;cases h5
  refine .inr ⟨q,cap,cur,h3,h4,?_,h6⟩
  rw [hg.block q hl ?_]
  ·exact h5
  ·intro hk
   rcases hv.2 with ⟨rfl,-⟩ | ⟨g,cap',cur',rfl,k4,k5,-⟩
   ·cases hk
   ·injection hk with hk
    subst hk
    have:=Option.some.inj (h5.symm.trans k5)
    injection this with _ e _
    exact hne e
theorem Be2 {w w':World} {B z n g:Nat} {e t:TypeId} {v:Value} {xs cs:List Value} (k:Bi w g cs t) (hv:w.ownsRow B e z v n xs) (hne:t≠e) (hg:w.grownBy w' v.ownBlock):Bi w' g cs t:=by
 have hl:=k.lt
 unfold Bi at k ⊢
 rw [hg.block g hl ?_]
 ·exact k
 ·intro hk
  rcases hv.2 with ⟨rfl,-⟩ | ⟨q,cap',cur',rfl,k4,k5,-⟩
  ·cases hk
  ·injection hk with hk
   subst hk
   have:=Option.some.inj (k.symm.trans k5)
   injection this with _ e _
   exact hne e
theorem Ks {w:World} {B g:Nat} {e:TypeId} {cs:List Value} {n:Nat} (h:Bi w g cs e) (hB:B≤g) (hn:cs.length=n) (hm:n≤1000):w.ownsRow B e 1 (.slice (some ⟨g,0,none⟩) n n) n cs:=by
 subst hn
 exact ⟨by simp,Or.inr ⟨g,_,_,rfl,hB,h,Nat.le_refl _,by unfold maxLen;omega,by simp,by simp⟩⟩
def Ou (w:World) (B:Nat) (v:Value) (L:List (List ByteArray)):Prop:=∃ vs:List Value,w.ownsRow B 91 1 v L.length vs∧∀ (j:Nat) (l:List ByteArray),L[j]?=some l→∃ u,vs[j]?=some u∧w.ownsRow B 9 1 u l.length (l.map Value.string)
theorem Ou.b {w w':World} {B:Nat} {v:Value} {L:List (List ByteArray)} (h:Ou w B v L) (k:Below w.heap.size w w'):Ou w' B v L:=by
 obtain ⟨vs,h1,h2⟩:=h
 refine ⟨vs,Cg h1 k,fun j l hl=>?_⟩
 obtain ⟨u,h3,h4⟩:=h2 j l hl
 exact ⟨u,h3,Cg h4 k⟩
theorem Ou.app {w w':World} {B:Nat} {v v':Value} {L M:List (List ByteArray)} {us:List Value} (h:Ou w B v L)
  (hu:∀ (j:Nat) (l:List ByteArray),M[j]?=some l→∃ u,us[j]?=some u∧w.ownsRow B 9 1 u l.length (l.map Value.string))
  (hv':∀ vs:List Value,w.ownsRow B 91 1 v L.length vs→w'.ownsRow B 91 1 v' (L.length+M.length) (vs ++ us)) (hg:w.grownBy w' v.ownBlock):Ou w' B v' (L ++ M):=by
 obtain ⟨vs,h1,h2⟩:=h
 have hvl:vs.length=L.length:=by rw [h1.1,Nat.mul_one]
 have hne:9≠91:=by decide
 refine ⟨vs ++ us,by rw [Ji];exact hv' vs h1,fun j l hj=>?_⟩
 by_cases hlt:j<L.length
 ·rw [List.getElem?_append_left hlt] at hj
  obtain ⟨u,h3,h4⟩:=h2 j l hj
  exact ⟨u,by rw [List.getElem?_append_left (by omega)];exact h3,Ua h4 h1 hne hg⟩
 ·rw [List.getElem?_append_right (by omega)] at hj
  obtain ⟨u,h3,h4⟩:=hu _ _ hj
  exact ⟨u,by rw [List.getElem?_append_right (by omega),hvl];exact h3,Ua h4 h1 hne hg⟩
theorem Bfc {w:World} {o:Oper} {a:Act} {K:Act→World→Prop} {Q:Exit→Act→World→Prop} (s x:Operand) (hop:o.op=Op.call { callee:=Callee.builtin Builtin.append,args:=#[s,x],argTypes:=#[151,151] })
  (v:Value) (B:Nat) (L:List (List ByteArray)) (hs:a.eval s=v) (hL:Ou w B v L) (hB:B≤w.heap.size) (b c k:Nat) (hx:a.eval x=.slice (some ⟨b,0,none⟩) k c)
  (us:List Value) (M:List (List ByteArray)) (hc:Bi w b us 91) (hk:us.length=k) (hm:M.length=k)
  (hu:∀ (j:Nat) (l:List ByteArray),M[j]?=some l→∃ u,us[j]?=some u∧w.ownsRow B 9 1 u l.length (l.map Value.string)) (h1:∀ u∈us,u.oneCell'=true) (hn:L.length+k≤1000000)
  (hK:∀ v' w',Ou w' B v' (L ++ M)→Below B w w'→(∀ g cs t,t≠91→Bi w g cs t→Bi w' g cs t)→K (a.put o.dst v') w') :
  o.wp Tryz.prog a w K Q:=by
 obtain ⟨vs,ho,-⟩:=id hL
 obtain ⟨i0,hi,hz0,hz1,hz2⟩:=info_parts (show (Tryz.prog.info? 91).map (fun i=>(i.zero,i.size,i.bytes))=some (some (.slice none 0 0),1,24) by kernel_rfl)
 refine wp_append_own w s x 151 hop B 91 i0 (.slice none 0 0) 1 24 Tryz.underlying151 hi hz0 hz1 hz2 (by kernel_rfl) (by decide) v L.length vs hs ho ⟨b,0,none⟩ k c us hx (by rw [hk,Nat.mul_one]) (fun j u hj=>?_) h1 (by unfold maxLen;omega) (by omega) hB (fun v' w' h2 h3 _=>hK v' w' (hL.app hu (fun vs' ho'=>?_) h3) (Lo (Jg _ _) h3 hB (fun q hq=>(ho.lt q hq).1)) (fun g cs t ht hc=>Be2 hc ho ht h3))
 ·rw [show (⟨b,0,none⟩:Addr).add j=⟨b,j,none⟩ by simp [Addr.add];omega,hc.cell j]
  exact hj
 ·have:vs'=vs:=by
   rcases ho.2 with ⟨e1,e2⟩ | ⟨g,cap,cur,e1,-,e2,-,-,-,e3⟩
   ·have a1:=ho.1
    have a2:=ho'.1
    rw [e2,Nat.zero_mul] at a1 a2
    rw [List.length_eq_zero_iff.1 a1,List.length_eq_zero_iff.1 a2]
   ·rcases ho'.2 with ⟨d1,d2⟩ | ⟨g',cap',cur',d1,-,d2,-,-,-,d3⟩
    ·rw [d1] at e1;cases e1
    ·rw [d1] at e1
     obtain ⟨e5,-,-⟩:=Value.slice.inj e1
     have e6:g'=g:=congrArg Addr.block (Option.some.inj e5)
     subst e6
     have:=Option.some.inj (d2.symm.trans e2)
     injection this with e4 _ _
     rw [← e3,← d3,e4]
  rw [this,hm]
  exact h2
theorem Qt {w:World} (o:Obj):Below w.heap.size w (w.alloc o):=(Jg _ _).alloc (Jb _) _
theorem Bfd {w:World} {o:Oper} {a:Act} {K:Act→World→Prop} {Q:Exit→Act→World→Prop} (s x:Operand) (hop:o.op=Op.call { callee:=Callee.builtin Builtin.append,args:=#[s,x],argTypes:=#[151,151] })
  (v:Value) (B:Nat) (L:List (List ByteArray)) (hs:a.eval s=v) (w0:World) (u:Value) (l:List ByteArray) (hw:w=w0.alloc (.cells [u].toArray 91)) (hL:Ou w0 B v L) (hB:B≤w0.heap.size) (g:Nat) (hg:w0.heap.size=g) (hx:a.eval x=.slice (some ⟨g,0,none⟩) 1 1)
  (hu:w0.ownsRow B 9 1 u l.length (l.map Value.string)) (hn:L.length+1≤1000000)
  (hK:∀ v' w',Ou w' B v' (L ++ [l])→Below B w0 w'→(∀ g cs t,t≠91→Bi w0 g cs t→Bi w' g cs t)→K (a.put o.dst v') w') :
  o.wp Tryz.prog a w K Q:=by
 subst hw
 subst hg
 obtain ⟨ua,uc,rfl⟩:=By hu
 refine Bfc s x hop v B L hs (hL.b (Qt _)) (Jf hB (Qt _).size) w0.heap.size 1 1 hx [.slice ua l.length uc] [l] (Bi.new _ _ _) rfl rfl (fun j l' hj=>?_) (fun u hu=>?_) hn (fun v' w' h1 h2 h3=>hK v' w' h1 (((Jg _ _).alloc hB _).trans h2) (fun g cs t ht hc=>h3 g cs t ht (hc.b (Qt _))))
 ·cases j with
  | zero=>injection hj with hj;subst hj;exact ⟨_,rfl,Cg hu (Qt _)⟩
  | succ j=>simp at hj
 ·rw [List.mem_singleton.1 hu];rfl
theorem Gt {w:World} {ops:Array Oper} {rest:List Oper} {o:Oper} {a:Act} {Q:Exit→Act→World→Prop}
  (hgd:o.guard=none) (s x:Operand) (hop:o.op=Op.call { callee:=Callee.builtin Builtin.append,args:=#[s,x],argTypes:=#[151,151] })
  (v:Value) (B:Nat) (L:List (List ByteArray)) (hs:a.eval s=v) (w0:World) (u:Value) (l:List ByteArray) (hw:w=w0.alloc (.cells [u].toArray 91)) (hL:Ou w0 B v L) (hB:B≤w0.heap.size) (g:Nat) (hg:w0.heap.size=g) (hx:a.eval x=.slice (some ⟨g,0,none⟩) 1 1)
  (hu:w0.ownsRow B 9 1 u l.length (l.map Value.string)) (hn:L.length+1≤1000000)
  (hK:∀ v' w',Ou w' B v' (L ++ [l])→Below B w0 w'→wpList Tryz.prog ops Q rest (a.put o.dst v') w') :
  wpList Tryz.prog ops Q (o :: rest) a w:=wpList_plain hgd fun _ hK'=>Bfd s x hop v B L hs w0 u l hw hL hB g hg hx hu hn fun v' w' h1 h2 _=>hK' _ _ (hK v' w' h1 h2)
def Mm (T:Q3→ByteArray) (l:List (Q3 × Q3)):List (List ByteArray):=l.map fun q=>[T q.1,T q.2]
def lnS (l:List (Nat × Nat × Bool)):List (List ByteArray):=l.map fun s=>[dg s.1,dg s.2.1,Py s.2.2]
def F4 (T:Q3→ByteArray) (p:Pl):List (List ByteArray) :=
 ((((((([[wP]] ++ [[wV,dg p.pts.length]]) ++ Mm T p.pts) ++ [[wS,dg p.segs.length]]) ++ lnS p.segs) ++ [[wH,dg p.holes.length]]) ++ Mm T p.holes) ++ [[wF] ++ p.F.map T,[wG] ++ p.G.map T,[wE]])
def He (L:List (List ByteArray)):List UInt8:=L.flatMap fun l=>M5 l ++ [10]
def Wi (T:Q3→ByteArray) (p:Pl):ByteArray:=⟨(He (F4 T p)).toArray⟩
theorem TX.b {T:Q3→ByteArray} {q:Q3} {w w0:World} (h:TX T q w) (b:Below w.heap.size w w0):TX T q w0:=fun w1 b1=>h w1 (Ia b b1)
structure WL (w0:World) (G:Nat) (cs:List Value) (v:Value) (L:List (List ByteArray)) (wi:World):Prop where
 kz:Bi wi G cs 46
 ln:Ou wi w0.heap.size v L
 bw:Below w0.heap.size w0 wi
 hG:G<w0.heap.size
theorem WL.b {w0 wi wj:World} {G:Nat} {cs:List Value} {v:Value} {L:List (List ByteArray)} (h:WL w0 G cs v L wi) (b:Below wi.heap.size wi wj):WL w0 G cs v L wj :=
 ⟨h.kz.b b,h.ln.b b,Ia h.bw b,h.hG⟩
theorem Bou {B g:Nat} {cs:List Value} {t:TypeId} {w w':World} (h:Bi w g cs t) (b:Below B w w') (hB:g<B):Bi w' g cs t:=by
 unfold Bi at h ⊢
 rw [b.block g hB]
 exact h
theorem WL.app {w0 wi wj wk:World} {G:Nat} {cs:List Value} {v v':Value} {L L':List (List ByteArray)} (h:WL w0 G cs v L wi) (b:Below wi.heap.size wi wj) (hl:Ou wk w0.heap.size v' L') (b':Below w0.heap.size wj wk):WL w0 G cs v' L' wk :=
 ⟨Bou (h.kz.b b) b' h.hG,hl,(Ia h.bw b).trans b',h.hG⟩
theorem Boa {w:World} {g:Nat} {a d:Bool} {b c e f:ByteArray} {t:TypeId} (k:Bi w g (Ko a b c d e f) t):B9 w 3 (.slice (some ⟨g,0,none⟩) 2 2) ([((a,b,c):Q3),(d,e,f)].map cQ):=by
 refine ⟨_,2,rfl,Jb _,fun j q hq=>⟨g,0,rfl,k.lt,fun i v hv=>?_⟩⟩
 rw [k.cell]
 match j,hq with
 | 0,hq=>injection hq with hq;subst hq;match i,hv with | 0,hv=>exact hv | 1,hv=>exact hv | 2,hv=>exact hv
 | 1,hq=>injection hq with hq;subst hq;match i,hv with | 0,hv=>exact hv | 1,hv=>exact hv | 2,hv=>exact hv
theorem Bcb (T:Q3→ByteArray) (l:List (Q3 × Q3)) (k:Nat):(Mm T (l.take k)).length≤k:=by
 unfold Mm
 rw [List.length_map,List.length_take]
 omega
theorem Bha (T:Q3→ByteArray) (l:List (Q3 × Q3)) (k:Nat) (q:Q3 × Q3) (h:l[k]?=some q) (L:List (List ByteArray)):(L ++ Mm T (l.take k)) ++ [[T q.1,T q.2]]=L ++ Mm T (l.take (k+1)):=by
 rw [List.take_add_one,h]
 unfold Mm
 simp
theorem Dm {w:World} {g:Nat} {cs:List Value} {t:TypeId} (k:Bi w g cs t) (o n:Nat):w.rangeAt g o ((cs.drop o).take n):=fun j v hv=>by
 rw [k.cell,← List.getElem?_drop]
 rw [List.getElem?_take] at hv
 split at hv
 ·exact hv
 ·cases hv
theorem Bn9 {w:World} {g:Nat} {cs:List Value} {t:TypeId} (k:Bi w g cs t) (o:Nat) (x:Nat→Q3) (h:(cs.drop o).take 18=C4 x):B9 w 3 (.slice (some ⟨g,o,none⟩) 6 6) ([x 0,x 1,x 2,x 3,x 4,x 5].map cQ):=by
 refine ⟨_,6,rfl,Jb _,fun j q hq=>⟨g,o,rfl,k.lt,fun i v hv=>?_⟩⟩
 rw [k.cell,Nat.add_assoc,← List.getElem?_drop]
 have hL:(C4 x)[j*3+i]?=some v:=by
  match j,hq with
  | 0,hq=>injection hq with hq;subst hq;match i,hv with | 0,hv=>exact hv | 1,hv=>exact hv | 2,hv=>exact hv
  | 1,hq=>injection hq with hq;subst hq;match i,hv with | 0,hv=>exact hv | 1,hv=>exact hv | 2,hv=>exact hv
  | 2,hq=>injection hq with hq;subst hq;match i,hv with | 0,hv=>exact hv | 1,hv=>exact hv | 2,hv=>exact hv
  | 3,hq=>injection hq with hq;subst hq;match i,hv with | 0,hv=>exact hv | 1,hv=>exact hv | 2,hv=>exact hv
  | 4,hq=>injection hq with hq;subst hq;match i,hv with | 0,hv=>exact hv | 1,hv=>exact hv | 2,hv=>exact hv
  | 5,hq=>injection hq with hq;subst hq;match i,hv with | 0,hv=>exact hv | 1,hv=>exact hv | 2,hv=>exact hv
 rw [← h] at hL
 rw [List.getElem?_take] at hL
 split at hL
 ·exact hL
 ·cases hL
theorem Y7 {T:Q3→ByteArray} {x:Nat→Q3} {w:World} (h:∀ i,TX T (x i) w) (q:Q3) (hq:q∈[x 0,x 1,x 2,x 3,x 4,x 5]):TX T q w:=by
 rcases List.mem_cons.1 hq with rfl | hq
 ·exact h 0
 rcases List.mem_cons.1 hq with rfl | hq
 ·exact h 1
 rcases List.mem_cons.1 hq with rfl | hq
 ·exact h 2
 rcases List.mem_cons.1 hq with rfl | hq
 ·exact h 3
 rcases List.mem_cons.1 hq with rfl | hq
 ·exact h 4
 rw [List.mem_singleton.1 hq]
 exact h 5
def TL (R:Nat) (w:World) (v:Value) (l:List ByteArray):Prop :=
 (l=[]∧∃ a c,v=.slice a 0 c)∨∃ (A o c:Nat),v=.slice (some ⟨A,o,none⟩) l.length c∧l.length≤c∧A<R∧(∀ j,j<l.length→w.cell? ⟨A,o+j,none⟩=some (I (nt l j)))∧l.length≤100000
def Hq (w:World) (R:Nat) (s:RS):Prop:=∃ v,Bi w R [v,Iz s.2] 94∧TL R w v s.1∧∀ t,t∈s.1→t.size≤100000
theorem TL.grew {R:Nat} {w w':World} {v:Value} {l:List ByteArray} (h:TL R w v l) (k:Br R w w') (hR:R<w.heap.size):TL R w' v l:=by
 rcases h with h | ⟨A,o,c,h1,h2,h3,h4,h5⟩
 ·exact Or.inl h
 ·exact Or.inr ⟨A,o,c,h1,h2,h3,fun j hj=>by rw [k.oldc hR (by exact h3)];exact h4 j hj,h5⟩
theorem Bdp (R:Nat) (st:RS) (w:World) (h:Hq w R st) :
  Calls Tryz.prog 94 #[.pointer (some ⟨R,0,none⟩)] w fun e w'=>e=.returned (I (Kc st).1)∧Hq w' R (Kc st).2∧Bu R w w':=by
 obtain ⟨l,b⟩:=st
 obtain ⟨v,kr,hv,hz⟩:=h
 cases l with
 | nil =>
  have:∃ a c,v=.slice a 0 c:=by
   rcases hv with ⟨-,h⟩ | ⟨A,o,c,h,-⟩
   ·exact h
   ·exact ⟨_,_,h⟩
  obtain ⟨a,c,rfl⟩:=this
  have c0:=kr.cell 0
  have c1:=kr.cell 1
  have f1:=Bi.o kr 1
  go_enter Tryz.func94,Tryz.ntmps94
  go_wp2
  go_ret
  exact ⟨rfl,⟨_,kr.set 1 (Iz true),Or.inl ⟨rfl,_,_,rfl⟩,hz⟩,(Bu.refl R w).setCell 1 _⟩
 | cons t l =>
  rcases hv with ⟨h,-⟩ | ⟨A,o,c,rfl,h2,h3,h4,h5⟩
  ·cases h
  ·have c0:=kr.cell 0
   have f0:=Bi.o kr 0
   have ct:w.cell? ⟨A,o,none⟩=some (I t):=h4 0 (by simp)
   have hl:(l.length:Int)+1≠0:=by omega
   simp only [List.length_cons] at h2 h5 c0
   go_enter Tryz.func94,Tryz.ntmps94
   go_wp2
   ·have hl0:l=[]:=List.eq_nil_of_length_eq_zero (by omega)
    subst hl0
    go_ret
    exact ⟨rfl,⟨_,kr.set 0 _,Or.inl ⟨rfl,_,_,rfl⟩,fun u hu=>by cases hu⟩,(Bu.refl R w).setCell 0 _⟩
   ·go_ret
    show _=Ending.returned (I t)∧Hq _ R (l,b)∧_
    refine ⟨rfl,⟨_,kr.set 0 _,Or.inr ⟨A,o+1,c - 1,rfl,(show l.length≤c - 1 by omega),h3,fun j hj=>?_,(show l.length≤100000 by omega)⟩,fun u hu=>hz u (List.mem_cons_of_mem _ hu)⟩,(Bu.refl R w).setCell 0 _⟩
    rw [World.cell?_of_block (((Bu.refl R w).setCell 0 _).block A (by omega)),show o+1+j=o+(j+1) by omega]
    exact h4 (j+1) (by simpa using hj)
theorem Hq.grew {R:Nat} {st:RS} {w w':World} (h:Hq w R st) (hR:R<w.heap.size) (k:Below w.heap.size w w'):Hq w' R st:=by
 obtain ⟨v,kr,hv,hz⟩:=h
 exact ⟨v,kr.b k,hv.grew (Ib k) hR,hz⟩
def QC (R f:Nat) (xs:Array Value) (w:World) (st:RS) (v:Value) (st':RS):Prop :=
 R<w.heap.size→Hq w R st→Calls Tryz.prog f xs w fun e w'=>e=.returned v∧Hq w' R st'∧Br R w w'
theorem Nn (R:Nat) (st:RS) (w:World):QC R 94 #[.pointer (some ⟨R,0,none⟩)] w st (I (Kc st).1) (Kc st).2 :=
 fun _ h=>(Bdp R st w h).mono (by rintro e w' ⟨rfl,h1,h2⟩;exact ⟨rfl,h1,h2.grew⟩)
theorem Xw {R:Nat} {st:RS} {w:World} (h:Hq w R st):(Kc st).1.size≤100000:=by
 obtain ⟨l,b⟩:=st
 obtain ⟨v,-,-,hz⟩:=h
 cases l with
 | nil=>exact Nat.zero_le _
 | cons t l=>exact hz t List.mem_cons_self
theorem Hq.bad {R:Nat} {st:RS} {w:World} (h:Hq w R st):Hq (w.setCell ⟨R,1,none⟩ (Iz true)) R (st.1,true)∧Br R w (w.setCell ⟨R,1,none⟩ (Iz true)):=by
 obtain ⟨v,kr,hv,hz⟩:=h
 have k:=((Bu.refl R w).setCell 1 (Iz true)).grew
 exact ⟨⟨v,kr.set 1 (Iz true),hv.grew k kr.lt,hz⟩,k⟩
theorem Gv (R:Nat) (st:RS) (c:ByteArray) (w:World):QC R 45 #[.pointer (some ⟨R,0,none⟩),I c] w st (.tuple #[]) (Ss c st):=by
 intro hR h
 have HN:=Ba (Nn R st w hR h)
 unfold Ss
 obtain ⟨t,ht⟩:∃ t,t=(Kc st).1:=⟨_,rfl⟩
 obtain ⟨s1,hs1⟩:∃ t,t=(Kc st).2:=⟨_,rfl⟩
 rw [← ht,← hs1] at HN
 rw [← ht,← hs1]
 clear ht hs1 h
 by_cases hc:t=c
 ·have e:((s1.1,s1.2 || decide (t≠c)):RS)=s1:=by simp [hc]
  rw [e]
  subst hc
  go_enter Tryz.func45,Tryz.ntmps45
  go_wp2_with (go_at_call 94;refine HN.out.mono ?_;rintro e w1 ⟨rfl,k1,g1⟩)
  go_end0
  exact ⟨rfl,k1,g1⟩
 ·have e:((s1.1,s1.2 || decide (t≠c)):RS)=(s1.1,true):=by simp [hc]
  rw [e]
  have hq:(t.toList == c.toList)=false:=by rw [Mo];simp [hc]
  go_enter Tryz.func45,Tryz.ntmps45
  go_wp2_with (go_at_call 94;refine HN.out.mono ?_;rintro e w1 ⟨rfl,k1,g1⟩;have f1:w1.frozen? ⟨R,1,none⟩=false:=k1.elim fun v hv=>Bi.o hv.1 1;have c1:w1.cell? ⟨R,1,none⟩=some (Iz s1.2):=k1.elim fun v hv=>hv.1.cell 1)
  go_end0
  exact ⟨rfl,k1.bad.1,g1.trans k1.bad.2⟩
def PR3 (P:ByteArray→Q3) (E:ByteArray→Int):Prop:=∀ (t:ByteArray) (w:World),t.size≤100000→Calls Tryz.prog 153 #[I t] w fun e w'=>e=.returned (.tuple #[vQ (P t),.int .i64 (E t)])∧Below w.heap.size w w'
theorem Hq.t {R:Nat} {st:RS} {w w':World} {g:Nat} (h:Hq w R st) (k:Bu g w w') (hg:R<g):Hq w' R st:=by
 obtain ⟨v,kr,hv,hz⟩:=h
 refine ⟨v,k.cel kr (by omega),?_,hz⟩
 rcases hv with h | ⟨A,o,c,h1,h2,h3,h4,h5⟩
 ·exact Or.inl h
 ·exact Or.inr ⟨A,o,c,h1,h2,h3,fun j hj=>by rw [World.cell?_of_block (k.block A (by omega))];exact h4 j hj,h5⟩
theorem Rn (P:ByteArray→Q3) (E:ByteArray→Int) (hP:PR3 P E) (R:Nat) (st:RS) (w:World):QC R 95 #[.pointer (some ⟨R,0,none⟩)] w st (vQ (Tb P E st).1) (Tb P E st).2:=by
 intro hR h
 have hz:=Xw h
 have HN:=Ba (fun w1 (b:Below w.heap.size w w1)=>Nn R st w1 (Jl hR b.size) (h.grew hR b))
 have HT:=Ba (fun w1=>hP (Kc st).1 w1 hz)
 unfold Tb
 obtain ⟨t,ht⟩:∃ t,t=(Kc st).1:=⟨_,rfl⟩
 obtain ⟨s1,hs1⟩:∃ t,t=(Kc st).2:=⟨_,rfl⟩
 rw [← ht,← hs1] at HN
 rw [← ht] at HT
 rw [← ht,← hs1]
 generalize P t=q at *
 obtain ⟨qn,qs,qd⟩:=q
 generalize E t=c at *
 obtain ⟨u,hu⟩:∃ u,u=((s1.1,s1.2 || decide (c≠0)):RS):=⟨_,rfl⟩
 have HU:=Ba hu
 simp only [← hu]
 clear h hu ht hs1 hz
 go_enter Tryz.func95,Tryz.ntmps95
 go_wp2_with fail
 obtain ⟨w0,hq,kr,b0⟩:=Es w (D6 false eS eS) 26
 rw [← hq]
 clear hq
 have hR0:=Jl hR b0.size
 go_upto_region 3 with (first | (go_at_call 94;refine (HN.out _ b0).mono ?_;rintro e w1 ⟨rfl,k1,g1⟩) | (go_at_call 153;refine (HT.out _).mono ?_;rintro e w2 ⟨rfl,b2⟩))
 obtain ⟨w3,hq,kx,b3⟩:=Es w2 (D6 qn qs qd) 26
 rw [← hq]
 clear hq
 have G3:Br R w w3:=((Ib b0).trans g1).trans (Ib (Ia b2 b3))
 have k3:=Hq.grew k1 (Jl hR0 g1.size) (Ia b2 b3)
 have kr3:=(Br.cel g1 kr (by omega)).b (Ia b2 b3)
 have hg2:w.heap.size<w2.heap.size:=Jl (Jl kr.lt g1.size) b2.size
 clear kr b0 g1 k1 b2 b3 HN HT
 by_cases hc:c=0
 ·have HQ:Hid (u=s1):=by show u=s1;rw [HU.out];simp [hc]
  go_wp2_with (first | (refine Je rfl 26 _ rfl _ rfl 26 _ (0,0) _ kx Tryz.underlying26 rfl (by kernel_rfl) ?_) | (refine Jj rfl 26 _ _ rfl _ (qv1 qn qs qd) rfl rfl 26 _ kr3 (by kernel_rfl) rfl (by kernel_rfl) ?_))
  exact Ht (p:=2) (by kernel_rfl) rfl rfl (kr3.rowS _) ⟨rfl,by rw [HQ.out];exact k3.t ((Bu.refl _ _).setRow _) hR,G3.row (Jb _) _⟩
 ·have HQ:Hid (u=(s1.1,true)):=by show u=(s1.1,true);rw [HU.out];simp [hc]
  have f1:w3.frozen? ⟨R,1,none⟩=false:=k3.elim fun v hv=>Bi.o hv.1 1
  have c1:w3.cell? ⟨R,1,none⟩=some (Iz s1.2):=k3.elim fun v hv=>hv.1.cell 1
  go_upto_region 5 with fail
  have kb:=k3.bad
  have kr4:=Br.cel kb.2 kr3 (by omega)
  have kx4:=Br.cel kb.2 kx (by omega)
  clear kr3 kx f1 c1 k3
  generalize w3.setCell _ _=w4 at *
  go_wp2_with (first | (refine Je rfl 26 _ rfl _ rfl 26 _ (0,0) _ kx4 Tryz.underlying26 rfl (by kernel_rfl) ?_) | (refine Jj rfl 26 _ _ rfl _ (qv1 qn qs qd) rfl rfl 26 _ kr4 (by kernel_rfl) rfl (by kernel_rfl) ?_))
  exact Ht (p:=2) (by kernel_rfl) rfl rfl (kr4.rowS _) ⟨rfl,by rw [HQ.out];exact kb.1.t ((Bu.refl _ _).setRow _) hR,(G3.trans kb.2).row (Jb _) _⟩
def RpI {α:Type} (f:RS→α × RS) (n:Nat) (st:RS) (k:Nat) (D:List α) (s1:RS):Prop:=Fg f n st=(D ++ (Fg f (n - k) s1).1,(Fg f (n - k) s1).2)
theorem RpI.step {α:Type} {f:RS→α × RS} {n:Nat} {st:RS} {k:Nat} {D:List α} {s1:RS} (h:RpI f n st k D s1) (hk:k<n) (hb:s1.2=false):RpI f n st (k+1) (D ++ [(f s1).1]) (f s1).2:=by
 unfold RpI at h ⊢
 rw [h,show n - k=(n - (k+1))+1 by omega,Fg,if_neg (by rw [hb];decide)]
 simp
theorem RpI.stop {α:Type} {f:RS→α × RS} {n:Nat} {st:RS} {k:Nat} {D:List α} {s1:RS} (h:RpI f n st k D s1) (hk:n≤k∨s1.2=true):Fg f n st=(D,s1):=by
 unfold RpI at h
 rw [h]
 rcases hk with hk | hk
 ·rw [show n - k=0 by omega];simp [Fg]
 ·cases n - k with
  | zero=>simp [Fg]
  | succ m=>simp [Fg,hk]
theorem Hq.grown {R:Nat} {st:RS} {w w':World} (h:Hq w R st) {B:Nat} {row:Option Nat} (hB:R<B) (hg:w.grownBy w' row) (hr:∀ k,row=some k→B≤k):Hq w' R st:=by
 obtain ⟨v,kr,hv,hz⟩:=h
 have kk:∀ b,b≤R→b<w.heap.size→w'.heap[b]?=w.heap[b]?:=fun b hb hl=>hg.block b hl (fun e=>by have:=hr b e.symm;omega)
 refine ⟨v,?_,?_,hz⟩
 ·unfold Bi at kr ⊢;rw [kk R (Jb _) (Bi.lt kr)];exact kr
 ·rcases hv with h | ⟨A,o,c,h1,h2,h3,h4,h5⟩
  ·exact Or.inl h
  ·exact Or.inr ⟨A,o,c,h1,h2,h3,fun j hj=>by rw [World.cell?_of_block (kk A (by omega) (by have:=Bi.lt kr;omega))];exact h4 j hj,h5⟩
theorem Ri (P:ByteArray→Q3) (E:ByteArray→Int) (hP:PR3 P E) (R:Nat) (st:RS) (n:Nat) (hn:n≤1000) (w:World) (hR:R<w.heap.size) (h:Hq w R st) :
  Calls Tryz.prog 46 #[.pointer (some ⟨R,0,none⟩),.int .i64 (n:Nat)] w fun e w'=>∃ v,e=.returned v ∧
   w'.ownsRow w.heap.size 30 6 v (Fg (Wc P E) n st).1.length ((Fg (Wc P E) n st).1.flatMap cP)∧Hq w' R (Fg (Wc P E) n st).2∧Br R w w':=by
 have HN:=Ba (fun w1 st1=>Rn P E hP R st1 w1)
 go_enter Tryz.func46,Tryz.ntmps46
 go_wp2_with fail
 go_loopw [5,6] (fun v i wr=>∃ (k:Nat) (D:List (Q3 × Q3)) (s1:RS),k≤n∧i=.int .i64 (k:Nat)∧wr.ownsRow w.heap.size 30 6 v D.length (D.flatMap cP)∧D.length≤k∧Hq wr R s1∧Br R w wr∧Hid (RpI (Wc P E) n st k D s1)) (fun _ i _=>n - (intOf i).toNat)
 case atStart=>exact ⟨0,[],st,Nat.zero_le _,rfl,World.ownsRow_nil _ _ _ _,Jb _,h,Br.refl _ _,rfl⟩
 case round =>
  obtain ⟨k,D,s1,hk,rfl,ho,hD,kr,G,HI⟩:=hrel
  have c1:wr.cell? ⟨R,1,none⟩=some (Iz s1.2):=kr.elim fun v hv=>hv.1.cell 1
  by_cases hgo:k<n∧s1.2=false
  ·obtain ⟨hlt,hb⟩:=hgo
   have hlt':(k:Int)<(n:Int):=by omega
   have HS:=Ba (HI.out.step hlt hb)
   rw [hb] at c1
   obtain ⟨q,hq⟩:∃ q,q=(Tb P E s1).1:=⟨_,rfl⟩
   obtain ⟨s2,hs2⟩:∃ q,q=(Tb P E s1).2:=⟨_,rfl⟩
   obtain ⟨r,hr⟩:∃ q,q=(Tb P E s2).1:=⟨_,rfl⟩
   obtain ⟨s3,hs3⟩:∃ q,q=(Tb P E s2).2:=⟨_,rfl⟩
   have hp:Wc P E s1=((q,r),s3):=by unfold Wc;rw [← hq,← hs2,← hr,← hs3]
   rw [hp] at HS
   have N1:=HN.out wr s1 (Jl hR G.size) kr
   rw [← hq,← hs2] at N1
   have N2:=Ba (fun w1 (hl:R<w1.heap.size) (k2:Hq w1 R s2)=>HN.out w1 s2 hl k2)
   rw [← hr,← hs3] at N2
   obtain ⟨qn,qs,qd⟩:=q
   obtain ⟨rn,rs,rd⟩:=r
   clear hq hs2 hr hs3 hp HI hb
   go_upto_region 6 with (go_at_call 95;refine N1.mono ?_;rintro e w3 ⟨rfl,k3,g3⟩)
   obtain ⟨w4,hq,kx,b4⟩:=Es w3 (D6 qn qs qd) 26
   rw [← hq]
   clear hq
   have hR3:=Jl hR (Jf G.size g3.size)
   have k4:=Hq.grew k3 hR3 b4
   have hR4:=Jl hR3 b4.size
   go_upto_region 7 with (go_at_call 95;refine (N2.out _ hR4 k4).mono ?_;rintro e w5 ⟨rfl,k5,g5⟩)
   obtain ⟨w6,hq,ky,b6⟩:=Es w5 (D6 rn rs rd) 26
   rw [← hq]
   clear hq
   have kx6:=(Br.cel g5 kx (by omega)).b b6
   have k6:=Hq.grew k5 (Jl hR4 g5.size) b6
   have G6:=(((G.trans g3).trans (Ib b4)).trans g5).trans (Ib b6)
   have ho6:=Bo ho (((g3.trans (Ib b4)).trans g5).trans (Ib b6)) hR
   clear N1 N2 k3 k4 k5 g3 g5 b4 b6 kx ho G kr c1
   go_wp2_with (first | (refine Je rfl 26 _ rfl _ rfl 26 _ (0,0) _ kx6 Tryz.underlying26 rfl (by kernel_rfl) ?_) | (refine Je rfl 26 _ rfl _ rfl 26 _ (0,0) _ ky Tryz.underlying26 rfl (by kernel_rfl) ?_) | (refine Ex 43 30 ((qa2 false eS eS false eS eS)) 6 80 Tryz.underlying43 (by kernel_rfl) rfl (by decide) (by decide) rfl (.tmp 25) (.tmp 29) rfl _ D.length _ rfl w.heap.size (ho6.alloc _) (Jf G6.size (by simp)) w6.heap.size 1 rfl (Ko qn qs qd rn rs rd) 30 (Bi.new _ _ _) rfl (by simp [Value.oneCell']) (by omega) ?_;intro v' w7 h7 g7))
   go_roundw
   case rel =>
    have ho3:=ho6.alloc (.cells (qv2 qn qs qd rn rs rd) 30)
    have b7:=(Jg w6.heap.size w6).alloc (Jb _) (.cells (qv2 qn qs qd rn rs rd) 30)
    refine ⟨k+1,D ++ [((qn,qs,qd),rn,rs,rd)],s3,by omega,by go_num,?_,by simp;omega,?_,(G6.trans (Ib b7)).grown g7 (fun g hg=>(ho3.lt g hg).1),HS⟩
    ·rw [Ji,List.flatMap_append]
     exact h7
    ·exact (k6.grew (Jl hR G6.size) b7).grown hR g7 (fun g hg=>(ho3.lt g hg).1)
   case measure=>simp [intOf];omega
  ·have hst:=HI.out.stop (show n≤k∨s1.2=true by
    cases hb:s1.2 with
    | true=>exact Or.inr rfl
    | false=>exact Or.inl (Nat.le_of_not_lt fun h=>hgo ⟨h,hb⟩))
   have HST:=Ba hst
   have hcase:(k:Int)<(n:Int)∧s1.2=true∨¬ (k:Int)<(n:Int):=by
    by_cases h:k<n
    ·refine Or.inl ⟨by omega,?_⟩
     cases hb:s1.2 with
     | true=>rfl
     | false=>exact absurd ⟨h,hb⟩ hgo
    ·exact Or.inr (by omega)
   clear hst HI hgo HN
   rcases hcase with ⟨h1,h2⟩ | h1
   ·rw [h2] at c1
    go_wp2
    go_ret
    exact ⟨_,rfl,by rw [HST.out];exact ho,by rw [HST.out];exact kr,G⟩
   ·go_wp2
    go_ret
    exact ⟨_,rfl,by rw [HST.out];exact ho,by rw [HST.out];exact kr,G⟩
theorem Bl0 (f:RS→Q3 × RS) (s:RS):∃ (x:Nat→Q3) (t:Nat→RS),t 0=s∧(∀ k,k<6→f (t k)=(x k,t (k+1)))∧(Nq f 6 s).1=[x 0,x 1,x 2,x 3,x 4,x 5]∧(Nq f 6 s).2=t 6 :=
 ⟨fun k=>(f (Nq f k s).2).1,fun k=>(Nq f k s).2,rfl,fun k _=>by show _=(_,(Nq f (k+1) s).2);rw [Tx],rfl,rfl⟩
theorem Hq.only {R g:Nat} {st:RS} {w w':World} (h:Hq w R st) (hg:R<g) (k:Bu g w w'):Hq w' R st:=by
 obtain ⟨v,kr,hv,hz⟩:=h
 have kk:∀ b,b≤R→b<w.heap.size→w'.heap[b]?=w.heap[b]?:=fun b hb _=>k.block b (by omega)
 refine ⟨v,?_,?_,hz⟩
 ·unfold Bi at kr ⊢;rw [kk R (Jb _) (Bi.lt kr)];exact kr
 ·rcases hv with h | ⟨A,o,c,h1,h2,h3,h4,h5⟩
  ·exact Or.inl h
  ·exact Or.inr ⟨A,o,c,h1,h2,h3,fun j hj=>by rw [World.cell?_of_block (kk A (by omega) (by have:=Bi.lt kr;omega))];exact h4 j hj,h5⟩
theorem W5 (P:ByteArray→Q3) (E:ByteArray→Int) (hP:PR3 P E) (R:Nat) (w:World) (x:Nat→Q3) (t:Nat→RS) (ht:∀ k,k<6→Tb P E (t k)=(x k,t (k+1))) :
  QC R 49 #[.pointer (some ⟨R,0,none⟩)] w (t 0) (vF x) (t 6):=by
 intro hR h
 have HN:=Ba (fun (k:Nat) (hk:k<6) w1 (hl:R<w1.heap.size) (hr:Hq w1 R (t k))=>by
  have:=Rn P E hP R (t k) w1 hl hr
  rw [ht k hk] at this
  exact this)
 clear ht
 go_enter Tryz.func49,Tryz.ntmps49
 go_upto_region 1 with fail
 obtain ⟨w0,hq,kr,b0⟩:=Es w (ql6 false eS eS false eS eS false eS eS false eS eS false eS eS false eS eS) 28
 rw [← hq]
 clear hq
 go_upto_region 2 with fail
 obtain ⟨w2,hq,kf,b2⟩:=Es w0 (ql6 false eS eS false eS eS false eS eS false eS eS false eS eS false eS eS) 28
 rw [← hq]
 clear hq
 obtain ⟨g,hg⟩:∃ g,g=w0.heap.size:=⟨_,rfl⟩
 rw [← hg] at kf ⊢
 have kf:Bi w2 g (Yg x 0) 28:=kf
 have hg2:w.heap.size<g:=by rw [hg];exact kr.lt
 have G2:=(Br.refl R w).trans ((Ib b0).trans (Ib b2))
 have k2:=(Hq.grew h hR b0).grew (Jl hR b0.size) b2
 have kr2:=kr.b b2
 clear kr b0 b2 hg h
 go_wp2_with fail
 go_loopw [4] (fun i wr=>∃ k:Nat,k≤6∧i=.int .i64 (k:Nat)∧Bi wr g (Yg x k) 28∧Bi wr w.heap.size (ql6 false eS eS false eS eS false eS eS false eS eS false eS eS false eS eS) 28∧Hq wr R (t k)∧Br R w wr) (fun i _=>6 - (intOf i).toNat)
 case atStart=>exact ⟨0,Nat.zero_le _,rfl,kf,kr2,k2,G2⟩
 case round =>
  obtain ⟨k,hk,rfl,kf,kr,kk,G⟩:=hrel
  by_cases hlt:k<6
  ·have hlt':(k:Int)<6:=by omega
   have N1:=HN.out k hlt wr (Jl hR G.size) kk
   have HS:=Ba (Bck x k hlt)
   generalize x k=q at *
   obtain ⟨qn,qs,qd⟩:=q
   go_wp2_with (go_at_call 95;refine N1.mono ?_;rintro e w3 ⟨rfl,k3,g3⟩;have kf3:=Br.cel g3 kf (by omega);have c0:w3.cell? ⟨g,k*3,none⟩=some (fx x k (k*3)):=(kf3.cell _).trans (Hn x k _ (by omega));have c1:w3.cell? ⟨g,k*3+1,none⟩=some (fx x k (k*3+1)):=(kf3.cell _).trans (Hn x k _ (by omega));have c2:w3.cell? ⟨g,k*3+2,none⟩=some (fx x k (k*3+2)):=(kf3.cell _).trans (Hn x k _ (by omega));have f0:=Bi.o kf3 (k*3);have f1:=Bi.o kf3 (k*3+1);have f2:=Bi.o kf3 (k*3+2))
   go_roundw
   case rel =>
    have kr3:=Br.cel g3 kr (by omega)
    refine ⟨k+1,by omega,by go_num,?_,?_,?_,?_⟩
    ·rw [← HS.out];exact ((kf3.set _ _).set _ _).set _ _
    ·exact ((kr3.t (by omega) _ _).t (by omega) _ _).t (by omega) _ _
    ·exact k3.only (by omega) ((((Bu.refl g w3).setCell _ _).setCell _ _).setCell _ _)
    ·exact (G.trans g3).only ((((Bu.refl g w3).setCell _ _).setCell _ _).setCell _ _) (by omega)
   case measure=>simp [intOf];omega
  ·have hke:k=6:=by omega
   subst hke
   go_wp2_with (first | (refine Je rfl 28 _ rfl _ rfl 28 _ (0,0) _ kf Tryz.underlying28 rfl (by kernel_rfl) ?_) | (refine Jj rfl 28 _ _ rfl _ (Yg x 6).toArray rfl rfl 28 _ kr (by kernel_rfl) rfl (by kernel_rfl) ?_))
   refine ⟨rfl,vF x,results_cell_row (P:=Tryz.prog) (p:=2) (by kernel_rfl) _ _ _ 28 (Yg x 6).toArray (0,0) _ rfl (kr.rowS _) Tryz.underlying28 rfl (by kernel_rfl),⟨rfl,kk.only hR ((Bu.refl _ _).setRow _),G.row (Jb _) _⟩⟩
theorem Bhp (l:List ByteArray):(l.flatMap fun t=>[Value.string t])=l.map Value.string:=by
 induction l with
 | nil=>rfl
 | cons a l ih=>rw [List.flatMap_cons,ih,List.map_cons];rfl
theorem Rm {w:World} {B:Nat} {v:Value} {l:List ByteArray} (h:w.ownsRow B 9 1 v l.length (l.map Value.string)):B9 w 1 v (l.map fun u=>[Value.string u]):=by
 rw [← Bhp] at h
 exact B9.of (fun u=>[Value.string u]) (fun _=>rfl) h
theorem Bbu {w:World} {t:ByteArray} {x:Value} (h:PtS [I t] 9 1 x w):B9 w 1 x ([t].map fun u=>[Value.string u]):=by
 obtain ⟨g,rfl,k⟩:=h
 refine ⟨_,1,rfl,Jb _,fun j q hq=>⟨g,0,rfl,k.lt,fun i v hv=>?_⟩⟩
 rw [k.cell]
 match j,hq with
 | 0,hq=>injection hq with hq;subst hq;match i,hv with | 0,hv=>exact hv
theorem Bf5 {w:World} {B n:Nat} {e:TypeId} {v:Value} {vs:List Value} (h:w.ownsRow B e 1 v n vs):B9 w 1 v (vs.map fun u=>[u]):=by
 have hn:vs.length=n:=by rw [h.1,Nat.mul_one]
 subst hn
 have hf:(vs.flatMap fun u=>[u])=vs:=by simp
 have h':w.ownsRow B e 1 v vs.length (vs.flatMap fun u=>[u]):=by rw [hf];exact h
 exact B9.of (fun u=>[u]) (fun _=>rfl) h'
theorem Bkc {w:World} {B n:Nat} {aL:Option Addr} {cL:Nat} {vs:List Value} {L:List (List ByteArray)} (h:w.ownsRow B 91 1 (.slice aL n cL) n vs) (hL:∀ (j:Nat) (l:List ByteArray),L[j]?=some l→∃ u,vs[j]?=some u∧w.ownsRow B 9 1 u l.length (l.map Value.string)) (j:Nat) (l:List ByteArray) (hl:L[j]?=some l) :
  ∃ g o au cu,aL=some ⟨g,o,none⟩∧w.cell? ⟨g,o+j,none⟩=some (.slice au l.length cu)∧B9 w 1 (.slice au l.length cu) (l.map fun u=>[Value.string u]):=by
 obtain ⟨u,hu,ho⟩:=hL j l hl
 obtain ⟨au,cu,rfl⟩:=By ho
 obtain ⟨a,c,e,-,hr⟩:=Bf5 h
 have ea:=(Value.slice.inj e).1
 obtain ⟨g,o,eg,-,hc⟩:=hr j [.slice au l.length cu] (by rw [List.getElem?_map,hu];rfl)
 have:=hc 0 _ rfl
 rw [Nat.mul_one,Nat.add_zero] at this
 exact ⟨g,o,au,cu,by rw [ea,eg],this,Rm ho⟩
theorem Bei {T e:TypeId} {B b:Nat} {bs:List Value} {w w':World} (h:Lib.IsBuilder T e B b bs w) (k:Below w.heap.size w w'):Lib.IsBuilder T e B b bs w':=by
 have one:∀ p,Lib.BuilderAt T e B b p bs w→Lib.BuilderAt T e B b p bs w':=by
  rintro p ⟨h1,v,h2,h3,h4⟩
  have hl:b<w.heap.size:=by
   rcases Nat.lt_or_ge b w.heap.size with h | h
   ·exact h
   ·rw [Array.getElem?_eq_none h] at h2;cases h2
  exact ⟨h1,v,by rw [k.block b hl];exact h2,Cg h3 k,h4⟩
 exact h.elim (fun q=>Or.inl (one _ q)) (fun q=>Or.inr (one _ q))
theorem Bme (L:List (List ByteArray)) (k:Nat) (l:List ByteArray) (h:L[k]?=some l):He (L.take k) ++ (M5 l ++ [10])=He (L.take (k+1)):=by
 rw [List.take_add_one,h]
 unfold He
 simp
theorem Boy (l:List UInt8):Lib.strCells ((⟨l.toArray⟩:ByteArray) ++ ⟨#[10]⟩)=Lib.byteCells (l ++ [10]):=by
 rw [Lib.strCells_eq,ByteArray.data_append]
 simp
theorem Bmr (l:List UInt8):((⟨l.toArray⟩:ByteArray) ++ ⟨#[10]⟩).size=l.length+1:=by
 rw [ByteArray.size_append]
 simp [ByteArray.size]
theorem Y3 (b:Nat) (Lb l:List UInt8) (w:World) (h:Lib.IsBuilder 158 5 b b (Lib.byteCells Lb) w) (hlen:Lb.length+l.length+1≤140737488355328) (hb:b≤w.heap.size) :
  Calls Tryz.prog 100 #[.pointer (some ⟨b,0,none⟩),I ((⟨l.toArray⟩:ByteArray) ++ ⟨#[10]⟩)] w fun e w'=>∃ n:Int,e=.returned (.tuple #[.int .i64 n,.nilIface])∧Lib.IsBuilder 158 5 b b (Lib.byteCells (Lb ++ (l ++ [10]))) w'∧Below b w w':=by
 have H:Calls Tryz.prog 100 #[.pointer (some ⟨b,0,none⟩),I ((⟨l.toArray⟩:ByteArray) ++ ⟨#[10]⟩)] w fun e w'=>e=.returned (.tuple #[.int .i64 ((⟨l.toArray⟩:ByteArray) ++ ⟨#[10]⟩).size,.nilIface])∧(Lib.BuilderAt 158 5 b b (.pointer (some ⟨b,0,none⟩)) (Lib.byteCells Lb ++ Lib.strCells ((⟨l.toArray⟩:ByteArray) ++ ⟨#[10]⟩)) w'∧Below b w w') :=
  Any.Builder_WriteString Vn Mi b b (Lib.byteCells Lb) _ w h (by rw [Lib.byteCells_length,Bmr];omega) hb
 refine H.mono ?_
 rintro e w' ⟨rfl,A,k⟩
 rw [Boy,← Lib.byteCells_append] at A
 exact ⟨_,rfl,Or.inr A,k⟩
theorem Ba4 (m:Int) (st:RS):(Gf m st).1<1000:=by
 unfold Gf
 split
 ·rename_i n h
  unfold Fm at h
  rw [Option.filter_eq_some_iff] at h
  exact Ba5 h.1
 ·exact Nat.zero_lt_succ _
theorem Ro {α:Type} (f:RS→α × RS):∀ (n:Nat) (st:RS) (m:Nat),n≤m→(Fg f n st).1.length≤m
 | 0,_,_,_=>Nat.zero_le _
 | n+1,st,m,h=>by
  rw [Fg]
  split
  ·exact Nat.zero_le _
  ·rw [List.length_cons]
   have:=Ro f n (f st).2 (m - 1) (by omega)
   omega
theorem TL.of {R B:Nat} {w w':World} {v:Value} {ts:List ByteArray} (h:w.ownsRow B 9 1 v ts.length (ts.map Value.string)) (hR:w.heap.size≤R) (hl:ts.length≤100000) (k:Below w.heap.size w w'):TL R w' v ts:=by
 have hc:=fun g hg=>h.cells (g:=g) hg
 have hlt:=h.lt
 rcases h.2 with ⟨rfl,hn⟩ | ⟨g,cap,cur,rfl,hb,hg,hcap,-⟩
 ·have:ts=[]:=List.length_eq_zero_iff.mp hn
  subst this
  exact Or.inl ⟨rfl,none,0,rfl⟩
 ·refine Or.inr ⟨g,0,cap,rfl,hcap,Jl (hlt g rfl).2 hR,fun j hj=>?_,hl⟩
  have h1:=hc g rfl j (I (nt ts j)) (by rw [List.getElem?_map,List.getElem?_eq_getElem hj];unfold nt;rw [Jh,List.getElem?_eq_getElem hj];rfl)
  rw [show (⟨g,0,none⟩:Addr).add j=⟨g,0+j,none⟩ by simp [Addr.add];omega] at h1
  exact Bh h1 k
structure RQ (w:World) (R Pb:Nat) (st:RS) (cs:List Value) (wi:World):Prop where
 hR:R<wi.heap.size
 rdr:Hq wi R st
 kp:Bi wi Pb cs 46
 kz:Bi wi w.heap.size Z39 46
 bw:Below w.heap.size w wi
 hZ:w.heap.size<R
 hP:R<Pb
theorem RQ.grew {w:World} {R Pb:Nat} {st st':RS} {cs:List Value} {wi wj:World} (h:RQ w R Pb st cs wi) (k:Br R wi wj) (hr:Hq wj R st'):RQ w R Pb st' cs wj :=
 ⟨Jl h.hR k.size,hr,k.cel h.kp (by have:=h.hP;omega),k.cel h.kz (by have:=h.hZ;omega),k.b h.bw (by have:=h.hZ;omega) (by have:=h.hZ;have:=h.hR;omega),h.hZ,h.hP⟩
theorem RQ.only {w:World} {R Pb:Nat} {st:RS} {cs cs':List Value} {wi wj:World} (h:RQ w R Pb st cs wi) (k:Bu Pb wi wj) (hc:Bi wj Pb cs' 46):RQ w R Pb st cs' wj:=by
 have hP:=h.hP
 have hZ:=h.hZ
 exact ⟨Nat.lt_trans hP hc.lt,h.rdr.only (by omega) k,hc,k.cel h.kz (by omega),k.b h.bw (by omega),hZ,hP⟩
theorem RQ.set {w:World} {R Pb:Nat} {st:RS} {cs:List Value} {wi:World} (h:RQ w R Pb st cs wi) (j:Nat) (v:Value):RQ w R Pb st (cs.set j v) (wi.setCell ⟨Pb,j,none⟩ v) :=
 h.only ((Bu.refl Pb wi).setCell j v) (h.kp.set j v)
theorem RQ.mid {w:World} {R Pb:Nat} {st:RS} {cs:List Value} {wi:World} (h:RQ w R Pb st cs wi) (o:Nat) (vs:List Value):RQ w R Pb st (Wl cs o vs) (wi.setCells Pb o vs) :=
 h.only (Gx vs (Bu.refl Pb wi) o) (Bnm vs h.kp o)
theorem RQ.drew {w:World} {R Pb:Nat} {st:RS} {cs:List Value} {wi:World} (h:RQ w R Pb st cs wi):RQ w R Pb st cs wi.drew:=h.grew Br.drew' (h.rdr.grew h.hR (Fe wi))
theorem Bg {ops:Array Oper} {rest:List Oper} {op:Oper} {a:Act} {w:World} {Q:Exit→Act→World→Prop} (hgw:Region.wanted op (yielded ops a.tmps)=true) (ty:TypeId) (x:Operand) (ho:op.op=.load ty x)
  (b o:Nat) (hx:a.eval x=.pointer (some ⟨b,o,none⟩)) (cs:List Value) (d:TypeDesc) (hc:w.rangeAt b o cs)
  (hu:Tryz.prog.underlying ty=some d) (hd:d.isRow=true) (hi:(Tryz.prog.info? ty).map (·.size)=some cs.length)
  (h:wpList Tryz.prog ops Q rest (a.put op.dst (.agg cs.toArray)) w):wpList Tryz.prog ops Q (op :: rest) a w :=
 wpList_step fun _ hK=>by rw [if_pos hgw];exact wp_load_mid ty x ho b o hx cs d hc hu hd hi (hK _ _ h)
theorem Bnh (x:Nat→Q3) (w1:World):(Op.equalIn 10000 28 (.agg #[Iz (x 0).1,I (x 0).2.1,I (x 0).2.2,Iz (x 1).1,I (x 1).2.1,I (x 1).2.2,Iz (x 2).1,I (x 2).2.1,I (x 2).2.2,Iz (x 3).1,I (x 3).2.1,I (x 3).2.2,Iz (x 4).1,I (x 4).2.1,I (x 4).2.2,Iz (x 5).1,I (x 5).2.1,I (x 5).2.2]) (.agg #[Iz (x 0).1,I (x 0).2.1,I (x 0).2.2,Iz (x 1).1,I (x 1).2.1,I (x 1).2.2,Iz (x 2).1,I (x 2).2.1,I (x 2).2.2,Iz (x 3).1,I (x 3).2.1,I (x 3).2.2,Iz (x 4).1,I (x 4).2.1,I (x 4).2.2,Iz (x 5).1,I (x 5).2.1,I (x 5).2.2])).run Tryz.prog w1=.ok true w1:=by
 have hm:(Tryz.prog.info? 26).isSome=true:=by kernel_rfl
 obtain ⟨i,hi⟩:=Option.isSome_iff_exists.1 hm
 have hc:Tryz.prog.cellsOf 26=3:=by kernel_rfl
 rw [show (10000:Nat)=9999+1 from rfl,run_equalIn_array w1 9999 _ _ Tryz.underlying28 hi,hc,show List.range 6=[0,1,2,3,4,5] from rfl]
 clear hm hi hc
 simp only [Op.eqItems]
 go_simp
theorem Boq (t:ByteArray) (k:Nat) (h:k<t.size):((t[k]'h).toNat:Int)=(lm (Bj t) k:Nat):=by rw [Ck t k h]
theorem Bco:∀ (l:List Nat) (k n:Nat),k<l.length→(lm l k<48∨57<lm l k)→We l n=none
 | [],k,n,h,_=>by simp at h
 | c :: l,0,n,_,hb=>by rw [We,if_pos (by simpa [lm] using hb)]
 | c :: l,k+1,n,h,hb=>by
  rw [We]
  split
  ·rfl
  ·exact Bco l k _ (by simpa using h) (by simpa [lm] using hb)
theorem Bk4 (t:ByteArray) (k:Nat) (h:k<t.size) (hb:lm (Bj t) k<48∨57<lm (Bj t) k):Qq t=none:=by
 unfold Qq
 split
 ·rfl
 ·exact Bco _ k _ (by rw [Bt];exact h) hb
theorem Ly (R:Nat) (st:RS) (m:Int) (w:World):QC R 47 #[.pointer (some ⟨R,0,none⟩),.int .i64 m] w st (.int .i64 (Gf m st).1) (Gf m st).2:=by
 intro hR h
 have hz:=Xw h
 have HN:=Ba (Nn R st w hR h)
 obtain ⟨t,ht⟩:∃ t,t=(Kc st).1:=⟨_,rfl⟩
 obtain ⟨s1,hs1⟩:∃ t,t=(Kc st).2:=⟨_,rfl⟩
 rw [← ht,← hs1] at HN
 rw [← ht] at hz
 obtain ⟨V,hV⟩:∃ V:Nat × RS,V=Gf m st:=⟨_,rfl⟩
 rw [← hV]
 have HB2:Hid (Fm m t=none→V=(0,(s1.1,true))):=fun e=>by rw [hV];unfold Gf;rw [← ht,e,← hs1]
 have HG:Hid (∀ n,Fm m t=some n→V=(n,s1)):=fun n e=>by rw [hV];unfold Gf;rw [← ht,e,← hs1]
 have HB:Hid (Qq t=none→V=(0,(s1.1,true))):=fun e=>HB2.out (by unfold Fm;rw [e];rfl)
 clear h ht hs1 hV
 go_enter Tryz.func47,Tryz.ntmps47
 go_upto_region 2 with (go_at_call 94;refine HN.out.mono ?_;rintro e w1 ⟨rfl,k1,g1⟩)
 have f1:w1.frozen? ⟨R,1,none⟩=false:=k1.elim fun v hv=>Bi.o hv.1 1
 have c1:w1.cell? ⟨R,1,none⟩=some (Iz s1.2):=k1.elim fun v hv=>hv.1.cell 1
 have kb:=k1.bad
 have G2:=g1.trans kb.2
 have gl:Hid ((Bj t).length=t.size):=Bt t
 go_wp2_with fail
 go_loop [6,7] (fun n i=>∃ k x:Nat,k≤t.size∧k≤3∧i=.int .i64 (k:Nat)∧n=.int .i64 (x:Nat)∧x<10 ^ k∧Hid (We (Bj t) 0=We ((Bj t).drop k) x)) (fun _ i=>t.size - (intOf i).toNat)
 case atStart=>exact ⟨0,0,Nat.zero_le _,by omega,rfl,rfl,by decide,rfl⟩
 case round =>
  obtain ⟨k,x,hk,hk3,rfl,rfl,hx,HA⟩:=hrel
  by_cases hlt:k<t.size
  ·have hlt':(k:Int)<(t.size:Int):=by omega
   have q1:=Boq t k hlt
   by_cases hok:lm (Bj t) k<48∨57<lm (Bj t) k
   ·have HQ:Hid (V=(0,(s1.1,true))):=HB.out (Bk4 t k hlt hok)
    generalize lm (Bj t) k=z at q1 hok
    clear HA hx HN
    by_cases y1:z<48
    ·have y1':(z:Int)<48:=by omega
     go_wp2
     go_ret
     exact ⟨by rw [HQ.out];rfl,by rw [HQ.out];exact kb.1,G2⟩
    ·have y1':¬ (z:Int)<48:=by omega
     have y2':(z:Int) > 57:=by omega
     go_wp2
     go_ret
     exact ⟨by rw [HQ.out];rfl,by rw [HQ.out];exact kb.1,G2⟩
   ·by_cases h3:k=3
    ·have HQ:Hid (V=(0,(s1.1,true))):=HB.out (by unfold Qq;rw [if_pos (Or.inr (Or.inl (by omega)))])
     subst h3
     generalize lm (Bj t) 3=z at q1 hok
     have y1:¬ (z:Int)<48:=by omega
     have y2:¬ (z:Int) > 57:=by omega
     clear HA hx HN
     go_wp2
     go_ret
     exact ⟨by rw [HQ.out];rfl,by rw [HQ.out];exact kb.1,G2⟩
    ·have hD:=Bh3 t k x (by rw [gl.out];exact hlt)
     rw [if_neg hok,← HA.out] at hD
     have HD:=Ba hD
     have hp:10*x+(lm (Bj t) k - 48)<10 ^ (k+1):=by rw [Nat.pow_succ];omega
     have HP:=Ba hp
     have hm3:x<1000:=Jl hx (Nat.pow_le_pow_right (by decide) hk3)
     clear hD HA HN hp hx
     generalize lm (Bj t) k=z at q1 hok HD HP
     have y1:¬ (z:Int)<48:=by omega
     have y2:¬ (z:Int) > 57:=by omega
     have y3:¬ (k:Int) > 2:=by omega
     clear hok
     go_wp2
     go_round
     case rel=>exact ⟨k+1,10*x+(z - 48),by omega,by omega,by go_num,by congr 1;omega,HP.out,HD⟩
     case measure=>simp [intOf];omega
  ·have hke:k=t.size:=by omega
   have hd:Hid (We (Bj t) 0=some x):=by
    show We (Bj t) 0=some x
    rw [HA.out,List.drop_of_length_le (by rw [gl.out];omega)]
    rfl
   have hx3:x<1000:=Jl hx (Nat.pow_le_pow_right (by decide) hk3)
   clear HA hx HN
   by_cases h0:t=eS
   ·have HQ:Hid (V=(0,(s1.1,true))):=HB.out (by rw [h0];decide)
    subst h0
    go_wp2
    go_ret
    exact ⟨by rw [HQ.out];rfl,by rw [HQ.out];exact kb.1,G2⟩
   ·have hq:(t.toList == [])=false:=neL h0
    have hs0:0<t.size:=by
     rcases Nat.eq_zero_or_pos t.size with h | h
     ·refine absurd ?_ h0
      obtain ⟨⟨l⟩⟩:=t
      have:l.length=0:=h
      rw [List.eq_nil_of_length_eq_zero this]
     ·exact h
    have q0:=Ck t 0 hs0
    by_cases hb:t.size > 1∧lm (Bj t) 0=48
    ·have HQ:Hid (V=(0,(s1.1,true))):=HB.out (by unfold Qq;rw [if_pos (Or.inr (Or.inr ⟨hb.2,hb.1⟩))])
     obtain ⟨h1,h2⟩:=hb
     have g1:(t.size:Int) > 1:=by omega
     rw [h2] at q0
     have g2:t[0]'hs0=48:=UInt8.toNat.inj q0
     clear q0 h2
     go_wp2
     go_ret
     exact ⟨by rw [HQ.out];rfl,by rw [HQ.out];exact kb.1,G2⟩
    ·have hc:Qq t=some x:=by unfold Qq;rw [if_neg (by omega)];exact hd.out
     have hcase:¬ (t.size:Int) > 1∨((t.size:Int) > 1∧¬ ((t[0]'hs0).toNat:Int)=48∧¬ t[0]'hs0=48):=by
      by_cases h:(t.size:Int) > 1
      ·refine Or.inr ⟨h,?_,?_⟩
       ·intro e;exact hb ⟨by omega,by omega⟩
       ·intro e;rw [e] at q0;exact hb ⟨by omega,q0.symm⟩
      ·exact Or.inl h
     by_cases hm:(x:Int)≤m
     ·have HQ:Hid (V=(x,s1)):=HG.out x (by unfold Fm;rw [hc];simp [Option.filter,hm])
      have hm':¬ (x:Int) > m:=by omega
      clear q0 hb hc hd
      rcases hcase with h1 | ⟨h1,h2,h3⟩
      all_goals
       go_wp2
       go_ret
       exact ⟨by rw [HQ.out];rfl,by rw [HQ.out];exact k1,g1⟩
     ·have HQ:Hid (V=(0,(s1.1,true))):=HB2.out (by unfold Fm;rw [hc];simp [Option.filter,hm])
      have hm':(x:Int) > m:=by omega
      clear q0 hb hc hd
      rcases hcase with h1 | ⟨h1,h2,h3⟩
      all_goals
       go_wp2
       go_ret
       exact ⟨by rw [HQ.out];rfl,by rw [HQ.out];exact kb.1,G2⟩
theorem Bcr:Value.cells (.string { data:=#[] })=#[.string { data:=#[] }]:=by kernel_rfl
theorem Qy {w:World} {ops:Array Oper} {rest:List Oper} {o:Oper} {a:Act} {Q:Exit→Act→World→Prop}
  (hg:o.guard=none) (s x:Operand) (hop:o.op=Op.call { callee:=Callee.builtin Builtin.append,args:=#[s,x],argTypes:=#[91,91] })
  (sv:Value) (L:List ByteArray) (hs:a.eval s=sv) (B:Nat) (hown:w.ownsRow B 9 1 sv L.length (L.map Value.string)) (hB:B≤w.heap.size) (b off c:Nat) (M:List ByteArray) (m:Nat) (hm:M.length=m) (hx:a.eval x=.slice (some ⟨b,off,none⟩) m c)
  (hc:∀ j u,M[j]?=some u→w.cell? ⟨b,off+j,none⟩=some (I u)) (hn:L.length+m≤1000000)
  (hK:∀ v' w',w'.ownsRow B 9 1 v' (L ++ M).length ((L ++ M).map Value.string)→w.grownBy w' sv.ownBlock→(v'=.slice none 0 0↔sv=.slice none 0 0∧m=0)→wpList Tryz.prog ops Q rest (a.put o.dst v') w') :
  wpList Tryz.prog ops Q (o :: rest) a w:=by
 obtain ⟨i0,hi,hz0,hz1,hz2⟩:=info_parts (show (Tryz.prog.info? 9).map (fun i=>(i.zero,i.size,i.bytes))=some (some (I ⟨#[]⟩),1,16) by kernel_rfl)
 refine wpList_append_own _ hg s x 91 hop B 9 i0 (I ⟨#[]⟩) 1 16 Tryz.underlying91 hi hz0 hz1 hz2 (by rw [Bcr];rfl) (by decide) sv L.length _ hs hown ⟨b,off,none⟩ m c (M.map Value.string) hx (by simp [hm]) ?_ ?_ ?_ ?_ hB (fun v' w' h1 h2 h3=>hK v' w' (by rw [Ji,List.map_append,hm];exact h1) h2 h3)
 ·intro j u hj
  rw [List.getElem?_map] at hj
  obtain ⟨t,ht,rfl⟩:=Option.map_eq_some_iff.1 hj
  rw [Addr.add_mid]
  exact hc j t ht
 ·intro u hu
  obtain ⟨t,-,rfl⟩:=List.mem_map.1 hu
  rfl
 ·unfold maxLen;omega
 ·omega
theorem Bhn (n:Nat) (w:World) (h0:0<n) (hn:n≤100000) :
  Calls Tryz.prog 156 #[.slice none 0 0,.int .i64 n] w fun e w'=>∃ cap,e=.returned (.slice (some ⟨w.heap.size,0,none⟩) 0 cap)∧w'.ownsRow w.heap.size 9 1 (.slice (some ⟨w.heap.size,0,none⟩) 0 cap) 0 []∧Below w.heap.size w w':=by
 obtain ⟨i0,hi,hz0,hz1,hz2⟩:=info_parts (show (Tryz.prog.info? 9).map (fun i=>(i.zero,i.size,i.bytes))=some (some (I ⟨#[]⟩),1,16) by kernel_rfl)
 have happ:=Lib.run_append_nil_zeros (P:=Tryz.prog) w 91 3 91 9 i0 (I ⟨#[]⟩) .i64 .i64 Tryz.underlying91 Tryz.underlying3 hi hz0 n h0 (by omega) (by omega) (by rw [hz2];omega)
 generalize hcap:grownCap w n 0 9=cap at happ
 have hge:n≤cap:=by rw [← hcap];exact grownCap_ge w _ 0 _
 have hle:cap≤maxLen:=by rw [← hcap];exact grownCap_le_maxLen w _ 0 _ (by unfold maxLen;omega)
 rw [Bcr] at happ
 generalize hZ:(Builtin.zeroCells #[Value.string ⟨#[]⟩] n ++ Builtin.zeroCells #[Value.string ⟨#[]⟩] (cap - n))=Z at happ
 have hZs:Z.size=cap*1:=by rw [← hZ];simp [size_zeroCells];omega
 clear hcap hZ
 have HO:Hid ((w.drew.alloc (.cells Z 9)).ownsRow w.heap.size 9 1 (.slice (some ⟨w.heap.size,0,none⟩) 0 cap) 0 []):=World.ownsRow_made w.drew Z cap (Jb _) hle hZs
 have HB:Hid (Below w.heap.size w (w.drew.alloc (.cells Z 9))):=(Fe w).alloc (Jb _) _
 clear hle hZs
 go_enter Tryz.func156,Tryz.ntmps156
 go_wp2_with (at_builtin;refine Lib.wpList_append_run _ rfl _ _ _ _ rfl _ _ rfl rfl _ _ happ ?_)
 go_ret
 exact ⟨cap,rfl,HO.out,HB.out⟩
theorem Xu {w:World} {B z n:Nat} {e:TypeId} {v:Value} {xs:List Value} (h:w.ownsRow B e z v n xs):∀ g,v.ownBlock=some g→B≤g:=fun g hg=>(h.lt g hg).1
theorem Sn (B:Nat) (v0 v1:Value) (t0 t1:ByteArray) (r0 r1:List ByteArray) (w:World) (hB:Bi w B [v0,v1] 91) (h0:B9 w 1 v0 ((t0 :: r0).map fun u=>[Value.string u])) (h1:B9 w 1 v1 ((t1 :: r1).map fun u=>[Value.string u])) (hn:r0.length+r1.length≤1000) :
  Calls Tryz.prog 99 #[.slice (some ⟨B,0,none⟩) 2 2] w fun e w'=>∃ v,e=.returned v∧w'.ownsRow w.heap.size 9 1 v ((t0 :: r0) ++ (t1 :: r1)).length (((t0 :: r0) ++ (t1 :: r1)).map Value.string)∧Below w.heap.size w w':=by
 obtain ⟨b0,o0,c0,rfl,-,-,a0⟩:=B9.str h0
 obtain ⟨b1,o1,c1,rfl,-,-,a1⟩:=B9.str h1
 have k0:=hB.cell 0
 have k1:=hB.cell 1
 simp only [Jn,Jm] at k0 k1
 obtain ⟨n0,e0⟩:∃ n,n=r0.length+1:=⟨_,rfl⟩
 obtain ⟨n1,e1⟩:∃ n,n=r1.length+1:=⟨_,rfl⟩
 rw [← e0] at k0
 rw [← e1] at k1
 replace a0:=Ba a0
 replace a1:=Ba a1
 have hn':n0+n1≤2000:=by omega
 have HG:Hid (∀ w:World,Calls Tryz.prog 156 #[.slice none 0 0,.int .i64 ((n0:Int)+(n1:Int))] w fun e w'=>∃ cap,e=.returned (.slice (some ⟨w.heap.size,0,none⟩) 0 cap)∧w'.ownsRow w.heap.size 9 1 (.slice (some ⟨w.heap.size,0,none⟩) 0 cap) 0 []∧Below w.heap.size w w'):=fun w=>by
  have:=Bhn (n0+n1) w (by omega) (by omega)
  rwa [Int.natCast_add] at this
 have E0:=Ba e0
 have E1:=Ba e1
 clear h0 h1 e0 e1 hB hn
 go_enter Tryz.func99,Tryz.ntmps99
 go_wp2_with fail
 refine wp_loop_rounds 3 ?_
 rw [rounds_succ]
 go_wp2_with fail
 rw [rounds_succ]
 go_wp2_with fail
 rw [rounds_succ]
 go_wp2_with fail
 go_fit (HG.out _)
 rintro e w1 ⟨cap,rfl,ho,b1⟩
 clear HG
 go_wp2_with fail
 go_loopw [6,27] (fun v i wr=>Below w.heap.size w wr∧((i=.int .i64 0∧wr.ownsRow w.heap.size 9 1 v 0 [])∨(i=.int .i64 1∧wr.ownsRow w.heap.size 9 1 v (t0 :: r0).length ((t0 :: r0).map Value.string))∨(i=.int .i64 2∧wr.ownsRow w.heap.size 9 1 v ((t0 :: r0) ++ (t1 :: r1)).length (((t0 :: r0) ++ (t1 :: r1)).map Value.string)))) (fun _ i _=>2 - (intOf i).toNat)
 case atStart=>exact ⟨b1,Or.inl ⟨rfl,ho⟩⟩
 case round =>
  clear ho b1
  obtain ⟨bb,hi⟩:=hrel
  replace k0:=Bh k0 bb
  replace k1:=Bh k1 bb
  have r0':Hid (∀ j u,(t0 :: r0)[j]?=some u→wr.cell? ⟨b0,o0+j,none⟩=some (I u)):=fun j u hu=>Bh (a0.out j u hu) bb
  have r1':Hid (∀ j u,(t1 :: r1)[j]?=some u→wr.cell? ⟨b1,o1+j,none⟩=some (I u)):=fun j u hu=>Bh (a1.out j u hu) bb
  rcases hi with ⟨rfl,ho⟩ | ⟨rfl,ho⟩ | ⟨rfl,ho⟩
  ·replace ho:=Ba ho
   go_wp2_with (at_builtin;refine Qy rfl _ _ rfl u6 [] rfl w.heap.size ho.out bb.size b0 o0 c0 (t0 :: r0) n0 E0.out.symm rfl r0'.out (by simp;omega) ?_;intro v' w2 o2 hg2 hnil)
   have B2:Hid (Below w.heap.size w w2):=Lo bb hg2 (Jb _) (Xu ho.out)
   rw [List.nil_append] at o2
   replace o2:=Ba o2
   clear hg2 hnil ho k0 k1 bb
   go_wp2
   exact ⟨⟨B2.out,Or.inr (Or.inl ⟨by go_num,o2.out⟩)⟩,by simp [intOf]⟩
  ·replace ho:=Ba ho
   go_wp2_with (at_builtin;refine Qy rfl _ _ rfl u6 (t0 :: r0) rfl w.heap.size ho.out bb.size b1 o1 c1 (t1 :: r1) n1 E1.out.symm rfl r1'.out (by have:=E0.out;simp;omega) ?_;intro v' w2 o2 hg2 hnil)
   have B2:Hid (Below w.heap.size w w2):=Lo bb hg2 (Jb _) (Xu ho.out)
   replace o2:=Ba o2
   clear hg2 hnil ho k0 k1 bb
   go_wp2
   exact ⟨⟨B2.out,Or.inr (Or.inr ⟨by go_num,o2.out⟩)⟩,by simp [intOf]⟩
  ·replace ho:=Ba ho
   clear k0 k1
   go_wp2
   go_ret
   exact ⟨_,rfl,ho.out,bb⟩
end Go.Proofs.YtnplifkgeeicjaaGreatDoor
