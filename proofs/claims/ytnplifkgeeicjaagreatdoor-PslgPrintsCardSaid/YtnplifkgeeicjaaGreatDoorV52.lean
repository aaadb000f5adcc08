import Derived.Test.YtnplifkgeeicjaaGreatDoorV48
import Derived.Test.YtnplifkgeeicjaaGreatDoorV49
import Derived.Test.YtnplifkgeeicjaaGreatDoorV51
set_option maxRecDepth 100000
set_option maxHeartbeats 16000000
namespace Go.Proofs.YtnplifkgeeicjaaGreatDoor
open Go.RowKit
theorem Bib (p:Q3 × Q3):∀ u∈cP p,u.oneCell'=true:=by simp [cP,Value.oneCell']
theorem Bno (p:Int × Int × Bool):∀ u∈cZ p,u.oneCell'=true:=by simp [cZ,Value.oneCell']
theorem Yd {α:Type} (f:α→List Value) (z:Nat) (hz:0<z) (hf:∀ a,(f a).length=z):∀ (l:List α) (j:Nat) (v:Value),(l.flatMap f)[j]?=some v→∃ a,l[j / z]?=some a∧(f a)[j % z]?=some v
 | [],j,v,h=>by simp at h
 | b :: l,j,v,h=>by
  rw [List.flatMap_cons] at h
  by_cases hj:j<z
  ·rw [List.getElem?_append_left (by rw [hf];exact hj)] at h
   rw [Nat.div_eq_of_lt hj,Nat.mod_eq_of_lt hj]
   exact ⟨b,rfl,h⟩
  ·rw [List.getElem?_append_right (by rw [hf];omega),hf] at h
   obtain ⟨a,h1,h2⟩:=Yd f z hz hf l (j - z) v h
   have e:j=(j - z)+z:=by omega
   refine ⟨a,?_,?_⟩
   ·rw [e,Nat.add_div_right _ hz]
    exact h1
   ·rw [e,Nat.add_mod_right]
    exact h2
theorem Yc {α:Type} (f:α→List Value) (z:Nat) (hf:∀ a,(f a).length=z):∀ l:List α,(l.flatMap f).length=l.length*z
 | []=>by simp
 | b :: l=>by rw [List.flatMap_cons,Ji,hf,Yc f z hf l,List.length_cons,Nat.succ_mul,Nat.add_comm]
theorem Ld {α:Type} {w:World} {ops:Array Oper} {rest:List Oper} {o:Oper} {a:Act} {Q:Exit→Act→World→Prop} (T e:TypeId) (z:Value) (size bytes:Nat)
  (hT:Tryz.prog.underlying T=some (.slice e)) (hi:(Tryz.prog.info? e).map (fun i=>(i.zero,i.size,i.bytes))=some (some z,size,bytes)) (hzs:z.cells.size=size) (hsz:0<size) (hbs:bytes≤1000)
  (hgd:o.guard=none) (s x:Operand) (hop:o.op=Op.call { callee:=Callee.builtin Builtin.append,args:=#[s,x],argTypes:=#[T,T] })
  (hs:a.eval s=Bs) (ao:Option Addr) (n c:Nat) (hx:a.eval x=.slice ao n c) (l:List α) (f:α→List Value) (hf:∀ a,(f a).length=size) (h1:∀ a,∀ u∈f a,u.oneCell'=true) (hr:B9 w size (.slice ao n c) (l.map f)) (h0:ao=none→c=0) (hn:n≤1000)
  (hK:∀ v' w',w'.ownsRow w.heap.size e size v' n (l.flatMap f)→Below w.heap.size w w'→wpList Tryz.prog ops Q rest (a.put o.dst v') w') :
  wpList Tryz.prog ops Q (o :: rest) a w:=by
 obtain ⟨i0,hi,hz0,hz1,hz2⟩:=info_parts hi
 obtain ⟨a',c',e',hcp,hq⟩:=hr
 rw [List.length_map] at e'
 obtain ⟨rfl,rfl,rfl⟩:=Value.slice.inj e'
 cases ao with
 | none =>
  have hl:l=[]:=by
   cases l with
   | nil=>rfl
   | cons b l =>
    obtain ⟨g,o,h,-⟩:=hq 0 _ rfl
    exact absurd h (by simp)
  subst hl
  obtain rfl:=h0 rfl
  refine wpList_append_own_none hgd s x T hop w.heap.size e i0 size hT hi Bs 0 [] hs (World.ownsRow_nil _ _ _ _) hx ?_
  exact hK Bs w (World.ownsRow_nil _ _ _ _) (Jg _ _)
 | some ad =>
  refine wpList_append_own w hgd s x T hop w.heap.size e i0 z size bytes hT hi hz0 hz1 hz2 hzs hsz Bs 0 [] hs (World.ownsRow_nil _ _ _ _) ad l.length c (l.flatMap f) hx (Yc f size hf l) (fun j u hj=>?_) (fun u hu=>?_) (by unfold maxLen;omega) ?_ (Jb _) (fun v' w' k1 k2 _=>hK v' w' (by rw [Nat.zero_add,List.nil_append] at k1;exact k1) ?_)
  ·obtain ⟨b,hb,hv⟩:=Yd f size hsz hf l j u hj
   obtain ⟨g,o,h,-,hc⟩:=hq (j / size) (f b) (by rw [List.getElem?_map,hb];rfl)
   obtain rfl:=Option.some.inj h
   have:=hc (j % size) u hv
   rw [Nat.add_assoc,Nat.mul_comm,Nat.div_add_mod] at this
   rw [show (⟨g,o,none⟩:Addr).add j=⟨g,o+j,none⟩ by simp [Addr.add]]
   exact this
  ·obtain ⟨b,-,hb⟩:=List.mem_flatMap.1 hu
   exact h1 b u hb
  ·exact Jf (Nat.mul_le_mul (by omega:0+l.length≤1000) hbs) (by decide)
  ·exact (Jg _ w).grown k2 (Jb _) fun k hk=>by cases hk
theorem Bll (x y:Nat→Q3):(Tryz.prog.built 46 [(3,.agg (C4 x).toArray),(4,.agg (C4 y).toArray)]).getD #[]=(Dq Bs Bs Bs (C4 x) (C4 y)).toArray:=by kernel_rfl
theorem Bid (x y:Nat→Q3):(Tryz.prog.built 46 [(3,.agg (C4 x).toArray),(4,.agg (C4 y).toArray)]).isSome=true:=by kernel_rfl
theorem Sy {w:World} {ops:Array Oper} {rest:List Oper} {o:Oper} {a:Act} {Q:Exit→Act→World→Prop} (hg:o.guard=none) (i j:Tmp) (ho:o.op=.build 46 #[(3,.tmp i),(4,.tmp j)]) {fx gx co:List Value} (hx:a.eval (.tmp i)=.agg fx.toArray) (hy:a.eval (.tmp j)=.agg gx.toArray)
  (hbs:(Tryz.prog.built 46 [(3,.agg fx.toArray),(4,.agg gx.toArray)]).isSome=true) (hbu:(Tryz.prog.built 46 [(3,.agg fx.toArray),(4,.agg gx.toArray)]).getD #[]=co.toArray)
  (k:wpList Tryz.prog ops Q rest (a.put o.dst (.agg co.toArray)) w):wpList Tryz.prog ops Q (o :: rest) a w:=by
 have e:(((#[(3,.tmp i),(4,.tmp j)]:Array (Nat × Operand)).map fun (i,x)=>(i,a.eval x)).toList)=[(3,.agg fx.toArray),(4,.agg gx.toArray)]:=by
  simp only [List.map_toArray,List.map_cons,List.map_nil,hx,hy]
 refine wpList_build hg 46 _ ho (by rw [e];exact hbs) ?_
 rw [e,hbu]
 exact k
def PlZ (w:World) (B:Nat) (v1 v2 v3:Value) (A1 A3:List (Q3 × Q3)) (A2:List (Int × Int × Bool)):Prop :=
 w.ownsRow B 30 6 v1 A1.length (A1.flatMap cP)∧w.ownsRow B 103 3 v2 A2.length (A2.flatMap cZ)∧w.ownsRow B 30 6 v3 A3.length (A3.flatMap cP)
theorem Bgr {fn:Func} {p:Tmp} {R:Ending→World→Prop} {a:Act} {w:World} {g:Nat} {cs:List Value} (h:fn.results=#[.cell p 46]) (hp:a.tmps.getD p undef=.pointer (some ⟨g,0,none⟩)) (hd:a.defers=[])
  (hc:Bi w g cs 46) (hl:cs.length=39) (hR:R (.returned (.agg cs.toArray)) w):bodyPost Tryz.prog fn R .ret a w:=by
 refine ⟨hd,.agg cs.toArray,?_,hR⟩
 have hp':a.tmps[p]?.getD undef=.pointer (some ⟨g,0,none⟩):=by simpa using hp
 simp only [results,h]
 simp [hp',asAddr,Bca hc hl]
theorem Bh7 (A1 A3:List (Q3 × Q3)) (A2:List (Int × Int × Bool)) (a1 a2 a3:Option Addr) (n1 n2 n3 m1 m2 m3:Nat) (x y:Nat→Q3) (w:World) (e1:A1.length=n1) (e2:A2.length=n2) (e3:A3.length=n3) (h1:n1≤100) (h2:n2≤100) (h3:n3≤100)
  (r1:B9 w 6 (.slice a1 n1 m1) (A1.map cP)) (r2:B9 w 3 (.slice a2 n2 m2) (A2.map cZ)) (r3:B9 w 6 (.slice a3 n3 m3) (A3.map cP)) (z1:a1=none→m1=0) (z2:a2=none→m2=0) (z3:a3=none→m3=0) :
  Calls Tryz.prog 22 #[.agg #[.slice a1 n1 m1,.slice a2 n2 m2,.slice a3 n3 m3,Iz (x 0).1,I (x 0).2.1,I (x 0).2.2,Iz (x 1).1,I (x 1).2.1,I (x 1).2.2,Iz (x 2).1,I (x 2).2.1,I (x 2).2.2,Iz (x 3).1,I (x 3).2.1,I (x 3).2.2,Iz (x 4).1,I (x 4).2.1,I (x 4).2.2,Iz (x 5).1,I (x 5).2.1,I (x 5).2.2,Iz (y 0).1,I (y 0).2.1,I (y 0).2.2,Iz (y 1).1,I (y 1).2.1,I (y 1).2.2,Iz (y 2).1,I (y 2).2.1,I (y 2).2.2,Iz (y 3).1,I (y 3).2.1,I (y 3).2.2,Iz (y 4).1,I (y 4).2.1,I (y 4).2.2,Iz (y 5).1,I (y 5).2.1,I (y 5).2.2]] w fun e w'=>∃ v1 v2 v3,e=.returned (.agg (Dq v1 v2 v3 (C4 x) (C4 y)).toArray)∧PlZ w' w.heap.size v1 v2 v3 A1 A3 A2∧Below w.heap.size w w':=by
 have Z1:=Ba z1
 have Z2:=Ba z2
 have Z3:=Ba z3
 have E1:=Ba e1
 have E2:=Ba e2
 have E3:=Ba e3
 go_enter Tryz.func22,Tryz.ntmps22
 go_upto_region 1 with fail
 obtain ⟨w0,hq,kz,kr,b0⟩:=Yu w [.slice a1 n1 m1,.slice a2 n2 m2,.slice a3 n3 m3,Iz (x 0).1,I (x 0).2.1,I (x 0).2.2,Iz (x 1).1,I (x 1).2.1,I (x 1).2.2,Iz (x 2).1,I (x 2).2.1,I (x 2).2.2,Iz (x 3).1,I (x 3).2.1,I (x 3).2.2,Iz (x 4).1,I (x 4).2.1,I (x 4).2.2,Iz (x 5).1,I (x 5).2.1,I (x 5).2.2,Iz (y 0).1,I (y 0).2.1,I (y 0).2.2,Iz (y 1).1,I (y 1).2.1,I (y 1).2.2,Iz (y 2).1,I (y 2).2.1,I (y 2).2.2,Iz (y 3).1,I (y 3).2.1,I (y 3).2.2,Iz (y 4).1,I (y 4).2.1,I (y 4).2.2,Iz (y 5).1,I (y 5).2.1,I (y 5).2.2] [Bs,Bs,Bs,Iz false,I eS,I eS,Iz false,I eS,I eS,Iz false,I eS,I eS,Iz false,I eS,I eS,Iz false,I eS,I eS,Iz false,I eS,I eS,Iz false,I eS,I eS,Iz false,I eS,I eS,Iz false,I eS,I eS,Iz false,I eS,I eS,Iz false,I eS,I eS,Iz false,I eS,I eS] 46 46
 rw [← hq]
 clear hq
 have kz0:Bi w0 w.heap.size (Dq (.slice a1 n1 m1) (.slice a2 n2 m2) (.slice a3 n3 m3) (C4 x) (C4 y)) 46:=kz
 clear kz
 generalize Value.agg #[.slice a1 n1 m1,.slice a2 n2 m2,.slice a3 n3 m3,Iz (x 0).1,I (x 0).2.1,I (x 0).2.2,Iz (x 1).1,I (x 1).2.1,I (x 1).2.2,Iz (x 2).1,I (x 2).2.1,I (x 2).2.2,Iz (x 3).1,I (x 3).2.1,I (x 3).2.2,Iz (x 4).1,I (x 4).2.1,I (x 4).2.2,Iz (x 5).1,I (x 5).2.1,I (x 5).2.2,Iz (y 0).1,I (y 0).2.1,I (y 0).2.2,Iz (y 1).1,I (y 1).2.1,I (y 1).2.2,Iz (y 2).1,I (y 2).2.1,I (y 2).2.2,Iz (y 3).1,I (y 3).2.1,I (y 3).2.2,Iz (y 4).1,I (y 4).2.1,I (y 4).2.2,Iz (y 5).1,I (y 5).2.1,I (y 5).2.2]=V0
 have R1:=Ba (fun wi (b:Below w0.heap.size w0 wi)=>(r1.b b0).b b)
 have R2:=Ba (fun wi (b:Below w0.heap.size w0 wi)=>(r2.b b0).b b)
 have R3:=Ba (fun wi (b:Below w0.heap.size w0 wi)=>(r3.b b0).b b)
 have cf:w0.rangeAt w.heap.size 3 [Iz (x 0).1,I (x 0).2.1,I (x 0).2.2,Iz (x 1).1,I (x 1).2.1,I (x 1).2.2,Iz (x 2).1,I (x 2).2.1,I (x 2).2.2,Iz (x 3).1,I (x 3).2.1,I (x 3).2.2,Iz (x 4).1,I (x 4).2.1,I (x 4).2.2,Iz (x 5).1,I (x 5).2.1,I (x 5).2.2]:=Dm kz0 3 18
 have cg:w0.rangeAt w.heap.size 21 [Iz (y 0).1,I (y 0).2.1,I (y 0).2.2,Iz (y 1).1,I (y 1).2.1,I (y 1).2.2,Iz (y 2).1,I (y 2).2.1,I (y 2).2.2,Iz (y 3).1,I (y 3).2.1,I (y 3).2.2,Iz (y 4).1,I (y 4).2.1,I (y 4).2.2,Iz (y 5).1,I (y 5).2.1,I (y 5).2.2]:=Dm kz0 21 18
 clear r1 r2 r3 z1 z2 z3 e1 e2 e3
 obtain ⟨G,hG⟩:∃ G,G=w.heap.size:=⟨_,rfl⟩
 have kr0:Bi w0 (G+1) Z39 46:=by rw [hG];exact kr
 clear kr
 have cf':w0.rangeAt w.heap.size 3 (C4 x):=cf
 have cg':w0.rangeAt w.heap.size 21 (C4 y):=cg
 clear cf cg
 rw [← hG] at kz0 cf' cg' ⊢
 have hlo:(Dq Bs Bs Bs (C4 x) (C4 y)).length=39:=rfl
 have hone:(Dq Bs Bs Bs (C4 x) (C4 y)).toArray.all (·.oneCell')=true:=by kernel_rfl
 have hbu:=Bll x y
 have hbs:=Bid x y
 obtain ⟨w2,hst,ko,b2⟩:=Hm w0 _ hlo hone
 obtain ⟨co,hco⟩:∃ co:List Value,co=Dq Bs Bs Bs (C4 x) (C4 y):=⟨_,rfl⟩
 have hcz:Dq (.slice a1 n1 m1) (.slice a2 n2 m2) (.slice a3 n3 m3) (C4 x) (C4 y)=(.slice a1 n1 m1) :: (.slice a2 n2 m2) :: (.slice a3 n3 m3) :: (C4 x ++ C4 y):=rfl
 rw [hcz] at kz0
 have hcz2:co=Bs :: Bs :: Bs :: (C4 x ++ C4 y):=hco
 obtain ⟨fx,hfx⟩:∃ l:List Value,l=C4 x:=⟨_,rfl⟩
 obtain ⟨gx,hgx⟩:∃ l:List Value,l=C4 y:=⟨_,rfl⟩
 have lfx:fx.length=18:=by rw [hfx];rfl
 have lgx:gx.length=18:=by rw [hgx];rfl
 have ofg:(fx ++ gx).all (·.oneCell')=true:=by rw [hfx,hgx];kernel_rfl
 rw [← hco] at hst ko hlo hone hbu
 rw [← hfx] at cf' hbu hbs kz0 hcz2
 rw [← hgx] at cg' hbu hbs kz0 hcz2
 have HFX:=Ba hfx
 have HGX:=Ba hgx
 have HGG:=Ba hG
 have HC2:=Ba hcz2
 have hOG:G<w0.heap.size:=kz0.lt
 have hRG:G+1<w0.heap.size:=kr0.lt
 clear hco hfx hgx hcz hone hG hcz2
 go_upto_region 2 with (first | (refine wpList_load_mid rfl 28 _ rfl G 3 rfl fx _ cf' Tryz.underlying28 rfl (by rw [lfx];kernel_rfl) ?_) | (refine wpList_load_mid rfl 28 _ rfl G 21 rfl gx _ cg' Tryz.underlying28 rfl (by rw [lgx];kernel_rfl) ?_) | (refine Sy rfl 5 7 rfl rfl rfl hbs hbu ?_))
 clear cf' cg' hbs hbu hst
 obtain ⟨O,hO⟩:∃ O,O=w0.heap.size:=⟨_,rfl⟩
 have B2:Below O w0 w2:=by rw [hO];exact b2
 rw [← hO] at ko ⊢
 have kz2:=kz0.b b2
 have kr2:=kr0.b b2
 have RR1:Hid (∀ wi,Below O w0 wi→B9 wi 6 (.slice a1 n1 m1) (A1.map cP)):=by rw [hO];exact R1
 have RR2:Hid (∀ wi,Below O w0 wi→B9 wi 3 (.slice a2 n2 m2) (A2.map cZ)):=by rw [hO];exact R2
 have RR3:Hid (∀ wi,Below O w0 wi→B9 wi 6 (.slice a3 n3 m3) (A3.map cP)):=by rw [hO];exact R3
 rw [← hO] at hOG hRG
 have HWO:Hid (w.heap.size<O):=by rw [hO,← HGG.out,hO.symm];exact hOG
 have HB0:Hid (O=w0.heap.size):=hO
 clear b2 kz0 kr0 R1 R2 R3 hO
 have c0:w2.cell? ⟨O,0,none⟩=some Bs:=by rw [ko.cell,HC2.out];rfl
 have c1:w2.cell? ⟨G,0,none⟩=some (.slice a1 n1 m1):=kz2.cell 0
 have rr:=RR1.out _ B2
 go_upto_region 3 with (refine Ld 43 30 ((qa2 false eS eS false eS eS)) 6 80 Tryz.underlying43 (by kernel_rfl) rfl (by decide) (by decide) rfl (.tmp 10) (.tmp 12) rfl rfl a1 n1 m1 rfl A1 cP D7 Bib rr Z1.out (by omega) ?_;intro v3 w3 o3 b3;obtain ⟨av0,cv0,rfl⟩:=By o3;have kk:=ko.b b3;have f0:=Bi.o kk 0;have c2:w3.cell? ⟨O,0,none⟩=some Bs:=by rw [kk.cell,HC2.out];rfl)
 have on:=(Bu.refl O w3).setCell 0 (.slice av0 n1 cv0)
 have hlt:O<w2.heap.size:=ko.lt
 have ko4:=kk.set 0 (.slice av0 n1 cv0)
 have kz4:=(kz2.b b3).t (show G≠O by omega) 0 (.slice av0 n1 cv0)
 have kr4:=(kr2.b b3).t (show G+1≠O by omega) 0 (.slice av0 n1 cv0)
 have B4:Below O w0 (w3.setCell ⟨O,0,none⟩ (.slice av0 n1 cv0)):=(B2.trans (b3.mono (Nat.le_of_lt hlt))).setCell (Jb O) _
 have p0:=Cf (Bv o3 on hlt) (Nat.succ_le_of_lt hlt)
 obtain ⟨co4,hcn⟩:∃ c:List Value,c=co.set 0 (.slice av0 n1 cv0):=⟨_,rfl⟩
 rw [← hcn] at ko4
 have HC4:Hid (co4=(.slice av0 n1 cv0) :: (Bs) :: (Bs) :: (fx ++ gx)):=by show _=_;rw [hcn,HC2.out];rfl
 clear c0 c1 rr on kk f0 c2 hlt o3 b3 ko kz2 kr2 B2 hcn HC2
 generalize w3.setCell _ _=w4 at *
 have c0:w4.cell? ⟨O,1,none⟩=some Bs:=by rw [ko4.cell,HC4.out];rfl
 have c1:w4.cell? ⟨G,1,none⟩=some (.slice a2 n2 m2):=kz4.cell 1
 have rr:=RR2.out _ B4
 go_upto_region 4 with (refine Ld 44 103 (.agg #[.int .i64 0,.int .i64 0,Iz false]) 3 24 Tryz.underlying44 (by kernel_rfl) rfl (by decide) (by decide) rfl (.tmp 16) (.tmp 18) rfl rfl a2 n2 m2 rfl A2 cZ Vz Bno rr Z2.out (by omega) ?_;intro v5 w5 o5 b5;obtain ⟨av1,cv1,rfl⟩:=By o5;have kk:=ko4.b b5;have f0:=Bi.o kk 1;have c2:w5.cell? ⟨O,1,none⟩=some Bs:=by rw [kk.cell,HC4.out];rfl)
 have on:=(Bu.refl O w5).setCell 1 (.slice av1 n2 cv1)
 have hlt:O<w4.heap.size:=ko4.lt
 have ko6:=kk.set 1 (.slice av1 n2 cv1)
 have kz6:=(kz4.b b5).t (show G≠O by omega) 1 (.slice av1 n2 cv1)
 have kr6:=(kr4.b b5).t (show G+1≠O by omega) 1 (.slice av1 n2 cv1)
 have B6:Below O w0 (w5.setCell ⟨O,1,none⟩ (.slice av1 n2 cv1)):=(B4.trans (b5.mono (Nat.le_of_lt hlt))).setCell (Jb O) _
 have p1:=Cf (Bv o5 on hlt) (Nat.succ_le_of_lt hlt)
 replace p0:=Bv (Cg p0 b5) on (Nat.lt_succ_self O)
 obtain ⟨co6,hcn⟩:∃ c:List Value,c=co4.set 1 (.slice av1 n2 cv1):=⟨_,rfl⟩
 rw [← hcn] at ko6
 have HC6:Hid (co6=(.slice av0 n1 cv0) :: (.slice av1 n2 cv1) :: (Bs) :: (fx ++ gx)):=by show _=_;rw [hcn,HC4.out];rfl
 clear c0 c1 rr on kk f0 c2 hlt o5 b5 ko4 kz4 kr4 B4 hcn HC4
 generalize w5.setCell _ _=w6 at *
 have c0:w6.cell? ⟨O,2,none⟩=some Bs:=by rw [ko6.cell,HC6.out];rfl
 have c1:w6.cell? ⟨G,2,none⟩=some (.slice a3 n3 m3):=kz6.cell 2
 have rr:=RR3.out _ B6
 go_upto_region 5 with (refine Ld 43 30 ((qa2 false eS eS false eS eS)) 6 80 Tryz.underlying43 (by kernel_rfl) rfl (by decide) (by decide) rfl (.tmp 22) (.tmp 24) rfl rfl a3 n3 m3 rfl A3 cP D7 Bib rr Z3.out (by omega) ?_;intro v7 w7 o7 b7;obtain ⟨av2,cv2,rfl⟩:=By o7;have kk:=ko6.b b7;have f0:=Bi.o kk 2;have c2:w7.cell? ⟨O,2,none⟩=some Bs:=by rw [kk.cell,HC6.out];rfl)
 have on:=(Bu.refl O w7).setCell 2 (.slice av2 n3 cv2)
 have hlt:O<w6.heap.size:=ko6.lt
 have ko8:=kk.set 2 (.slice av2 n3 cv2)
 have kz8:=(kz6.b b7).t (show G≠O by omega) 2 (.slice av2 n3 cv2)
 have kr8:=(kr6.b b7).t (show G+1≠O by omega) 2 (.slice av2 n3 cv2)
 have B8:Below O w0 (w7.setCell ⟨O,2,none⟩ (.slice av2 n3 cv2)):=(B6.trans (b7.mono (Nat.le_of_lt hlt))).setCell (Jb O) _
 have p2:=Cf (Bv o7 on hlt) (Nat.succ_le_of_lt hlt)
 replace p0:=Bv (Cg p0 b7) on (Nat.lt_succ_self O)
 replace p1:=Bv (Cg p1 b7) on (Nat.lt_succ_self O)
 obtain ⟨co8,hcn⟩:∃ c:List Value,c=co6.set 2 (.slice av2 n3 cv2):=⟨_,rfl⟩
 rw [← hcn] at ko8
 have HC8:Hid (co8=(.slice av0 n1 cv0) :: (.slice av1 n2 cv1) :: (.slice av2 n3 cv2) :: (fx ++ gx)):=by show _=_;rw [hcn,HC6.out];rfl
 clear c0 c1 rr on kk f0 c2 hlt o7 b7 ko6 kz6 kr6 B6 hcn HC6
 generalize w7.setCell _ _=w8 at *
 have hl8:co8.length=39:=by rw [HC8.out];show (fx ++ gx).length+1+1+1=39;rw [Ji,lfx,lgx]
 have ho8:co8.toArray.all (·.oneCell')=true:=by
  rw [HC8.out,List.all_toArray]
  exact ofg
 have oZ:=(Bu.refl (G+1) w8).setRow co8.toArray
 go_wp2_with (first | (refine Je rfl 46 _ rfl _ rfl 46 co8.toArray (0,0) _ ko8 Tryz.underlying46 rfl (by rw [List.size_toArray,hl8];kernel_rfl) ?_) | (refine Jj rfl 46 _ _ rfl _ co8.toArray rfl rfl 46 _ kr8 (by rw [List.size_toArray,hl8];kernel_rfl) (show 39=co8.toArray.size by rw [List.size_toArray,hl8]) ho8 ?_))
 have hE:co8=Dq (.slice av0 n1 cv0) (.slice av1 n2 cv1) (.slice av2 n3 cv2) (C4 x) (C4 y):=by rw [HC8.out,HFX.out,HGX.out]
 refine Bgr (p:=2) (by kernel_rfl) rfl rfl (kr8.rowS co8) hl8 ⟨_,_,_,by rw [hE],⟨?_,?_,?_⟩,?_⟩
 ·rw [E1.out];exact Cf (Bv p0 oZ (by omega)) (by have:=HWO.out;omega)
 ·rw [E2.out];exact Cf (Bv p1 oZ (by omega)) (by have:=HWO.out;omega)
 ·rw [E3.out];exact Cf (Bv p2 oZ (by omega)) (by have:=HWO.out;omega)
 ·have bq:Below w.heap.size w w8:=b0.trans (B8.mono (Nat.le_of_lt HWO.out))
  exact oZ.b bq (by rw [← HGG.out];omega)
open Go.RowKit Go.Shelf
theorem Ze (a1 a2 a3:Option Addr) (n1 n2 n3 m1 m2 m3:Nat) (x y:Nat→Q3) (w:World) (h:¬ (n1≤40∧n2≤60∧n3≤10)) :
  Calls Tryz.prog 54 #[.agg #[.slice a1 n1 m1,.slice a2 n2 m2,.slice a3 n3 m3,Iz (x 0).1,I (x 0).2.1,I (x 0).2.2,Iz (x 1).1,I (x 1).2.1,I (x 1).2.2,Iz (x 2).1,I (x 2).2.1,I (x 2).2.2,Iz (x 3).1,I (x 3).2.1,I (x 3).2.2,Iz (x 4).1,I (x 4).2.1,I (x 4).2.2,Iz (x 5).1,I (x 5).2.1,I (x 5).2.2,Iz (y 0).1,I (y 0).2.1,I (y 0).2.2,Iz (y 1).1,I (y 1).2.1,I (y 1).2.2,Iz (y 2).1,I (y 2).2.1,I (y 2).2.2,Iz (y 3).1,I (y 3).2.1,I (y 3).2.2,Iz (y 4).1,I (y 4).2.1,I (y 4).2.2,Iz (y 5).1,I (y 5).2.1,I (y 5).2.2]] w (Re w (Iz false)):=by
 have cut:(40:Int)<(n1:Int)∨(¬ (40:Int)<(n1:Int)∧(60:Int)<(n2:Int))∨(¬ (40:Int)<(n1:Int)∧¬ (60:Int)<(n2:Int)∧(10:Int)<(n3:Int)):=by omega
 clear h
 go_enter Tryz.func54,Tryz.ntmps54
 go_upto_region 1 with fail
 obtain ⟨w0,hq,kz,b0⟩:=Es w [.slice a1 n1 m1,.slice a2 n2 m2,.slice a3 n3 m3,Iz (x 0).1,I (x 0).2.1,I (x 0).2.2,Iz (x 1).1,I (x 1).2.1,I (x 1).2.2,Iz (x 2).1,I (x 2).2.1,I (x 2).2.2,Iz (x 3).1,I (x 3).2.1,I (x 3).2.2,Iz (x 4).1,I (x 4).2.1,I (x 4).2.2,Iz (x 5).1,I (x 5).2.1,I (x 5).2.2,Iz (y 0).1,I (y 0).2.1,I (y 0).2.2,Iz (y 1).1,I (y 1).2.1,I (y 1).2.2,Iz (y 2).1,I (y 2).2.1,I (y 2).2.2,Iz (y 3).1,I (y 3).2.1,I (y 3).2.2,Iz (y 4).1,I (y 4).2.1,I (y 4).2.2,Iz (y 5).1,I (y 5).2.1,I (y 5).2.2] 46
 rw [← hq]
 clear hq
 have c0:w0.cell? ⟨w.heap.size,0,none⟩=some (.slice a1 n1 m1):=kz.cell 0
 have c1:w0.cell? ⟨w.heap.size,1,none⟩=some (.slice a2 n2 m2):=kz.cell 1
 have c2:w0.cell? ⟨w.heap.size,2,none⟩=some (.slice a3 n3 m3):=kz.cell 2
 clear kz
 generalize Value.agg _=V0
 rcases cut with g1 | ⟨g1,g2⟩ | ⟨g1,g2,g3⟩ <;>
 ·go_wp2
  go_ret
  exact ⟨rfl,b0⟩
theorem Zf (A1 A3:List (Q3 × Q3)) (a1 a2 a3:Option Addr) (n1 n2 n3 m1 m2 m3:Nat) (x y:Nat→Q3) (w:World) (e1:A1.length=n1) (e3:A3.length=n3)
  (r1:B9 w 6 (.slice a1 n1 m1) (A1.map cP)) (r3:B9 w 6 (.slice a3 n3 m3) (A3.map cP)) :
  Calls Tryz.prog 54 #[.agg #[.slice a1 n1 m1,.slice a2 n2 m2,.slice a3 n3 m3,Iz (x 0).1,I (x 0).2.1,I (x 0).2.2,Iz (x 1).1,I (x 1).2.1,I (x 1).2.2,Iz (x 2).1,I (x 2).2.1,I (x 2).2.2,Iz (x 3).1,I (x 3).2.1,I (x 3).2.2,Iz (x 4).1,I (x 4).2.1,I (x 4).2.2,Iz (x 5).1,I (x 5).2.1,I (x 5).2.2,Iz (y 0).1,I (y 0).2.1,I (y 0).2.2,Iz (y 1).1,I (y 1).2.1,I (y 1).2.2,Iz (y 2).1,I (y 2).2.1,I (y 2).2.2,Iz (y 3).1,I (y 3).2.1,I (y 3).2.2,Iz (y 4).1,I (y 4).2.1,I (y 4).2.2,Iz (y 5).1,I (y 5).2.1,I (y 5).2.2]] w (Re w (Iz (U6 n1 n2 n3 A1 A3 x y))):=by
 by_cases h:n1≤40∧n2≤60∧n3≤10
 ·exact Bdh A1 A3 a1 a2 a3 n1 n2 n3 m1 m2 m3 x y w e1 e3 h.1 h.2.1 h.2.2 r1 r3
 ·have e:U6 n1 n2 n3 A1 A3 x y=false:=by
   rw [← Bool.not_eq_true]
   intro hs
   exact h (U5 hs).1
  rw [e]
  exact Ze a1 a2 a3 n1 n2 n3 m1 m2 m3 x y w h
open Go.RowKit
theorem Xa {α:Type} (f:St→α × St):∀ (n:Nat) (s:St),(Kh f n s).1.length=n
 | 0,_=>rfl
 | n+1,s=>by rw [Kh,List.length_cons,Xa f n]
theorem Vj {α:Type} (f:St→α × St) (c:ByteArray) (m:Int) (s:St):(Ow f c m s).1.length≤100000:=by
 unfold Ow
 rw [Xa]
 have:=Bcp m (wd c s)
 omega
theorem l1 (P:ByteArray→Q3) (E:ByteArray→Int) (l:List ByteArray):(r1 P E l).1.length≤100000:=by
 rw [r1]
 exact Vj (pt P E) _ _ _
theorem l2 (P:ByteArray→Q3) (E:ByteArray→Int) (l:List ByteArray):(r2 P E l).1.length≤100000:=by
 rw [r2]
 exact Vj (sg _) _ _ _
theorem l3 (P:ByteArray→Q3) (E:ByteArray→Int) (l:List ByteArray):(r3 P E l).1.length≤100000:=by
 rw [r3]
 exact Vj (pt P E) _ _ _
open Go.RowKit
theorem Bav (N M:Int) (xN yN:Bool) (xS yS:ByteArray) (rN:Bool) (rS rD:ByteArray) (w:World)
  (H1:Hid (∀ w1,Below w.heap.size w w1→Calls Tryz.prog 58 #[.int .i64 N] w1 (Re w1 (.agg #[Iz xN,I xS]))))
  (H2:Hid (∀ w1,Below w.heap.size w w1→Calls Tryz.prog 58 #[.int .i64 M] w1 (Re w1 (.agg #[Iz yN,I yS]))))
  (H3:Hid (∀ w1,Below w.heap.size w w1→Calls Tryz.prog 57 #[.agg #[Iz xN,I xS],.agg #[Iz yN,I yS]] w1 (Re w1 ((D8 rN rS rD))))) :
  Calls Tryz.prog 29 #[.int .i64 N,.int .i64 M] w (Re w ((D8 rN rS rD))):=by
 go_enter Tryz.func29,Tryz.ntmps29
 go_wp2_with fail
 obtain ⟨w0,hw,kr,bb⟩:=Es w (D6 false eB eB) 26
 rw [← hw]
 clear hw
 go_fit (H1.out _ bb)
 rintro e w1 ⟨rfl,b1⟩
 replace kr:=kr.b b1
 replace bb:=Ia bb b1
 clear b1
 go_wp2_with fail
 go_fit (H2.out _ bb)
 rintro e w2 ⟨rfl,b1⟩
 replace kr:=kr.b b1
 replace bb:=Ia bb b1
 clear b1
 go_wp2_with fail
 go_fit (H3.out _ bb)
 rintro e w3 ⟨rfl,b1⟩
 replace kr:=kr.b b1
 replace bb:=Ia bb b1
 clear b1
 obtain ⟨e0,e1,e2⟩:=Hw kr
 have f0:=Bi.o kr 0
 have f1:=Bi.o kr 1
 have f2:=Bi.o kr 2
 go_wp2
 exact Ht (p:=4) (by kernel_rfl) rfl rfl (((kr.set 0 _).set 1 _).set 2 _) ⟨rfl,Cr (Cr (Cr bb (by omega) 0 _) (by omega) 1 _) (by omega) 2 _⟩
theorem Bel (w:World):Calls Tryz.prog 29 #[.int .i64 1,.int .i64 2] w (Re w (.agg #[Iz false,I ⟨#[1]⟩,I ⟨#[2]⟩])):=by
 have o:Yv false ⟨#[1]⟩ ⟨#[2]⟩:=(C6 (by decide +kernel)).1
 have od:Hc false ⟨#[2]⟩:=⟨o.2.1,fun h=>by cases h⟩
 refine Bav 1 2 false false ⟨#[1]⟩ ⟨#[2]⟩ _ _ _ w (fun w1 _=>?_) (fun w1 _=>?_) (fun w1 _=>?_)
 ·have:=U7 1 (by omega) (by omega) w1
  rwa [show zI 1=.agg #[Iz false,I ⟨#[1]⟩] by kernel_rfl] at this
 ·have:=U7 2 (by omega) (by omega) w1
  rwa [show zI 2=.agg #[Iz false,I ⟨#[2]⟩] by kernel_rfl] at this
 ·have:=Bb9 false false ⟨#[1]⟩ ⟨#[2]⟩ w1 o.1 od (by decide) (by decide) o.2.2.1
  rw [show Eg false ⟨#[2]⟩=((Bc ⟨#[2]⟩:Nat):Int) from E9 _,Rat.divInt_ofNat] at this
  rw [Xm o]
  exact this
open Go.RowKit
def Mj:List (ByteArray × Q3 × Int):=[(⟨#[49,47,50]⟩,(false,⟨#[1]⟩,⟨#[2]⟩),0),(⟨#[45,51]⟩,(true,⟨#[3]⟩,⟨#[1]⟩),0),(⟨#[48]⟩,(false,⟨#[]⟩,⟨#[1]⟩),0),(⟨#[49]⟩,(false,⟨#[1]⟩,⟨#[1]⟩),0),(⟨#[50]⟩,(false,⟨#[2]⟩,⟨#[1]⟩),0),(⟨#[51]⟩,(false,⟨#[3]⟩,⟨#[1]⟩),0),(⟨#[52]⟩,(false,⟨#[4]⟩,⟨#[1]⟩),0),(⟨#[53]⟩,(false,⟨#[5]⟩,⟨#[1]⟩),0),(⟨#[54]⟩,(false,⟨#[6]⟩,⟨#[1]⟩),0),(⟨#[63]⟩,zQ,4),(⟨#[]⟩,zQ,4)]
def Fr (t:ByteArray):List (ByteArray × Q3 × Int)→Option (Q3 × Int)
 | []=>none
 | (k,v) :: r=>if t=k then some v else Fr t r
def P8 (P:ByteArray→Q3) (t:ByteArray):Q3:=match Fr t Mj with | some v=>v.1 | none=>P t
def E8 (E:ByteArray→Int) (t:ByteArray):Int:=match Fr t Mj with | some v=>v.2 | none=>E t
def T8 (q:Q3):ByteArray:=if q=zQ then ⟨#[63]⟩ else if (Gc q.1 q.2.1 q.2.2).size≤1000 then Gc q.1 q.2.1 q.2.2 else eS
theorem Bc1 (q:Q3):(T8 q).size≤1000:=by
 unfold T8
 split
 ·decide
 ·split
  ·assumption
  ·decide
abbrev Bm5:ByteArray:=⟨#[112,115,108,103,32,118,32,49,32,49,47,50,32,45,51,32,115,32,49,32,48,32,48,32,100,32,104,32,48,32,102,32,48,32,48,32,48,32,48,32,48,32,48,32,103,32,49,32,50,32,51,32,52,32,53,32,54,32,101,110,100]⟩
abbrev Bmk:ByteArray:=⟨#[112,115,108,103,32,118,32,49,32,49,47,50,32,45,51,32,115,32,49,32,48,32,48,32,100,32,104,32,48,32,102,32,48,32,48,32,48,32,48,32,48,32,48,32,103,32,49,32,50,32,51,32,52,32,53,32,54,32,101,110,100,32,101,110,100]⟩
abbrev Bmg:ByteArray:=⟨#[112,115,108,103,10,118,32,49,10,49,47,50,32,45,51,10,115,32,49,10,48,32,48,32,100,10,104,32,48,10,102,32,48,32,48,32,48,32,48,32,48,32,48,10,103,32,49,32,50,32,51,32,52,32,53,32,54,10,101,110,100,10]⟩
def p8:Pl:=⟨[((false,⟨#[1]⟩,⟨#[2]⟩),(true,⟨#[3]⟩,⟨#[1]⟩))],[(0,0,true)],[],[(false,⟨#[]⟩,⟨#[1]⟩),(false,⟨#[]⟩,⟨#[1]⟩),(false,⟨#[]⟩,⟨#[1]⟩),(false,⟨#[]⟩,⟨#[1]⟩),(false,⟨#[]⟩,⟨#[1]⟩),(false,⟨#[]⟩,⟨#[1]⟩)],[(false,⟨#[1]⟩,⟨#[1]⟩),(false,⟨#[2]⟩,⟨#[1]⟩),(false,⟨#[3]⟩,⟨#[1]⟩),(false,⟨#[4]⟩,⟨#[1]⟩),(false,⟨#[5]⟩,⟨#[1]⟩),(false,⟨#[6]⟩,⟨#[1]⟩)]⟩
theorem Bjo (P:ByteArray→Q3) (E:ByteArray→Int):Fi (P8 P) (E8 E) Bm5=(p8,0):=by kernel_rfl
theorem Bjn (P:ByteArray→Q3) (E:ByteArray→Int):Fi (P8 P) (E8 E) Bmk=(Ys,4):=by kernel_rfl
theorem Bbf:Wi T8 p8=Bmg:=by kernel_rfl
theorem Bb0 (P:ByteArray→Q3) (E:ByteArray→Int):Fi (P8 P) (E8 E) Bmg=(p8,0):=by kernel_rfl
theorem Bb1 (P:ByteArray→Q3) (E:ByteArray→Int):Fi (P8 P) (E8 E) (Wi T8 Ys)=(Ys,4):=by kernel_rfl
theorem Bj7 (t:ByteArray) (v:Q3 × Int) (h:Fr t Mj=some v) (w:World) (hT:G9 w):Calls Tryz.prog 184 #[I t] w (Re w (.tuple #[vQ v.1,.int .i64 v.2])):=by
 by_cases h0:t=⟨#[49,47,50]⟩
 ·subst h0
  have hv:Fr ⟨#[49,47,50]⟩ Mj=some ((false,⟨#[1]⟩,⟨#[2]⟩),0):=by kernel_rfl
  rw [hv] at h
  injection h with h
  subst h
  exact Xl w hT (C6 (by decide +kernel)).1
 by_cases h255:t=⟨#[45,51]⟩
 ·subst h255
  have hv:Fr ⟨#[45,51]⟩ Mj=some ((true,⟨#[3]⟩,⟨#[1]⟩),0):=by kernel_rfl
  rw [hv] at h
  injection h with h
  subst h
  exact Fa _ _ _ w hT (C6 (by decide +kernel)).1 (by decide) (by kernel_rfl) (by decide +kernel)
 by_cases h557:t=⟨#[48]⟩
 ·subst h557
  have hv:Fr ⟨#[48]⟩ Mj=some ((false,⟨#[]⟩,⟨#[1]⟩),0):=by kernel_rfl
  rw [hv] at h
  injection h with h
  subst h
  exact Fa _ _ _ w hT (C6 (by decide +kernel)).1 (by decide) (by kernel_rfl) (by decide +kernel)
 by_cases h851:t=⟨#[49]⟩
 ·subst h851
  have hv:Fr ⟨#[49]⟩ Mj=some ((false,⟨#[1]⟩,⟨#[1]⟩),0):=by kernel_rfl
  rw [hv] at h
  injection h with h
  subst h
  exact Fa _ _ _ w hT (C6 (by decide +kernel)).1 (by decide) (by kernel_rfl) (by decide +kernel)
 by_cases h1146:t=⟨#[50]⟩
 ·subst h1146
  have hv:Fr ⟨#[50]⟩ Mj=some ((false,⟨#[2]⟩,⟨#[1]⟩),0):=by kernel_rfl
  rw [hv] at h
  injection h with h
  subst h
  exact Fa _ _ _ w hT (C6 (by decide +kernel)).1 (by decide) (by kernel_rfl) (by decide +kernel)
 by_cases h1443:t=⟨#[51]⟩
 ·subst h1443
  have hv:Fr ⟨#[51]⟩ Mj=some ((false,⟨#[3]⟩,⟨#[1]⟩),0):=by kernel_rfl
  rw [hv] at h
  injection h with h
  subst h
  exact Fa _ _ _ w hT (C6 (by decide +kernel)).1 (by decide) (by kernel_rfl) (by decide +kernel)
 by_cases h1740:t=⟨#[52]⟩
 ·subst h1740
  have hv:Fr ⟨#[52]⟩ Mj=some ((false,⟨#[4]⟩,⟨#[1]⟩),0):=by kernel_rfl
  rw [hv] at h
  injection h with h
  subst h
  exact Fa _ _ _ w hT (C6 (by decide +kernel)).1 (by decide) (by kernel_rfl) (by decide +kernel)
 by_cases h2037:t=⟨#[53]⟩
 ·subst h2037
  have hv:Fr ⟨#[53]⟩ Mj=some ((false,⟨#[5]⟩,⟨#[1]⟩),0):=by kernel_rfl
  rw [hv] at h
  injection h with h
  subst h
  exact Fa _ _ _ w hT (C6 (by decide +kernel)).1 (by decide) (by kernel_rfl) (by decide +kernel)
 by_cases h2334:t=⟨#[54]⟩
 ·subst h2334
  have hv:Fr ⟨#[54]⟩ Mj=some ((false,⟨#[6]⟩,⟨#[1]⟩),0):=by kernel_rfl
  rw [hv] at h
  injection h with h
  subst h
  exact Fa _ _ _ w hT (C6 (by decide +kernel)).1 (by decide) (by kernel_rfl) (by decide +kernel)
 by_cases h2631:t=⟨#[63]⟩
 ·subst h2631
  have hv:Fr ⟨#[63]⟩ Mj=some (zQ,4):=by kernel_rfl
  rw [hv] at h
  injection h with h
  subst h
  exact Bdw w
 by_cases h2816:t=⟨#[]⟩
 ·subst h2816
  have hv:Fr ⟨#[]⟩ Mj=some (zQ,4):=by kernel_rfl
  rw [hv] at h
  injection h with h
  subst h
  exact Z9 w
 exact absurd h (by unfold Mj Fr Fr Fr Fr Fr Fr Fr Fr Fr Fr Fr Fr;rw [if_neg h0,if_neg h255,if_neg h557,if_neg h851,if_neg h1146,if_neg h1443,if_neg h1740,if_neg h2037,if_neg h2334,if_neg h2631,if_neg h2816];intro h;cases h)
theorem Bng:∃ (P:ByteArray→Q3) (E:ByteArray→Int),PR (P8 P) (E8 E):=by
 have hq:∀ t:ByteArray,∃ (q:Q3) (e:Int),t.size≤100000→∀ w,G9 w→Calls Tryz.prog 184 #[I t] w fun e' w'=>e'=.returned (.tuple #[vQ q,.int .i64 e])∧Below w.heap.size w w':=fun t=>by
  by_cases hz:t.size≤100000
  ·obtain ⟨rN,rS,rD,E,h1,-⟩:=Bgj t (by omega)
   exact ⟨(rN,rS,rD),E,fun _=>h1⟩
  ·exact ⟨zQ,0,fun h=>absurd h hz⟩
 refine ⟨fun t=>Classical.choose (hq t),fun t=>Classical.choose (Classical.choose_spec (hq t)),fun t w hz hT=>?_⟩
 cases h:Fr t Mj with
 | some v =>
  have:=Bj7 t v h w hT
  unfold P8 E8
  rw [h]
  exact this
 | none =>
  unfold P8 E8
  rw [h]
  exact Classical.choose_spec (Classical.choose_spec (hq t)) hz w hT
open Go.RowKit Go.Shelf
theorem Ber {V:Nat} (h0:0<V) (h:V<10 ^ 60):Lp (dt V):=by
 obtain ⟨a,b⟩:=Oc (V+1) V (by omega) h0
 refine ⟨a,?_,fun e=>absurd e b,fun j hj=>Vu V j hj⟩
 unfold dt
 rw [List.length_reverse,List.length_map]
 exact M.digs_len_of_lt (k:=60) (by omega) h
theorem Vc (n0:Bool) (s:ByteArray) (w:World) (o:Hc n0 s) (z:Bc s<10 ^ 60) (T:List Nat) (hT:T=dt (Bc s)) :
  Calls Tryz.prog 216 #[I (if T=[] then ⟨#[48]⟩ else if n0 then Cs (45 :: T) else Cs T)] w (Re w (.tuple #[.agg #[Iz n0,I s],.int .i64 0])):=by
 have hz:Value.agg #[Iz n0,I s]=zI (Fk n0 (Bc s)):=Bbc o
 rw [hz]
 have hlt:=z
 by_cases h0:Bc s=0
 ·have ht:T=[]:=by rw [hT,h0,Bay]
  have hs:¬ 0<s.size:=fun h=>by have:=Dw o.1 h;omega
  have hn:n0=false:=by
   cases n0 with
   | false=>rfl
   | true=>exact absurd (o.2 rfl) hs
  rw [if_pos ht,h0,hn]
  exact Gr ⟨#[48]⟩ w (by decide) (by
   refine ⟨by decide,by decide,fun _=>by decide,fun j hj=>?_⟩
   have:j=0:=by have:j<1:=hj;omega
   subst this
   decide)
 ·have hp:0<Bc s:=by omega
  have ns:=Ber hp hlt
  have hne:T≠[]:=by
   intro e
   have:=ns.1
   rw [← hT,e] at this
   simp at this
  rw [if_neg hne]
  subst hT
  cases n0 with
  | false =>
   rw [if_neg (by simp)]
   have:=Gr (Cs (dt (Bc s))) w (by
    rw [F9]
    intro h
    have:=(Vu (Bc s) 0 ns.1).1
    omega) (by rw [F9];exact ns)
   rw [F9,Cl,Sd _ _ (Nat.lt_succ_self _)] at this
   exact this
  | true =>
   rw [if_pos rfl]
   have:=L7 (Cs (45 :: dt (Bc s))) w (by
    rw [Ln,Cl]
    exact ⟨by simp,rfl⟩) (by
    intro e
    have e2:=congrArg Bj e
    rw [Ln] at e2
    have e3:dt (Bc s)=[48]:=(List.cons.inj e2).2
    have:=(Oc _ _ (Nat.lt_succ_self _) hp).2
    rw [e3] at this
    exact this rfl) (by rw [Qf,F9];exact ns)
   rw [Qf,F9,Cl,Sd _ _ (Nat.lt_succ_self _)] at this
   exact this
theorem Ny (n:Bool) (s:ByteArray) (w:World) (o:Hc n s) (z:Bc s<10 ^ 60) :
  Calls Tryz.prog 216 #[I (Dh n s)] w (Re w (.tuple #[.agg #[Iz n,I s],.int .i64 0])):=Vc n s w o z _ rfl
theorem Yl {b:List Nat} (h:Lp b):Ce b b.length<10 ^ 60 :=
 Jl (G7 (b:=b) b.length (fun j hj=>(h.2.2.2 j hj).2)) (Nat.pow_le_pow_right (by omega) h.2.1)
theorem Tp (n:Bool) (V:Nat):(Fk n V).natAbs=V:=by cases n <;> simp [Fk]
theorem Lh (s:ByteArray):∃ n E:Int,(E=0∨E=4)∧Bd n 32∧(n.natAbs<10 ^ 60) ∧
  ∀ w,Calls Tryz.prog 216 #[I s] w (Re w (.tuple #[zI n,.int .i64 E])):=by
 have k0:(0:Int).natAbs<10 ^ 60:=by decide
 by_cases hn:0<s.size∧lm (Bj s) 0=45
 ·by_cases h0:s=⟨#[45,48]⟩
  ·subst h0
   exact ⟨0,4,Or.inr rfl,Bd.zero _,k0,fun w=>Xt w⟩
  ·by_cases h:Lp (Bj (s.extract 1 s.size))
   ·have hb:=Me h
    have hc:=Yl h
    rw [Bt] at hb hc
    exact ⟨_,0,Or.inl rfl,V7 hb,by rw [Tp];exact hc,fun w=>L7 s w hn h0 h⟩
   ·exact ⟨0,4,Or.inr rfl,Bd.zero _,k0,fun w=>Nz s w hn h0 h⟩
 ·by_cases h:Lp (Bj s)
  ·have hb:=Me h
   have hc:=Yl h
   rw [Bt] at hb hc
   exact ⟨_,0,Or.inl rfl,V7 hb,by rw [Tp];exact hc,fun w=>Gr s w hn h⟩
  ·exact ⟨0,4,Or.inr rfl,Bd.zero _,k0,fun w=>Gm s w hn h⟩
structure Gq (n:Bool) (s d:ByteArray):Prop where
 ok:Yv n s d
 ls:Bc s<10 ^ 60
 ld:Bc d<10 ^ 60
 zs:s.size≤32
 zd:d.size≤32
theorem Bon (n:Int) (d:Nat) (hd:0<d):(Rat.divInt n (d:Int)).num.natAbs≤n.natAbs∧(Rat.divInt n (d:Int)).den≤d:=by
 rw [Rat.divInt_ofNat]
 have hz:d≠0:=by omega
 obtain ⟨m,hm0,h1,h2⟩:=Rat.mkRat_num_den hz (show mkRat n d=⟨(mkRat n d).num,(mkRat n d).den,(mkRat n d).den_nz,(mkRat n d).reduced⟩ from rfl)
 have hm:1≤m:=by omega
 constructor
 ·calc (mkRat n d).num.natAbs=(mkRat n d).num.natAbs*1:=(Nat.mul_one _).symm
   _≤(mkRat n d).num.natAbs*m:=Nat.mul_le_mul_left _ hm
   _=n.natAbs:=by conv=>rhs;rw [h1,Int.natAbs_mul];simp
 ·calc (mkRat n d).den=(mkRat n d).den*1:=(Nat.mul_one _).symm
   _≤(mkRat n d).den*m:=Nat.mul_le_mul_left _ hm
   _=d:=h2.symm
theorem Bgi (s:ByteArray) (hz:s.size≤9223372036854775807):∃ (rN:Bool) (rS rD:ByteArray) (E:Int),(E=0→Gq rN rS rD) ∧
  ∀ w,G9 w→Calls Tryz.prog 184 #[I s] w (Re w (.tuple #[(D8 rN rS rD),.int .i64 E])):=by
 obtain ⟨nf,sf,hf,hok,hsz,hzz,hnat,hneg,hstr,hnn,hfn⟩:=Rx
 rcases Bbg s with ⟨h1,hA⟩ | ⟨K,hK,h1,hk,hB⟩
 ·obtain ⟨n,E,hE,bn,ln,P1⟩:=Lh s
  simp only [hf] at P1
  have zn:(sf n).size≤32:=hsz _ _ bn
  rcases hE with rfl | rfl
  ·refine ⟨nf n,sf n,⟨#[1]⟩,0,fun _=>⟨⟨hok n,Gy.1,by rw [Ch];omega,by rw [Ch,Nat.gcd_one_right]⟩,by rw [hnat];exact ln,by rw [Ch];decide,zn,by decide⟩,fun w hT=>?_⟩
   refine Km (nf n) (nf n) s s ⟨#[]⟩ (sf n) ⟨#[1]⟩ (sf n) ⟨#[1]⟩ (isE (by rw [Ch];omega)) w (fun w1 b=>Eh s w1 h1) P1 (fun w1=>?_) (fun w1 b=>?_)
   ·have:=Ey false ⟨#[1]⟩ w1 Gy (by decide)
    rwa [Nw] at this
   ·have:=Hk (nf n) false (sf n) ⟨#[1]⟩ w1 (hT.b b) (hok n) Gy (K:=32) (by omega) zn (by decide) (by rw [Ch];omega)
    have e1:Eg false ⟨#[1]⟩=1:=by rw [E9,Ch];rfl
    have e2:Rat.divInt n 1=(n:Rat):=by
     rw [show (1:Int)=((1:Nat):Int) from rfl,Rat.divInt_ofNat]
     exact Rat.ext (Q.mk_low (by omega) (by simp)).1 (Q.mk_low (by omega) (by simp)).2
    rw [hzz,e1,e2,Va n (hf n)] at this
    exact this
  ·exact ⟨false,{ data:=#[] },{ data:=#[] },4,(fun h=>by cases h),fun w hT=>Gk (nf n) s s ⟨#[]⟩ (sf n) 4 (by omega) w (fun w1 b=>Eh s w1 h1) P1⟩
 ·obtain ⟨n,E1,hE1,bn,ln,P1⟩:=Lh (s.extract 0 K)
  obtain ⟨d,E2,hE2,bd,ld,R1⟩:=Lh (s.extract (K+1) s.size)
  simp only [hf] at P1 R1
  have zn:(sf n).size≤32:=hsz _ _ bn
  have zd:(sf d).size≤32:=hsz _ _ bd
  have HC:=fun (w1:World)=>Lu s K w1 h1 (by omega) hz
  rcases hE1 with rfl | rfl
  ·rcases hE2 with rfl | rfl
   ·cases hd:nf d with
    | true =>
     rw [hd] at R1
     exact ⟨false,{ data:=#[] },{ data:=#[] },4,(fun h=>by cases h),fun w hT=>Nu (nf n) s _ _ (sf n) (sf d) w (fun w1 b=>HC w1) P1 R1⟩
    | false =>
     rw [hd] at R1
     have okd:=hok d
     rw [hd] at okd
     by_cases h0:0<Bc (sf d)
     ·have e1:Eg false (sf d)=((Bc (sf d):Nat):Int):=rfl
      have hl:=Bon n (Bc (sf d)) h0
      have bq:Bq (Rat.divInt n ((Bc (sf d):Nat):Int)) 32:=⟨Nat.lt_of_le_of_lt hl.1 bn,by
       have h2:Bc (sf d)<256 ^ 32:=by rw [hnat];exact bd
       exact Nat.lt_of_le_of_lt hl.2 h2⟩
      have hm:=fun (w1:World) (hT:G9 w1)=>Hk (nf n) false (sf n) (sf d) w1 hT (hok n) okd (K:=32) (by omega) zn zd h0
      rw [hzz,e1] at hm
      generalize Rat.divInt n ((Bc (sf d):Nat):Int)=q at *
      refine ⟨decide (q.num<0),Bw q.num.natAbs,Bw q.den,0,fun _=>⟨Bgw q,?_,?_,bq.1.size,by have:=bq.2.size;simpa using this⟩,fun w hT=>Kn (nf n) _ s _ _ (sf n) (sf d) _ _ (isE h0) w (fun w1 b=>HC w1) P1 R1 (fun w1 b=>hm w1 (hT.b b))⟩
      ·rw [Cx];exact Nat.lt_of_le_of_lt hl.1 ln
      ·rw [Cx];rw [hnat] at hl;exact Nat.lt_of_le_of_lt hl.2 ld
     ·have e0:sf d={ data:=#[] }:=by
       by_cases hs:0<(sf d).size
       ·have:=Dw okd.1 hs
        omega
       ·exact ByteArray.size_eq_zero_iff.1 (by omega)
      rw [e0] at R1
      exact ⟨false,{ data:=#[] },{ data:=#[] },4,(fun h=>by cases h),fun w hT=>Nt (nf n) s _ _ (sf n) w (fun w1 b=>HC w1) P1 R1⟩
   ·exact ⟨false,{ data:=#[] },{ data:=#[] },4,(fun h=>by cases h),fun w hT=>Nv (nf n) s _ _ (sf n) (nf d) (sf d) 4 (by omega) w (fun w1 b=>HC w1) P1 R1⟩
  ·exact ⟨false,{ data:=#[] },{ data:=#[] },4,(fun h=>by cases h),fun w hT=>Ns (nf n) s _ _ (sf n) 4 (by omega) w (fun w1 b=>HC w1) P1⟩
theorem Bar {t:ByteArray} (h:∀ x∈t.data.toList,x≠47):Lib.index t.data.toList [47]=-1:=Yb 47 _ h
theorem Bej {t u:ByteArray} (h:∀ x∈t.data.toList,x≠47):Lib.index ((t ++ ⟨#[47]⟩) ++ u).data.toList [47]=((t.size:Nat):Int)∧((t ++ ⟨#[47]⟩) ++ u).extract 0 t.size=t∧((t ++ ⟨#[47]⟩) ++ u).extract (t.size+1) ((t ++ ⟨#[47]⟩) ++ u).size=u:=by
 have hl:t.data.toList.length=t.size:=Array.length_toList
 have e:((t ++ ⟨#[47]⟩) ++ u).data.toList=t.data.toList ++ 47 :: u.data.toList:=by simp
 have hs:((t ++ ⟨#[47]⟩) ++ u).size=t.size+1+u.size:=by rw [Cd,Cd];rfl
 refine ⟨by rw [e,Bcg 47 _ _ h,hl],?_,?_⟩
 ·apply ByteArray.ext
  rw [ByteArray.data_extract]
  apply Array.toList_inj.1
  rw [Array.toList_extract,List.extract_eq_take_drop,e,List.drop_zero,Nat.sub_zero,← hl,List.take_left' rfl]
 ·apply ByteArray.ext
  rw [ByteArray.data_extract]
  apply Array.toList_inj.1
  rw [Array.toList_extract,List.extract_eq_take_drop,e,hs,← hl,← List.drop_drop,List.drop_left' rfl]
  show List.take _ u.data.toList=_
  exact List.take_of_length_le (by have:u.data.toList.length=u.size:=Array.length_toList;omega)
theorem Bjl (n:Bool) (s d:ByteArray) (w:World) (hT:G9 w) (g:Gq n s d) :
  Calls Tryz.prog 184 #[I (Gc n s d)] w (Re w (.tuple #[(D8 n s d),.int .i64 0])):=by
 obtain ⟨o,ls,ld,zs,zd⟩:=g
 have HN:=fun w1=>Ny n s w1 o.1 ls
 have hz:=Jf (Fb n s (by omega)) (by omega:1201≤100000)
 unfold Gc
 by_cases h1:Bc d=1
 ·rw [if_pos h1]
  have ed:d=⟨#[1]⟩:=(L8 o.2.1).2 h1
  subst ed
  refine Km n n _ _ ⟨#[]⟩ s ⟨#[1]⟩ s ⟨#[1]⟩ (isE (by rw [Ch];omega)) w (fun w1 b=>Eh _ w1 (Bar (Bbz n s))) HN (fun w1=>?_) (fun w1 b=>?_)
  ·have:=Ey false ⟨#[1]⟩ w1 Gy (by decide)
   rwa [Nw] at this
  ·have:=Hk n false s ⟨#[1]⟩ w1 (hT.b b) o.1 Gy (K:=32) (by omega) zs (by decide) (by rw [Ch];omega)
   rw [E9,Rat.divInt_ofNat] at this
   rw [Xm o]
   exact this
 ·rw [if_neg h1]
  have od:Hc false d:=⟨o.2.1,fun h=>by cases h⟩
  have hzd:=Jf (Fb false d (by omega)) (by omega:1201≤100000)
  obtain ⟨c1,c2,c3⟩:=Bej (t:=Dh n s) (u:=Dh false d) (Bbz n s)
  refine Kn n n _ (Dh n s) (Dh false d) s d s d (isE o.2.2.1) w (fun w1 b=>?_) HN (fun w1=>Ny false d w1 od ld) (fun w1 b=>?_)
  ·have hs:((Dh n s ++ ⟨#[47]⟩) ++ Dh false d).size=(Dh n s).size+1+(Dh false d).size:=by rw [Cd,Cd];rfl
   have:=Lu ((Dh n s ++ ⟨#[47]⟩) ++ Dh false d) (Dh n s).size w1 c1 (by omega) (by omega)
   rw [c2,c3] at this
   exact this
  ·have:=Hk n false s d w1 (hT.b b) o.1 od (K:=32) (by omega) zs zd o.2.2.1
   rw [E9,Rat.divInt_ofNat] at this
   rw [Xm o]
   exact this
open Go.RowKit Go.Shelf
abbrev t0:ByteArray:=⟨#[48]⟩
abbrev t1:ByteArray:=⟨#[49]⟩
def gz (c:ByteArray):Nat→ByteArray→ByteArray
 | 0,s=>s
 | n+1,s=>gz c n s ++ c
def gy (t:ByteArray):Nat→ByteArray→ByteArray
 | 0,s=>s
 | n+1,s=>((gy t n s ++ ⟨#[32,48,32]⟩) ++ t) ++ ⟨#[32,110]⟩
def ga (n:Nat):ByteArray:=⟨#[112,115,108,103,32,118,32]⟩ ++ dg n
def gb (s:ByteArray) (n:Nat):ByteArray:=(s ++ ⟨#[32,115,32]⟩) ++ dg n
def gh (s:ByteArray) (n:Nat):ByteArray:=(s ++ ⟨#[32,104,32]⟩) ++ dg n
abbrev Bpe:ByteArray:=⟨#[32,102,32,48,32,48,32,48,32,48,32,48,32,48,32,103,32,48,32,48,32,48,32,48,32,48,32,48,32,101,110,100]⟩
abbrev c00:ByteArray:=⟨#[32,48,32,48]⟩
abbrev c11:ByteArray:=⟨#[32,49,32,49]⟩
def g1 (a:Nat):ByteArray:=gz c00 a (ga a)
def g2 (a b:Nat):ByteArray:=gy (dg (a - 1)) b (gb (g1 a) b)
def g3 (a b c:Nat):ByteArray:=gz c11 c (gh (g2 a b) c)
theorem Of (n:Nat) (h:n<100):(dg n).size≤2:=(Mt n h).2.2
theorem Zv (zN:Bool) (zS:ByteArray) (n:Int) (w:World)
  (H1:Hid (∀ w1,Calls Tryz.prog 58 #[.int .i64 n] w1 (Re w1 (.agg #[Iz zN,I zS])))) :
  Calls Tryz.prog 40 #[.int .i64 n] w (Re w ((D8 zN zS ⟨#[1]⟩))):=by
 go_enter Tryz.func40,Tryz.ntmps40
 go_wp2_with fail
 go_fit (H1.out _)
 rintro e w1 ⟨rfl,b1⟩
 obtain ⟨kr,b1⟩:=Hv b1
 have sz:=b1.size
 have bb:=b1
 clear b1
 have tr:=kr.lt
 have cr_0:=Cw kr
 have fr_1:=Bi.o kr 0
 have cr_2:=Cv kr
 have fr_3:=Bi.o kr 1
 have cr_4:=Cu kr
 have fr_5:=Bi.o kr 2
 go_wp2
 exact Ht (p:=2) (by kernel_rfl) rfl rfl (((kr.set 0 _).set 1 _).set 2 _) ⟨rfl,Cr (Cr (Cr bb (by omega) 0 _) (by omega) 1 _) (by omega) 2 _⟩
theorem Bdo (z:Int) (h1:-9223372036854775808≤z) (h2:z<9223372036854775808) (w:World) :
  Calls Tryz.prog 40 #[.int .i64 z] w (Re w (qI (z:Rat))):=by
 obtain ⟨nf,sf,hf,-⟩:=Rx
 rw [Va z (hf z)]
 exact Zv _ _ z w (fun w1=>by have:=U7 z h1 h2 w1;rwa [hf] at this)
theorem Bgy:∀ n,n<100→(if dt n=[] then ⟨#[48]⟩ else Cs (dt n))=dg n:=by decide +kernel
end Go.Proofs.YtnplifkgeeicjaaGreatDoor
