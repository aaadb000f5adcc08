import Derived.ChangeOld
import Derived.Deep.Slices
import Derived.LaidMore
import Derived.Lay
import Derived.Lib.LaidTab
import Derived.Lib.SmallJoins
import Derived.OpenShut
import Derived.ProofKit
import Derived.SevenTiedAt
import Derived.Stop.Joined
import Derived.Test.YtnplifkgeeicjaaGreatDoorCards
import Derived.Test.YtnplifkgeeicjaaGreatDoorTie
import Derived.Test.YtnplifkgeeicjaaGreatDoorQ45
set_option maxRecDepth 100000
namespace Go.Proofs.YtnplifkgeeicjaaGreatDoor
open Go.ChangeShapes Go.WideShapes Go.ChangeAt Go.RowKit
theorem own : ownKnob Tryz.prog.godebug = none:=by kernel_rfl
theorem Ww : laidOutB Tryz.prog = true:=by kernel_rfl
theorem Bca : Tryz.prog.cellsOf 24 = 2:=by kernel_rfl
theorem Vf : Tryz.prog.cellsOf 26 = 3:=by kernel_rfl
theorem Bcb : Tryz.prog.cellsOf 30 = 6:=by kernel_rfl
theorem Bce : Tryz.prog.cellsOf 4 = 1:=by kernel_rfl
theorem Bcc : Tryz.prog.cellsOf 22 = 1:=by kernel_rfl
theorem Bgy : Tryz.prog.cellsOf 5 = 1:=by kernel_rfl
theorem Beu : Tryz.prog.cellsOf 328 = 64:=by kernel_rfl
def Z9 : List Int:=Lib.deBruijn64tab.map fun (n : Nat)=>(n : Int)
theorem Bh7 : (Rows.laid_math_bits_deBruijn64tab : DataW Unit) = Lib.tabData .u8 Z9:=by kernel_rfl
open Go.ChangeShapes Go.WideShapes Go.RowKit Go.Deep
theorem Bdz {H : Type} {enc : TypeId × Value→H} {W : World} {base : Nat} {sp : Nat→Bool} {held : Bool} {n : Nat} {cs : List Value} {x : DataW H × List MemPlace} (h : DataW.trod enc Tryz.prog W base sp held n 30 cs = some x) : ∃ n0 s0 d0 n1 s1 d1,cs = (Cn n0 s0 d0 n1 s1 d1):=by
 obtain ⟨x0,x1,m,hx,hl,hx0,hx1⟩:=trod_struct2 Tryz.underlying30 h
 obtain ⟨y0,y1,m',hy,hl',hy0,hy1⟩:=trod_struct2 Tryz.underlying26 hx0
 obtain ⟨u0,u1,m'',hu,hl'',hu0,hu1⟩:=trod_struct2 Tryz.underlying26 hx1
 obtain ⟨z0,z1,m3,hz,hl3,hz0,hz1⟩:=trod_struct2 Tryz.underlying24 hy0
 obtain ⟨t0,t1,m4,ht,hl4,ht0,ht1⟩:=trod_struct2 Tryz.underlying24 hu0
 rw [Bcb] at hl
 match cs,hl with
 | [c0,c1,c2,c3,c4,c5],_ =>
  obtain ⟨n0,e0,-⟩:=DataW.trod_bool Tryz.underlying4 hz0
  obtain ⟨s0,e1,-⟩:=DataW.trod_string Tryz.underlying22 hz1
  obtain ⟨d0,e2,-⟩:=DataW.trod_string Tryz.underlying22 hy1
  obtain ⟨n1,e3,-⟩:=DataW.trod_bool Tryz.underlying4 ht0
  obtain ⟨s1,e4,-⟩:=DataW.trod_string Tryz.underlying22 ht1
  obtain ⟨d1,e5,-⟩:=DataW.trod_string Tryz.underlying22 hu1
  rw [Bce] at e0 e3
  rw [Bcc] at e1 e2 e4 e5
  rw [Bca] at e0 e1 e3 e4
  rw [Vf] at e0 e1 e2 e3 e4 e5
  simp at e0 e1 e2 e3 e4 e5
  subst e0 e1 e2 e3 e4 e5
  exact ⟨n0,s0,d0,n1,s1,d1,rfl⟩
open Go.ChangeShapes Go.WideShapes Go.RowKit Go.Deep
def Ga : List (String × DataW Unit):=[("math/bits.deBruijn64tab",Rows.laid_math_bits_deBruijn64tab),("unicode/utf8.acceptRanges",Rows.laid_unicode_utf8_acceptRanges),("gusset/poly.nodes",Rows.laid_gusset_poly_nodes),("gusset/poly.integralWeights",Rows.laid_gusset_poly_integralWeights),("gusset/poly.loadWeights",Rows.laid_gusset_poly_loadWeights),("gusset/poly.squareWeights",Rows.laid_gusset_poly_squareWeights),("unicode/utf8.first",Rows.laid_unicode_utf8_first)]
theorem Cl {P : Program} {w : World} {n : String} {d : DataW Unit} {r : List (String × DataW Unit)} {ps : List MemPlace} (h : DataW.LaidVars P w ((n,d) :: r) ps) :
  ∃ g t cs fuel p q,P.globalNamed n = some g∧(P.globals[g]?).map (·.type) = some t∧w.var? P n = some cs∧DataW.trod (fun _=>()) P w 0 (fun _=>true) false fuel t cs.toList = some (d,p)∧DataW.LaidVars P w r q:=by
 unfold DataW.LaidVars at h
 obtain ⟨g,t,cs,fuel,p,q,h1,h2,h3,h4,h5,-⟩:=h
 exact ⟨g,t,cs,fuel,p,q,h1,h2,h3,h4,h5⟩
theorem P6 {W : World} (h : laidMetH Tryz.prog Ga W) : Fi W:=by
 rw [MakeChecks.laidMetH_plain _ _ _ (by kernel_rfl)] at h
 unfold laidMet Ga at h
 obtain ⟨ps,h,-⟩:=h
 obtain ⟨g1,t1,cs1,f1,p1,q1,hg1,ht1,hv1,hd1,-⟩:=Cl h
 clear h
 obtain rfl:=Option.some.inj ((show Tryz.prog.globalNamed "math/bits.deBruijn64tab" = some 14 by kernel_rfl).symm.trans hg1)
 obtain rfl:=Option.some.inj ((show (Tryz.prog.globals[14]?).map (·.type) = some 328 by kernel_rfl).symm.trans ht1)
 have hT : Lib.TabIs Tryz.prog W "math/bits.deBruijn64tab" .u8 Z9:=by
  unfold Lib.TabIs
  rw [hv1,← Lib.cells_of_tab Tryz.underlying328 Tryz.underlying5 Bgy Beu (by rw [← Bh7]; exact hd1)]
 intro j hj
 have:=hT.cell (show Tryz.prog.globalNamed "math/bits.deBruijn64tab" = some 14 by kernel_rfl) j (by unfold Z9; simpa using hj)
 rw [show Z9.getD j 0 = ((Lib.deBruijn64tab.getD j 0 : Nat) : Int) from by unfold Z9; simp [hj]] at this
 exact this
theorem Bgx {n m : Nat} : ∀ {L : List Value} {R : Nat→List Value},L.length = n * m→(∀ i,i < n→(L.drop (i * m)).take m = R i)→L = (List.range n).flatMap R:=by
 induction n with
 | zero =>
  intro L R hl _
  rw [Nat.zero_mul] at hl
  rw [List.length_eq_zero_iff.1 hl]
  rfl
 | succ n ih =>
  intro L R hl h
  have h0:=h 0 (by omega)
  rw [Nat.zero_mul,List.drop_zero] at h0
  have h1:=ih (L:=L.drop m) (R:=fun i=>R (i + 1)) (by rw [List.length_drop,hl,Nat.succ_mul]; omega) (fun i hi=>by
   rw [List.drop_drop,← h (i + 1) (by omega),Nat.succ_mul,Nat.add_comm m])
  rw [List.range_succ_eq_map,List.flatMap_cons,List.flatMap_map,← h0]
  conv=>lhs; rw [← List.take_append_drop m L,h1]
theorem Le {P : Program} {W : World} {n : String} {g : Nat} {cs : Array Value} (hg : P.globalNamed n = some g) (hv : W.var? P n = some cs) : ∃ tg fr,W.heap[g]? = some (.cells cs tg fr):=by
 unfold World.var? at hv
 rw [hg] at hv
 simp only [Option.bind_some] at hv
 split at hv
 ·rename_i c t f hh
  injection hv with hv
  subst hv
  exact ⟨t,f,hh⟩
 ·cases hv
theorem Bfv {W : World} {base : Nat} {sp : Nat→Bool} {held : Bool} {fuel n m : Nat} {t e i : TypeId} {L : List Value} {p : List MemPlace} (rows : List (List Int)) (ht : Tryz.prog.underlying t = some (.array n e)) (he : Tryz.prog.underlying e = some (.array m i)) (hi : Tryz.prog.underlying i = some (.int .i64)) (hci : Tryz.prog.cellsOf i = 1) (hce : Tryz.prog.cellsOf e = m) (hct : Tryz.prog.cellsOf t = n * m)
  (h : DataW.trod (fun _=>()) Tryz.prog W base sp held fuel t L = some (.agg (rows.map fun z=>Lib.tabData .i64 z),p)) : L = (List.range n).flatMap fun k=>(rows.getD k []).map fun z=>Value.int .i64 z:=by
 obtain ⟨xs,k,rfl,hx,hl,hn,hq⟩:=DataW.trod_array ht h
 simp only [Prod.mk.injEq,DataW.agg.injEq] at hx
 obtain ⟨hx1,-⟩:=hx
 rw [hct] at hl
 refine Bgx hl (fun j hj=>?_)
 have h1:=hq j hj
 rw [hce] at h1
 have hjl : j < xs.length:=by omega
 rw [List.getElem?_eq_getElem hjl] at h1
 have h2 : (xs[j]).1 = Lib.tabData .i64 (rows.getD j []):=by
  have hlen : rows.length = n:=by have:=congrArg List.length hx1; simpa [hn] using this
  have:=congrArg (fun l=>l[j]?) hx1
  simp only [List.getElem?_map,List.getElem?_eq_getElem hjl,List.getElem?_eq_getElem (show j < rows.length by omega),Option.map_some,Option.some.injEq] at this
  rw [← this,Jh,List.getElem?_eq_getElem (show j < rows.length by omega)]
  rfl
 have h3 : DataW.trod (fun _=>()) Tryz.prog W base sp held k e ((L.drop (j * m)).take m) = some (Lib.tabData .i64 (rows.getD j []),(xs[j]).2):=by rw [h1,← h2]
 exact Lib.cells_of_tab he hi hci hce h3
theorem Q7 : Tryz.prog.cellsOf 3 = 1:=by kernel_rfl
theorem Bet : Tryz.prog.cellsOf 83 = 3:=by kernel_rfl
theorem Q8 : Tryz.prog.cellsOf 60 = 6:=by kernel_rfl
theorem Bcf : Tryz.prog.cellsOf 116 = 6 * 3:=by kernel_rfl
theorem Bcg : Tryz.prog.cellsOf 121 = 6 * 6:=by kernel_rfl
theorem O0 {W : World} (h : laidMetH Tryz.prog Ga W) : Om W:=by
 rw [MakeChecks.laidMetH_plain _ _ _ (by kernel_rfl)] at h
 unfold laidMet Ga at h
 obtain ⟨ps,h,-⟩:=h
 obtain ⟨g1,t1,cs1,f1,p1,q1,hg1,ht1,hv1,hd1,h⟩:=Cl h
 obtain ⟨g2,t2,cs2,f2,p2,q2,hg2,ht2,hv2,hd2,h⟩:=Cl h
 obtain ⟨g3,t3,cs3,f3,p3,q3,hg3,ht3,hv3,hd3,h⟩:=Cl h
 obtain ⟨g4,t4,cs4,f4,p4,q4,hg4,ht4,hv4,hd4,h⟩:=Cl h
 obtain ⟨g5,t5,cs5,f5,p5,q5,hg5,ht5,hv5,hd5,h⟩:=Cl h
 obtain ⟨g6,t6,cs6,f6,p6,q6,hg6,ht6,hv6,hd6,h⟩:=Cl h
 clear h
 clear hd1 hd2 hd5 hg1 hg2 hg5 ht1 ht2 ht5 hv1 hv2 hv5
 obtain rfl:=Option.some.inj ((show Tryz.prog.globalNamed "gusset/poly.nodes" = some 2 by kernel_rfl).symm.trans hg3)
 obtain rfl:=Option.some.inj ((show (Tryz.prog.globals[2]?).map (·.type) = some 116 by kernel_rfl).symm.trans ht3)
 obtain rfl:=Option.some.inj ((show Tryz.prog.globalNamed "gusset/poly.integralWeights" = some 0 by kernel_rfl).symm.trans hg4)
 obtain rfl:=Option.some.inj ((show (Tryz.prog.globals[0]?).map (·.type) = some 60 by kernel_rfl).symm.trans ht4)
 obtain rfl:=Option.some.inj ((show Tryz.prog.globalNamed "gusset/poly.squareWeights" = some 3 by kernel_rfl).symm.trans hg6)
 obtain rfl:=Option.some.inj ((show (Tryz.prog.globals[3]?).map (·.type) = some 121 by kernel_rfl).symm.trans ht6)
 have e3:=Bfv (n:=6) (m:=3) [[2,0,0],[0,2,0],[0,0,2],[1,1,0],[0,1,1],[1,0,1]] Tryz.underlying116 Tryz.underlying83 Tryz.underlying3 Q7 Bet Bcf hd3
 have e4:=Lib.cells_of_tab (zs:=[0,0,0,20,20,20]) Tryz.underlying60 Tryz.underlying3 Q7 Q8 hd4
 have e6:=Bfv (n:=6) (m:=6) [[6,-1,-1,0,-4,0],[-1,6,-1,0,0,-4],[-1,-1,6,-4,0,0],[0,0,-4,32,16,16],[-4,0,0,16,32,16],[0,-4,0,16,16,32]] Tryz.underlying121 Tryz.underlying60 Tryz.underlying3 Q7 Q8 Bcg hd6
 obtain ⟨tg3,fr3,k3⟩:=Le hg3 hv3
 obtain ⟨tg4,fr4,k4⟩:=Le hg4 hv4
 obtain ⟨tg6,fr6,k6⟩:=Le hg6 hv6
 have c3 : cs3 = #[.int .i64 2,.int .i64 0,.int .i64 0,.int .i64 0,.int .i64 2,.int .i64 0,.int .i64 0,.int .i64 0,.int .i64 2,.int .i64 1,.int .i64 1,.int .i64 0,.int .i64 0,.int .i64 1,.int .i64 1,.int .i64 1,.int .i64 0,.int .i64 1]:=by rw [← Array.toArray_toList (xs:=cs3),e3]; rfl
 have c4 : cs4 = #[.int .i64 0,.int .i64 0,.int .i64 0,.int .i64 20,.int .i64 20,.int .i64 20]:=by rw [← Array.toArray_toList (xs:=cs4),e4]; rfl
 have c6 : cs6 = #[.int .i64 6,.int .i64 (-1),.int .i64 (-1),.int .i64 0,.int .i64 (-4),.int .i64 0,.int .i64 (-1),.int .i64 6,.int .i64 (-1),.int .i64 0,.int .i64 0,.int .i64 (-4),.int .i64 (-1),.int .i64 (-1),.int .i64 6,.int .i64 (-4),.int .i64 0,.int .i64 0,.int .i64 0,.int .i64 0,.int .i64 (-4),.int .i64 32,.int .i64 16,.int .i64 16,.int .i64 (-4),.int .i64 0,.int .i64 0,.int .i64 16,.int .i64 32,.int .i64 16,.int .i64 0,.int .i64 (-4),.int .i64 0,.int .i64 16,.int .i64 16,.int .i64 32]:=by rw [← Array.toArray_toList (xs:=cs6),e6]; rfl
 rw [c3] at k3
 rw [c4] at k4
 rw [c6] at k6
 exact ⟨⟨tg3,fr3,k3⟩,⟨tg4,fr4,k4⟩,⟨tg6,fr6,k6⟩⟩
theorem Ys (os : Os) (args : Array Value) : laidMetH Tryz.prog Ga ((World.laidAll Tryz.prog os Ga).forCall (fun _ _=>0) ⟨#[],args,[]⟩).memory:=by
 rw [MakeChecks.laidMetH_plain _ _ _ (by kernel_rfl)]
 exact laidMet_laidAll _ (by kernel_rfl) (by kernel_rfl)
theorem Bbb {H : Type} {enc : TypeId × Value→H} {W : World} {base : Nat} {sp : Nat→Bool} {held : Bool} {n : Nat} {cs : List Value} {x : DataW H × List MemPlace} (h : DataW.trod enc Tryz.prog W base sp held n 26 cs = some x) : ∃ n s d,cs = (Bx n s d):=by
 obtain ⟨y0,y1,m,hx,hl,hy0,hy1⟩:=trod_struct2 Tryz.underlying26 h
 obtain ⟨z0,z1,m',hx',hl',hz0,hz1⟩:=trod_struct2 Tryz.underlying24 hy0
 rw [Vf] at hl
 match cs,hl with
 | [c0,c1,c2],_ =>
  obtain ⟨n,e0,-⟩:=DataW.trod_bool Tryz.underlying4 hz0
  obtain ⟨s,e1,-⟩:=DataW.trod_string Tryz.underlying22 hz1
  obtain ⟨d,e2,-⟩:=DataW.trod_string Tryz.underlying22 hy1
  rw [Bce] at e0
  rw [Bcc] at e1 e2
  rw [Bca] at e0 e1
  simp at e0 e1 e2
  subst e0 e1 e2
  exact ⟨n,s,d,rfl⟩
theorem N7 {P : Program} {w : World} {r : Reach} {base : Nat} {t : TypeId} {v : Value} {n : Nat} {e : TypeId} (ht : P.underlying t = some (.array n e)) (h : Value.okWide P w r base t v) : ∃ cs,v = .agg cs∧cs.size = P.cellsOf t:=by
 simp only [Value.okWide,ht] at h
 obtain ⟨cs,h1,h2,_⟩:=h
 exact ⟨cs,h1,h2⟩
theorem Bcd : Tryz.prog.cellsOf 28 = 18:=by kernel_rfl
theorem Yg {H : Type} {enc : TypeId × Value→H} {W : World} {base : Nat} {sp : Nat→Bool} {held : Bool} {r : Reach} {b0 : Nat} {v : Value} {d : DataW H} {ps : List MemPlace} (hval : Value.okWide Tryz.prog W r b0 28 v) (hd : DataW.Trod enc Tryz.prog W base sp held 28 v d ps) :
  ∃ n0 n1 n2 n3 n4 n5 s0 d0 s1 d1 s2 d2 s3 d3 s4 d4 s5 d5,v = (Cp n0 s0 d0 n1 s1 d1 n2 s2 d2 n3 s3 d3 n4 s4 d4 n5 s5 d5):=by
 obtain ⟨cs,rfl,hsz⟩:=N7 Tryz.underlying28 hval
 rw [Bcd] at hsz
 obtain ⟨fuel,hf⟩:=hd
 obtain ⟨xs,k,rfl,hx,hl,hn,hq⟩:=DataW.trod_array Tryz.underlying28 hf
 have hg : ∀ j,j < 6→∃ n s d,((Value.cells (.agg cs)).toList.drop (j * 3)).take 3 = (Bx n s d):=fun j hj=>by
  have h1:=hq j hj
  rw [Vf,List.getElem?_eq_getElem (show j < xs.length by omega)] at h1
  exact Bbb h1
 obtain ⟨n0,s0,d0,e0⟩:=hg 0 (by omega)
 obtain ⟨n1,s1,d1,e1⟩:=hg 1 (by omega)
 obtain ⟨n2,s2,d2,e2⟩:=hg 2 (by omega)
 obtain ⟨n3,s3,d3,e3⟩:=hg 3 (by omega)
 obtain ⟨n4,s4,d4,e4⟩:=hg 4 (by omega)
 obtain ⟨n5,s5,d5,e5⟩:=hg 5 (by omega)
 clear hg hq hx
 obtain ⟨l⟩:=cs
 match l,hsz with
 | [c0,c1,c2,c3,c4,c5,c6,c7,c8,c9,c10,c11,c12,c13,c14,c15,c16,c17],_ =>
  simp [Value.cells] at e0 e1 e2 e3 e4 e5
  obtain ⟨rfl,rfl,rfl⟩:=e0
  obtain ⟨rfl,rfl,rfl⟩:=e1
  obtain ⟨rfl,rfl,rfl⟩:=e2
  obtain ⟨rfl,rfl,rfl⟩:=e3
  obtain ⟨rfl,rfl,rfl⟩:=e4
  obtain ⟨rfl,rfl,rfl⟩:=e5
  exact ⟨n0,n1,n2,n3,n4,n5,s0,d0,s1,d1,s2,d2,s3,d3,s4,d4,s5,d5,rfl⟩
open Go.ChangeShapes Go.WideShapes Go.RowKit Go.Deep
theorem Yf {H : Type} {enc : TypeId × Value→H} {W : World} {base : Nat} {sp : Nat→Bool} {held : Bool} {n : Nat} {cs : List Value} {x : DataW H × List MemPlace} (hd : DataW.trod enc Tryz.prog W base sp held n 31 cs = some x) :
  ∃ p0 p1 p2 p3 p4 p5 q0 r0 q1 r1 q2 r2 q3 r3 q4 r4 q5 r5,cs = (Di p0 q0 r0 p1 q1 r1 p2 q2 r2 p3 q3 r3 p4 q4 r4 p5 q5 r5):=by
 obtain ⟨xs,k,rfl,hx,hl,hn,hq⟩:=DataW.trod_array Tryz.underlying31 hd
 rw [show Tryz.prog.cellsOf 31 = 18 by kernel_rfl] at hl
 have hg : ∀ j,j < 3→∃ n0 s0 d0 n1 s1 d1,(cs.drop (j * 6)).take 6 = (Cn n0 s0 d0 n1 s1 d1):=fun j hj=>by
  have h1:=hq j hj
  rw [Bcb,List.getElem?_eq_getElem (show j < xs.length by omega)] at h1
  exact Bdz h1
 obtain ⟨p0,q0,r0,p1,q1,r1,e0⟩:=hg 0 (by omega)
 obtain ⟨p2,q2,r2,p3,q3,r3,e1⟩:=hg 1 (by omega)
 obtain ⟨p4,q4,r4,p5,q5,r5,e2⟩:=hg 2 (by omega)
 clear hg hq hx
 match cs,hl with
 | [c0,c1,c2,c3,c4,c5,c6,c7,c8,c9,c10,c11,c12,c13,c14,c15,c16,c17],_ =>
  simp at e0 e1 e2
  obtain ⟨rfl,rfl,rfl,rfl,rfl,rfl⟩:=e0
  obtain ⟨rfl,rfl,rfl,rfl,rfl,rfl⟩:=e1
  obtain ⟨rfl,rfl,rfl,rfl,rfl,rfl⟩:=e2
  exact ⟨p0,p1,p2,p3,p4,p5,q0,r0,q1,r1,q2,r2,q3,r3,q4,r4,q5,r5,rfl⟩
theorem Bba {H : Type} {enc : TypeId × Value→H} {W : World} {base : Nat} {sp : Nat→Bool} {held : Bool} {r : Reach} {b0 : Nat} {v : Value} {d : DataW H} {ps : List MemPlace} (hval : Value.okWide Tryz.prog W r b0 31 v) (hd : DataW.Trod enc Tryz.prog W base sp held 31 v d ps) :
  ∃ p0 p1 p2 p3 p4 p5 q0 r0 q1 r1 q2 r2 q3 r3 q4 r4 q5 r5,v = (Cp p0 q0 r0 p1 q1 r1 p2 q2 r2 p3 q3 r3 p4 q4 r4 p5 q5 r5):=by
 obtain ⟨cs,rfl,hsz⟩:=N7 Tryz.underlying31 hval
 obtain ⟨fuel,hf⟩:=hd
 obtain ⟨p0,p1,p2,p3,p4,p5,q0,r0,q1,r1,q2,r2,q3,r3,q4,r4,q5,r5,e⟩:=Yf hf
 refine ⟨p0,p1,p2,p3,p4,p5,q0,r0,q1,r1,q2,r2,q3,r3,q4,r4,q5,r5,?_⟩
 obtain ⟨l⟩:=cs
 have e' : l = _:=e
 rw [e']
theorem O3 {W : World} (h : laidMetH Tryz.prog Ga W) : Zj W:=by
 rw [MakeChecks.laidMetH_plain _ _ _ (by kernel_rfl)] at h
 unfold laidMet Ga at h
 obtain ⟨ps,h,-⟩:=h
 obtain ⟨g1,t1,cs1,f1,p1,q1,hg1,ht1,hv1,hd1,h⟩:=Cl h
 obtain ⟨g2,t2,cs2,f2,p2,q2,hg2,ht2,hv2,hd2,h⟩:=Cl h
 obtain ⟨g3,t3,cs3,f3,p3,q3,hg3,ht3,hv3,hd3,h⟩:=Cl h
 obtain ⟨g4,t4,cs4,f4,p4,q4,hg4,ht4,hv4,hd4,h⟩:=Cl h
 obtain ⟨g5,t5,cs5,f5,p5,q5,hg5,ht5,hv5,hd5,h⟩:=Cl h
 clear h hd1 hd2 hd3 hd4 hg1 hg2 hg3 hg4 ht1 ht2 ht3 ht4 hv1 hv2 hv3 hv4
 obtain rfl:=Option.some.inj ((show Tryz.prog.globalNamed "gusset/poly.loadWeights" = some 1 by kernel_rfl).symm.trans hg5)
 obtain rfl:=Option.some.inj ((show (Tryz.prog.globals[1]?).map (·.type) = some 73 by kernel_rfl).symm.trans ht5)
 have e5:=Bfv (n:=3) (m:=6) [[2,-1,-1,8,4,8],[-1,2,-1,8,8,4],[-1,-1,2,4,8,8]] Tryz.underlying73 Tryz.underlying60 Tryz.underlying3 Q7 Q8 (by kernel_rfl) hd5
 obtain ⟨tg5,fr5,k5⟩:=Le hg5 hv5
 have c5 : cs5 = #[.int .i64 2,.int .i64 (-1),.int .i64 (-1),.int .i64 8,.int .i64 4,.int .i64 8,.int .i64 (-1),.int .i64 2,.int .i64 (-1),.int .i64 8,.int .i64 8,.int .i64 4,.int .i64 (-1),.int .i64 (-1),.int .i64 2,.int .i64 4,.int .i64 8,.int .i64 8]:=by rw [← Array.toArray_toList (xs:=cs5),e5]; rfl
 rw [c5] at k5
 exact ⟨tg5,fr5,k5⟩
end Go.Proofs.YtnplifkgeeicjaaGreatDoor
