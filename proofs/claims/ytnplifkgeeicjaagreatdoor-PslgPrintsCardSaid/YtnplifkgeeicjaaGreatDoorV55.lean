import Derived.Stop.LaidErr
import Derived.Stop.LaidTwo
import Derived.Test.YtnplifkgeeicjaaGreatDoorRows
import Derived.Test.YtnplifkgeeicjaaGreatDoorV54
namespace Go.Proofs.YtnplifkgeeicjaaGreatDoor
open Go.RowKit Go.ChangeShapes
def Ll:List (String × DataW Unit):=[("math/bits.deBruijn32tab",Rows.laid_math_bits_deBruijn32tab),("math/bits.deBruijn64tab",Rows.laid_math_bits_deBruijn64tab),("internal/strconv.uint64pow10",Rows.laid_internal_strconv_uint64pow10),("unicode/utf8.acceptRanges",Rows.laid_unicode_utf8_acceptRanges),("errors.errorType",Rows.laid_errors_errorType),("gusset/pslg.errLong",Rows.laid_gusset_pslg_errLong),("gusset/pslg.errEnded",Rows.laid_gusset_pslg_errEnded),("gusset/pslg.errWord",Rows.laid_gusset_pslg_errWord),("gusset/pslg.errCount",Rows.laid_gusset_pslg_errCount),("gusset/pslg.errNumber",Rows.laid_gusset_pslg_errNumber),("gusset/pslg.errKind",Rows.laid_gusset_pslg_errKind),("gusset/pslg.errMore",Rows.laid_gusset_pslg_errMore),("unicode/utf8.first",Rows.laid_unicode_utf8_first)]
def Hu:List (String × DataW Unit):=[("math/bits.deBruijn32tab",Rows.laid_math_bits_deBruijn32tab),("math/bits.deBruijn64tab",Rows.laid_math_bits_deBruijn64tab),("internal/strconv.uint64pow10",Rows.laid_internal_strconv_uint64pow10),("unicode/utf8.acceptRanges",Rows.laid_unicode_utf8_acceptRanges),("gusset/pslg.errLong",Rows.laid_gusset_pslg_errLong),("gusset/pslg.errEnded",Rows.laid_gusset_pslg_errEnded),("gusset/pslg.errWord",Rows.laid_gusset_pslg_errWord),("gusset/pslg.errCount",Rows.laid_gusset_pslg_errCount),("gusset/pslg.errNumber",Rows.laid_gusset_pslg_errNumber),("gusset/pslg.errKind",Rows.laid_gusset_pslg_errKind),("gusset/pslg.errMore",Rows.laid_gusset_pslg_errMore),("unicode/utf8.first",Rows.laid_unicode_utf8_first)]
theorem Bag {W:World} (h:laidMetH Tryz.prog Ll W):laidMet Tryz.prog Hu W∧handlesMet Tryz.prog [("errors.errorType",Rows.laid_errors_errorType)] W:=h
theorem Ie {P:Program} {x y:String × DataW Unit} {r:List (String × DataW Unit)} {w:World} (h:laidMet P (x :: y :: r) w):laidMet P (x :: r) w:=by
 obtain ⟨ps,hv,hnd,hrows⟩:=h
 obtain ⟨n,d⟩:=x
 obtain ⟨n',d'⟩:=y
 obtain ⟨g,t,cs,f,p,q,a1,a2,a3,a4,hq,rfl⟩:=hv
 obtain ⟨g',t',cs',f',p',q',-,-,-,-,hr,rfl⟩:=hq
 have hs:(MemPlace.row ⟨g,0,none⟩ cs.size ++ p ++ q').Sublist (MemPlace.row ⟨g,0,none⟩ cs.size ++ p ++ (MemPlace.row ⟨g',0,none⟩ cs'.size ++ p' ++ q')):=List.Sublist.append_left (List.sublist_append_right _ _) _
 exact ⟨_,⟨g,t,cs,f,p,q',a1,a2,a3,a4,hr,rfl⟩,List.Nodup.sublist hs hnd,fun b off hm=>hrows b off (hs.subset hm)⟩
theorem Mh:Tryz.prog.cellsOf 367=1:=by kernel_rfl
theorem Mg:Tryz.prog.cellsOf 9=1:=by kernel_rfl
theorem Blw:"*" ++ "errors.errorString"="*errors.errorString":=by decide
theorem Bdn (u:TypeId) (h:Tryz.prog.typeName? 3 u=some "*errors.errorString"):u=348 :=
 typeName_ptr_named (nm:="errors.errorString") (by rw [Blw];kernel_rfl) (by kernel_rfl) (by decide) u (by rw [Blw];exact h)
theorem E4:Tryz.prog.globalNamed "gusset/pslg.errLong"=some 4:=by kernel_rfl
theorem Ft:(Tryz.prog.globals[4]?).map (·.type)=some 86:=by kernel_rfl
theorem P0:Tryz.prog.globalNamed "gusset/pslg.errEnded"=some 9:=by kernel_rfl
theorem Wg:(Tryz.prog.globals[9]?).map (·.type)=some 86:=by kernel_rfl
theorem R8:Tryz.prog.globalNamed "gusset/pslg.errWord"=some 6:=by kernel_rfl
theorem Yy:(Tryz.prog.globals[6]?).map (·.type)=some 86:=by kernel_rfl
theorem P5:Tryz.prog.globalNamed "gusset/pslg.errCount"=some 10:=by kernel_rfl
theorem Wh:(Tryz.prog.globals[10]?).map (·.type)=some 86:=by kernel_rfl
theorem Ob:Tryz.prog.globalNamed "gusset/pslg.errNumber"=some 11:=by kernel_rfl
theorem Uq:(Tryz.prog.globals[11]?).map (·.type)=some 86:=by kernel_rfl
theorem Sa:Tryz.prog.globalNamed "gusset/pslg.errKind"=some 7:=by kernel_rfl
theorem Y0:(Tryz.prog.globals[7]?).map (·.type)=some 86:=by kernel_rfl
theorem R9:Tryz.prog.globalNamed "gusset/pslg.errMore"=some 5:=by kernel_rfl
theorem Yz:(Tryz.prog.globals[5]?).map (·.type)=some 86:=by kernel_rfl
theorem et8:Tryz.prog.globalNamed "errors.errorType"=some 8:=by kernel_rfl
theorem rt8:(Tryz.prog.cutTypes.find? (·.1 == "internal/reflectlite.rtype")).map (·.2)=some 245:=by kernel_rfl
theorem Bju:((List.range 379).filter fun t=>Tryz.prog.rowNamed t [101,114,114,111,114])=[86]:=by kernel_rfl
theorem Bn6:Tryz.prog.types.size=379:=by kernel_rfl
theorem Td {W:World} (h:laidMetH Tryz.prog Ll W):Qd W:=by
 obtain ⟨name,u,ty,e1,e2,e3,e4,e5⟩:=(Bag h).2 _ (List.mem_singleton.2 rfl)
 have en:name=[101,114,114,111,114]:=(Option.some.inj e1).symm
 subst en
 obtain rfl:=Option.some.inj (rt8.symm.trans e2)
 have hm:ty∈(List.range 379).filter fun t=>Tryz.prog.rowNamed t [101,114,114,111,114]:=List.mem_filter.2 ⟨List.mem_range.2 (by rw [← Bn6];exact e3),e4⟩
 rw [Bju] at hm
 obtain rfl:=List.mem_singleton.1 hm
 have hh:typeHandle Tryz.prog 86=.pointer (some ⟨20,86,none⟩):=by kernel_rfl
 rw [hh] at e5
 unfold Qd
 simpa using World.var?_cell et8 e5 0
theorem Pr {W:World} {g:Nat} {v:Value} (h:W.cell? ⟨g,0,none⟩=some v):g<W.heap.size:=World.block_lt_of_cell? W _ h
theorem S9 {W:World} (h0:laidMetH Tryz.prog Ll W):∃ aL,M9 W.heap.size W aL:=by
 have h:=(Bag h0).1
 have L0:=h.tail.tail.tail.tail
 obtain ⟨a0,b0,-,-,c0,d0,t0,u0,va0,vb0,-,-,-,-,-,-,ne0,ha0,hb0⟩:=laid_sentinels2 L0 E4 Ft P0 Wg Tryz.underlying86 Bdn Tryz.underlying348 Tryz.underlying367 rfl rfl Tryz.underlying9 Mh Mg
 have L1:=Ie L0
 obtain ⟨a1,b1,-,-,c1,d1,t1,u1,va1,vb1,-,-,-,-,-,-,Ue,ha1,hb1⟩:=laid_sentinels2 L1 E4 Ft R8 Yy Tryz.underlying86 Bdn Tryz.underlying348 Tryz.underlying367 rfl rfl Tryz.underlying9 Mh Mg
 have L2:=Ie L1
 obtain ⟨a2,b2,-,-,c2,d2,t2,u2,va2,vb2,-,-,-,-,-,-,ne2,ha2,hb2⟩:=laid_sentinels2 L2 E4 Ft P5 Wh Tryz.underlying86 Bdn Tryz.underlying348 Tryz.underlying367 rfl rfl Tryz.underlying9 Mh Mg
 have L3:=Ie L2
 obtain ⟨a3,b3,-,-,c3,d3,t3,u3,va3,vb3,-,-,-,-,-,-,ne3,ha3,hb3⟩:=laid_sentinels2 L3 E4 Ft Ob Uq Tryz.underlying86 Bdn Tryz.underlying348 Tryz.underlying367 rfl rfl Tryz.underlying9 Mh Mg
 have L4:=Ie L3
 obtain ⟨a4,b4,-,-,c4,d4,t4,u4,va4,vb4,-,-,-,-,-,-,ne4,ha4,hb4⟩:=laid_sentinels2 L4 E4 Ft Sa Y0 Tryz.underlying86 Bdn Tryz.underlying348 Tryz.underlying367 rfl rfl Tryz.underlying9 Mh Mg
 have L5:=Ie L4
 obtain ⟨a5,b5,-,-,c5,d5,t5,u5,va5,vb5,-,-,-,-,-,-,ne5,ha5,hb5⟩:=laid_sentinels2 L5 E4 Ft R9 Yz Tryz.underlying86 Bdn Tryz.underlying348 Tryz.underlying367 rfl rfl Tryz.underlying9 Mh Mg
 obtain rfl:a0=a1:=by have:=Option.some.inj (va0.symm.trans va1);simpa using this
 obtain rfl:a0=a2:=by have:=Option.some.inj (va0.symm.trans va2);simpa using this
 obtain rfl:a0=a3:=by have:=Option.some.inj (va0.symm.trans va3);simpa using this
 obtain rfl:a0=a4:=by have:=Option.some.inj (va0.symm.trans va4);simpa using this
 obtain rfl:a0=a5:=by have:=Option.some.inj (va0.symm.trans va5);simpa using this
 have one:∀ (g:Nat) (n:String) (a:Addr) (c:Array Value) (t:TypeId),Tryz.prog.globalNamed n=some g→W.var? Tryz.prog n=some #[.iface 348 (.pointer (some a))]→W.heap[a.block]?=some (.cells c t (0,0))→Sen W.heap.size W g a:=fun g n a c t hg hv hb=>by
  have hc:W.cell? ⟨g,0,none⟩=some (.iface 348 (.pointer (some a))):=by simpa using World.var?_cell hg hv 0
  refine ⟨Pr hc,?_,hc,c,t,hb⟩
  rcases Nat.lt_or_ge a.block W.heap.size with h | h
  ·exact h
  ·rw [Array.getElem?_eq_none h] at hb;cases hb
 refine ⟨a0,one _ _ _ _ _ E4 va0 ha0,fun g hg=>?_⟩
 simp only [List.mem_cons,List.not_mem_nil,or_false] at hg
 rcases hg with rfl | rfl | rfl | rfl | rfl | rfl
 ·exact ⟨b5,ne5.symm,one _ _ _ _ _ R9 vb5 hb5⟩
 ·exact ⟨b1,Ue.symm,one _ _ _ _ _ R8 vb1 hb1⟩
 ·exact ⟨b4,ne4.symm,one _ _ _ _ _ Sa vb4 hb4⟩
 ·exact ⟨b0,ne0.symm,one _ _ _ _ _ P0 vb0 hb0⟩
 ·exact ⟨b2,ne2.symm,one _ _ _ _ _ P5 vb2 hb2⟩
 ·exact ⟨b3,ne3.symm,one _ _ _ _ _ Ob vb3 hb3⟩
theorem S5 {W:World} (h0:laidMetH Tryz.prog Ll W):G9 W∧Ee W:=by
 have h:=(Bag h0).1
 obtain ⟨ps,⟨g0,t0,cs0,f0,p0,q0,hg0,ht0,hv0,hd0,⟨g1,t1,cs1,f1,p1,q1,hg1,ht1,hv1,hd1,⟨g2,t2,cs2,f2,p2,q2,hg2,ht2,hv2,hd2,-⟩,-⟩,-⟩,-⟩:=h
 obtain rfl:=Option.some.inj ((show Tryz.prog.globalNamed "math/bits.deBruijn64tab"=some 14 by kernel_rfl).symm.trans hg1)
 obtain rfl:=Option.some.inj ((show (Tryz.prog.globals[14]?).map (·.type)=some 328 by kernel_rfl).symm.trans ht1)
 obtain rfl:=Option.some.inj ((show Tryz.prog.globalNamed "internal/strconv.uint64pow10"=some 12 by kernel_rfl).symm.trans hg2)
 obtain rfl:=Option.some.inj ((show (Tryz.prog.globals[12]?).map (·.type)=some 313 by kernel_rfl).symm.trans ht2)
 refine ⟨?_,?_⟩
 ·have hT:Lib.TabIs Tryz.prog W "math/bits.deBruijn64tab" .u8 Bfq:=by
   unfold Lib.TabIs
   rw [hv1,← Lib.cells_of_tab Tryz.underlying328 Tryz.underlying5 Bnl Blc (by rw [← Bo6];exact hd1)]
  intro j hj
  have:=hT.cell (show Tryz.prog.globalNamed "math/bits.deBruijn64tab"=some 14 by kernel_rfl) j (by unfold Bfq;simpa using hj)
  rw [show Bfq.getD j 0=((Lib.deBruijn64tab.getD j 0:Nat):Int) from by unfold Bfq;simp [hj]] at this
  exact this
 ·unfold Ee Lib.TabIs
  rw [hv2,← Lib.cells_of_tab Tryz.underlying313 Tryz.underlying170 Ble Bld (by rw [← Bn4];exact hd2)]
theorem Vr {W:World} (h:laidMetH Tryz.prog Ll W):(∃ aL,Na W aL)∧Ee W:=by
 obtain ⟨aL,hs⟩:=S9 h
 obtain ⟨hT,hP⟩:=S5 h
 refine ⟨⟨aL,hs,hT,?_,Td h⟩,hP⟩
 have:=hT 0 (by decide)
 exact Pr this
end Go.Proofs.YtnplifkgeeicjaaGreatDoor
