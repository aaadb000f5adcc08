import Derived.Test.YtnplifkgeeicjaaGreatDoorV46
set_option maxRecDepth 20000
set_option maxHeartbeats 8000000
namespace Go.Proofs.YtnplifkgeeicjaaGreatDoor
open Go.RowKit
theorem Beq (x x':Nat→Q3) (h:¬ [x 0,x 1,x 2,x 3,x 4,x 5]=[x' 0,x' 1,x' 2,x' 3,x' 4,x' 5]) (w1:World):(Op.equalIn 10000 28 (.agg #[Iz (x 0).1,I (x 0).2.1,I (x 0).2.2,Iz (x 1).1,I (x 1).2.1,I (x 1).2.2,Iz (x 2).1,I (x 2).2.1,I (x 2).2.2,Iz (x 3).1,I (x 3).2.1,I (x 3).2.2,Iz (x 4).1,I (x 4).2.1,I (x 4).2.2,Iz (x 5).1,I (x 5).2.1,I (x 5).2.2]) (.agg #[Iz (x' 0).1,I (x' 0).2.1,I (x' 0).2.2,Iz (x' 1).1,I (x' 1).2.1,I (x' 1).2.2,Iz (x' 2).1,I (x' 2).2.1,I (x' 2).2.2,Iz (x' 3).1,I (x' 3).2.1,I (x' 3).2.2,Iz (x' 4).1,I (x' 4).2.1,I (x' 4).2.2,Iz (x' 5).1,I (x' 5).2.1,I (x' 5).2.2])).run Tryz.prog w1=.ok false w1:=by
 have hm:(Tryz.prog.info? 26).isSome=true:=by kernel_rfl
 obtain ⟨i,hi⟩:=Option.isSome_iff_exists.1 hm
 have hc:Tryz.prog.cellsOf 26=3:=by kernel_rfl
 rw [show (10000:Nat)=9999+1 from rfl,run_equalIn_array w1 9999 _ _ Tryz.underlying28 hi,hc,show List.range 6=[0,1,2,3,4,5] from rfl]
 clear hm hi hc
 simp only [Op.eqItems]
 go_simp
 intro p0 q0 r0 p1 q1 r1 p2 q2 r2 p3 q3 r3 p4 q4 r4 p5 q5 r5
 exact h (by rw [show x 0=x' 0 from Prod.ext p0 (Prod.ext (Du q0) (Du r0)),show x 1=x' 1 from Prod.ext p1 (Prod.ext (Du q1) (Du r1)),show x 2=x' 2 from Prod.ext p2 (Prod.ext (Du q2) (Du r2)),show x 3=x' 3 from Prod.ext p3 (Prod.ext (Du q3) (Du r3)),show x 4=x' 4 from Prod.ext p4 (Prod.ext (Du q4) (Du r4)),show x 5=x' 5 from Prod.ext p5 (Prod.ext (Du q5) (Du r5))])
theorem Ql (x x':Nat→Q3) (w1:World):(Op.equalIn 10000 28 (.agg #[Iz (x 0).1,I (x 0).2.1,I (x 0).2.2,Iz (x 1).1,I (x 1).2.1,I (x 1).2.2,Iz (x 2).1,I (x 2).2.1,I (x 2).2.2,Iz (x 3).1,I (x 3).2.1,I (x 3).2.2,Iz (x 4).1,I (x 4).2.1,I (x 4).2.2,Iz (x 5).1,I (x 5).2.1,I (x 5).2.2]) (.agg #[Iz (x' 0).1,I (x' 0).2.1,I (x' 0).2.2,Iz (x' 1).1,I (x' 1).2.1,I (x' 1).2.2,Iz (x' 2).1,I (x' 2).2.1,I (x' 2).2.2,Iz (x' 3).1,I (x' 3).2.1,I (x' 3).2.2,Iz (x' 4).1,I (x' 4).2.1,I (x' 4).2.2,Iz (x' 5).1,I (x' 5).2.1,I (x' 5).2.2])).run Tryz.prog w1=.ok (decide ([x 0,x 1,x 2,x 3,x 4,x 5]=[x' 0,x' 1,x' 2,x' 3,x' 4,x' 5])) w1:=by
 by_cases h:[x 0,x 1,x 2,x 3,x 4,x 5]=[x' 0,x' 1,x' 2,x' 3,x' 4,x' 5]
 ·have h0:=h
  simp only [List.cons.injEq,and_true] at h0
  obtain ⟨e0,e1,e2,e3,e4,e5⟩:=h0
  rw [decide_eq_true h,← e0,← e1,← e2,← e3,← e4,← e5]
  exact Bnh x w1
 ·rw [decide_eq_false h]
  exact Beq x x' h w1
theorem Bm2 (v1 v2 v3 f1 f2:Bool) (a1 a2 a3 b1 b2 b3:Option Addr) (n1 n2 n3 m1 m2 m3 l1 l2 l3 k1 k2 k3:Nat) (x y x' y':Nat→Q3) (w:World)
  (P1:Hid (∀ wi,Below w.heap.size w wi→Calls Tryz.prog 103 #[.slice a1 n1 m1,.slice b1 l1 k1] wi (Re wi (Iz v1))))
  (P2:Hid (∀ wi,Below w.heap.size w wi→Calls Tryz.prog 104 #[.slice a2 n2 m2,.slice b2 l2 k2] wi (Re wi (Iz v2))))
  (P3:Hid (∀ wi,Below w.heap.size w wi→Calls Tryz.prog 103 #[.slice a3 n3 m3,.slice b3 l3 k3] wi (Re wi (Iz v3))))
  (EF:∀ w1,(Op.equalIn 10000 28 (.agg #[Iz (x 0).1,I (x 0).2.1,I (x 0).2.2,Iz (x 1).1,I (x 1).2.1,I (x 1).2.2,Iz (x 2).1,I (x 2).2.1,I (x 2).2.2,Iz (x 3).1,I (x 3).2.1,I (x 3).2.2,Iz (x 4).1,I (x 4).2.1,I (x 4).2.2,Iz (x 5).1,I (x 5).2.1,I (x 5).2.2]) (.agg #[Iz (x' 0).1,I (x' 0).2.1,I (x' 0).2.2,Iz (x' 1).1,I (x' 1).2.1,I (x' 1).2.2,Iz (x' 2).1,I (x' 2).2.1,I (x' 2).2.2,Iz (x' 3).1,I (x' 3).2.1,I (x' 3).2.2,Iz (x' 4).1,I (x' 4).2.1,I (x' 4).2.2,Iz (x' 5).1,I (x' 5).2.1,I (x' 5).2.2])).run Tryz.prog w1=.ok f1 w1)
  (EG:∀ w1,(Op.equalIn 10000 28 (.agg #[Iz (y 0).1,I (y 0).2.1,I (y 0).2.2,Iz (y 1).1,I (y 1).2.1,I (y 1).2.2,Iz (y 2).1,I (y 2).2.1,I (y 2).2.2,Iz (y 3).1,I (y 3).2.1,I (y 3).2.2,Iz (y 4).1,I (y 4).2.1,I (y 4).2.2,Iz (y 5).1,I (y 5).2.1,I (y 5).2.2]) (.agg #[Iz (y' 0).1,I (y' 0).2.1,I (y' 0).2.2,Iz (y' 1).1,I (y' 1).2.1,I (y' 1).2.2,Iz (y' 2).1,I (y' 2).2.1,I (y' 2).2.2,Iz (y' 3).1,I (y' 3).2.1,I (y' 3).2.2,Iz (y' 4).1,I (y' 4).2.1,I (y' 4).2.2,Iz (y' 5).1,I (y' 5).2.1,I (y' 5).2.2])).run Tryz.prog w1=.ok f2 w1) :
  Calls Tryz.prog 53 #[.agg #[.slice a1 n1 m1,.slice a2 n2 m2,.slice a3 n3 m3,Iz (x 0).1,I (x 0).2.1,I (x 0).2.2,Iz (x 1).1,I (x 1).2.1,I (x 1).2.2,Iz (x 2).1,I (x 2).2.1,I (x 2).2.2,Iz (x 3).1,I (x 3).2.1,I (x 3).2.2,Iz (x 4).1,I (x 4).2.1,I (x 4).2.2,Iz (x 5).1,I (x 5).2.1,I (x 5).2.2,Iz (y 0).1,I (y 0).2.1,I (y 0).2.2,Iz (y 1).1,I (y 1).2.1,I (y 1).2.2,Iz (y 2).1,I (y 2).2.1,I (y 2).2.2,Iz (y 3).1,I (y 3).2.1,I (y 3).2.2,Iz (y 4).1,I (y 4).2.1,I (y 4).2.2,Iz (y 5).1,I (y 5).2.1,I (y 5).2.2],.agg #[.slice b1 l1 k1,.slice b2 l2 k2,.slice b3 l3 k3,Iz (x' 0).1,I (x' 0).2.1,I (x' 0).2.2,Iz (x' 1).1,I (x' 1).2.1,I (x' 1).2.2,Iz (x' 2).1,I (x' 2).2.1,I (x' 2).2.2,Iz (x' 3).1,I (x' 3).2.1,I (x' 3).2.2,Iz (x' 4).1,I (x' 4).2.1,I (x' 4).2.2,Iz (x' 5).1,I (x' 5).2.1,I (x' 5).2.2,Iz (y' 0).1,I (y' 0).2.1,I (y' 0).2.2,Iz (y' 1).1,I (y' 1).2.1,I (y' 1).2.2,Iz (y' 2).1,I (y' 2).2.1,I (y' 2).2.2,Iz (y' 3).1,I (y' 3).2.1,I (y' 3).2.2,Iz (y' 4).1,I (y' 4).2.1,I (y' 4).2.2,Iz (y' 5).1,I (y' 5).2.1,I (y' 5).2.2]] w (Re w (Iz (v1 && v2 && v3 && f1 && f2))):=by
 go_enter Tryz.func53,Tryz.ntmps53
 go_upto_region 1 with fail
 obtain ⟨w0,hq,kz,ky,b0⟩:=Yu w [.slice a1 n1 m1,.slice a2 n2 m2,.slice a3 n3 m3,Iz (x 0).1,I (x 0).2.1,I (x 0).2.2,Iz (x 1).1,I (x 1).2.1,I (x 1).2.2,Iz (x 2).1,I (x 2).2.1,I (x 2).2.2,Iz (x 3).1,I (x 3).2.1,I (x 3).2.2,Iz (x 4).1,I (x 4).2.1,I (x 4).2.2,Iz (x 5).1,I (x 5).2.1,I (x 5).2.2,Iz (y 0).1,I (y 0).2.1,I (y 0).2.2,Iz (y 1).1,I (y 1).2.1,I (y 1).2.2,Iz (y 2).1,I (y 2).2.1,I (y 2).2.2,Iz (y 3).1,I (y 3).2.1,I (y 3).2.2,Iz (y 4).1,I (y 4).2.1,I (y 4).2.2,Iz (y 5).1,I (y 5).2.1,I (y 5).2.2] [.slice b1 l1 k1,.slice b2 l2 k2,.slice b3 l3 k3,Iz (x' 0).1,I (x' 0).2.1,I (x' 0).2.2,Iz (x' 1).1,I (x' 1).2.1,I (x' 1).2.2,Iz (x' 2).1,I (x' 2).2.1,I (x' 2).2.2,Iz (x' 3).1,I (x' 3).2.1,I (x' 3).2.2,Iz (x' 4).1,I (x' 4).2.1,I (x' 4).2.2,Iz (x' 5).1,I (x' 5).2.1,I (x' 5).2.2,Iz (y' 0).1,I (y' 0).2.1,I (y' 0).2.2,Iz (y' 1).1,I (y' 1).2.1,I (y' 1).2.2,Iz (y' 2).1,I (y' 2).2.1,I (y' 2).2.2,Iz (y' 3).1,I (y' 3).2.1,I (y' 3).2.2,Iz (y' 4).1,I (y' 4).2.1,I (y' 4).2.2,Iz (y' 5).1,I (y' 5).2.1,I (y' 5).2.2] 46 46
 rw [← hq]
 clear hq
 have kz':Bi w0 w.heap.size (Dq (.slice a1 n1 m1) (.slice a2 n2 m2) (.slice a3 n3 m3) (C4 x) (C4 y)) 46:=kz
 have ky':Bi w0 (w.heap.size+1) (Dq (.slice b1 l1 k1) (.slice b2 l2 k2) (.slice b3 l3 k3) (C4 x') (C4 y')) 46:=ky
 clear kz ky
 obtain ⟨cs,hcs⟩:∃ cs:List Value,cs=Dq (.slice a1 n1 m1) (.slice a2 n2 m2) (.slice a3 n3 m3) (C4 x) (C4 y):=⟨_,rfl⟩
 obtain ⟨ds,hds⟩:∃ ds:List Value,ds=Dq (.slice b1 l1 k1) (.slice b2 l2 k2) (.slice b3 l3 k3) (C4 x') (C4 y'):=⟨_,rfl⟩
 rw [← hcs] at kz'
 rw [← hds] at ky'
 obtain ⟨g,hg⟩:∃ g,g=w.heap.size:=⟨_,rfl⟩
 rw [← hg] at kz' ky' ⊢
 obtain ⟨f,hf⟩:∃ f,f=g+1:=⟨_,rfl⟩
 rw [← hf] at ky' ⊢
 have C0:Hid (∀ wi,Bi wi g cs 46→wi.cell? ⟨g,0,none⟩=some (.slice a1 n1 m1)):=fun wi k=>by rw [k.cell 0,hcs];rfl
 have C1:Hid (∀ wi,Bi wi g cs 46→wi.cell? ⟨g,1,none⟩=some (.slice a2 n2 m2)):=fun wi k=>by rw [k.cell 1,hcs];rfl
 have C2:Hid (∀ wi,Bi wi g cs 46→wi.cell? ⟨g,2,none⟩=some (.slice a3 n3 m3)):=fun wi k=>by rw [k.cell 2,hcs];rfl
 have D0:Hid (∀ wi,Bi wi f ds 46→wi.cell? ⟨f,0,none⟩=some (.slice b1 l1 k1)):=fun wi k=>by rw [k.cell 0,hds];rfl
 have D1:Hid (∀ wi,Bi wi f ds 46→wi.cell? ⟨f,1,none⟩=some (.slice b2 l2 k2)):=fun wi k=>by rw [k.cell 1,hds];rfl
 have D2:Hid (∀ wi,Bi wi f ds 46→wi.cell? ⟨f,2,none⟩=some (.slice b3 l3 k3)):=fun wi k=>by rw [k.cell 2,hds];rfl
 have CF:Hid (∀ wi,Bi wi g cs 46→wi.rangeAt g 3 [Iz (x 0).1,I (x 0).2.1,I (x 0).2.2,Iz (x 1).1,I (x 1).2.1,I (x 1).2.2,Iz (x 2).1,I (x 2).2.1,I (x 2).2.2,Iz (x 3).1,I (x 3).2.1,I (x 3).2.2,Iz (x 4).1,I (x 4).2.1,I (x 4).2.2,Iz (x 5).1,I (x 5).2.1,I (x 5).2.2]):=fun wi k=>by have:=Dm k 3 18;rw [hcs] at this;exact this
 have CG:Hid (∀ wi,Bi wi g cs 46→wi.rangeAt g 21 [Iz (y 0).1,I (y 0).2.1,I (y 0).2.2,Iz (y 1).1,I (y 1).2.1,I (y 1).2.2,Iz (y 2).1,I (y 2).2.1,I (y 2).2.2,Iz (y 3).1,I (y 3).2.1,I (y 3).2.2,Iz (y 4).1,I (y 4).2.1,I (y 4).2.2,Iz (y 5).1,I (y 5).2.1,I (y 5).2.2]):=fun wi k=>by have:=Dm k 21 18;rw [hcs] at this;exact this
 have DF:Hid (∀ wi,Bi wi f ds 46→wi.rangeAt f 3 [Iz (x' 0).1,I (x' 0).2.1,I (x' 0).2.2,Iz (x' 1).1,I (x' 1).2.1,I (x' 1).2.2,Iz (x' 2).1,I (x' 2).2.1,I (x' 2).2.2,Iz (x' 3).1,I (x' 3).2.1,I (x' 3).2.2,Iz (x' 4).1,I (x' 4).2.1,I (x' 4).2.2,Iz (x' 5).1,I (x' 5).2.1,I (x' 5).2.2]):=fun wi k=>by have:=Dm k 3 18;rw [hds] at this;exact this
 have DG:Hid (∀ wi,Bi wi f ds 46→wi.rangeAt f 21 [Iz (y' 0).1,I (y' 0).2.1,I (y' 0).2.2,Iz (y' 1).1,I (y' 1).2.1,I (y' 1).2.2,Iz (y' 2).1,I (y' 2).2.1,I (y' 2).2.2,Iz (y' 3).1,I (y' 3).2.1,I (y' 3).2.2,Iz (y' 4).1,I (y' 4).2.1,I (y' 4).2.2,Iz (y' 5).1,I (y' 5).2.1,I (y' 5).2.2]):=fun wi k=>by have:=Dm k 21 18;rw [hds] at this;exact this
 have Hg:=Ba hg
 clear hcs hds hg hf
 generalize Value.agg #[.slice a1 n1 m1,.slice a2 n2 m2,.slice a3 n3 m3,Iz (x 0).1,I (x 0).2.1,I (x 0).2.2,Iz (x 1).1,I (x 1).2.1,I (x 1).2.2,Iz (x 2).1,I (x 2).2.1,I (x 2).2.2,Iz (x 3).1,I (x 3).2.1,I (x 3).2.2,Iz (x 4).1,I (x 4).2.1,I (x 4).2.2,Iz (x 5).1,I (x 5).2.1,I (x 5).2.2,Iz (y 0).1,I (y 0).2.1,I (y 0).2.2,Iz (y 1).1,I (y 1).2.1,I (y 1).2.2,Iz (y 2).1,I (y 2).2.1,I (y 2).2.2,Iz (y 3).1,I (y 3).2.1,I (y 3).2.2,Iz (y 4).1,I (y 4).2.1,I (y 4).2.2,Iz (y 5).1,I (y 5).2.1,I (y 5).2.2]=V0
 generalize Value.agg #[.slice b1 l1 k1,.slice b2 l2 k2,.slice b3 l3 k3,Iz (x' 0).1,I (x' 0).2.1,I (x' 0).2.2,Iz (x' 1).1,I (x' 1).2.1,I (x' 1).2.2,Iz (x' 2).1,I (x' 2).2.1,I (x' 2).2.2,Iz (x' 3).1,I (x' 3).2.1,I (x' 3).2.2,Iz (x' 4).1,I (x' 4).2.1,I (x' 4).2.2,Iz (x' 5).1,I (x' 5).2.1,I (x' 5).2.2,Iz (y' 0).1,I (y' 0).2.1,I (y' 0).2.2,Iz (y' 1).1,I (y' 1).2.1,I (y' 1).2.2,Iz (y' 2).1,I (y' 2).2.1,I (y' 2).2.2,Iz (y' 3).1,I (y' 3).2.1,I (y' 3).2.2,Iz (y' 4).1,I (y' 4).2.1,I (y' 4).2.2,Iz (y' 5).1,I (y' 5).2.1,I (y' 5).2.2]=V1
 have c0:=C0.out _ kz'
 have d0:=D0.out _ ky'
 cases v1 with
 | false =>
  clear EF EG
  go_wp2_with (go_at_call 103;go_fit (P1.out w0 b0);rintro e w1 ⟨rfl,b1⟩;have B1:=Ia b0 b1;have kz1:=kz'.b b1;have ky1:=ky'.b b1;have c1:=C1.out _ kz1;have d1:=D1.out _ ky1)
  go_ret
  exact ⟨rfl,B1⟩
 | true =>
  cases v2 with
  | false =>
   clear EF EG
   go_wp2_with (first | (go_at_call 103;go_fit (P1.out w0 b0);rintro e w1 ⟨rfl,b1⟩;have B1:=Ia b0 b1;have kz1:=kz'.b b1;have ky1:=ky'.b b1;have c1:=C1.out _ kz1;have d1:=D1.out _ ky1) | (go_at_call 104;refine (P2.out w1 B1).mono ?_;rintro e w2 ⟨rfl,b2⟩;have B2:=Ia B1 b2;have kz2:=kz1.b b2;have ky2:=ky1.b b2;have c2:=C2.out _ kz2;have d2:=D2.out _ ky2))
   go_ret
   exact ⟨rfl,B2⟩
  | true =>
   cases v3 with
   | false =>
    clear EF EG
    go_wp2_with (first | (go_at_call 103;first | (go_fit (P1.out w0 b0);rintro e w1 ⟨rfl,b1⟩;have B1:=Ia b0 b1;have kz1:=kz'.b b1;have ky1:=ky'.b b1;have c1:=C1.out _ kz1;have d1:=D1.out _ ky1) | (go_fit (P3.out w2 B2);rintro e w3 ⟨rfl,b3⟩;have B3:=Ia B2 b3;have kz3:=kz2.b b3;have ky3:=ky2.b b3;have cf:=CF.out _ kz3;have cg:=CG.out _ kz3;have df:=DF.out _ ky3;have dh:=DG.out _ ky3)) | (go_at_call 104;refine (P2.out w1 B1).mono ?_;rintro e w2 ⟨rfl,b2⟩;have B2:=Ia B1 b2;have kz2:=kz1.b b2;have ky2:=ky1.b b2;have c2:=C2.out _ kz2;have d2:=D2.out _ ky2))
    go_ret
    exact ⟨rfl,B3⟩
   | true =>
    cases f1 with
    | false =>
     clear EG
     go_wp2_with (first | (go_at_call 103;first | (go_fit (P1.out w0 b0);rintro e w1 ⟨rfl,b1⟩;have B1:=Ia b0 b1;have kz1:=kz'.b b1;have ky1:=ky'.b b1;have c1:=C1.out _ kz1;have d1:=D1.out _ ky1) | (go_fit (P3.out w2 B2);rintro e w3 ⟨rfl,b3⟩;have B3:=Ia B2 b3;have kz3:=kz2.b b3;have ky3:=ky2.b b3;have cf:=CF.out _ kz3;have cg:=CG.out _ kz3;have df:=DF.out _ ky3;have dh:=DG.out _ ky3)) | (go_at_call 104;refine (P2.out w1 B1).mono ?_;rintro e w2 ⟨rfl,b2⟩;have B2:=Ia B1 b2;have kz2:=kz1.b b2;have ky2:=ky1.b b2;have c2:=C2.out _ kz2;have d2:=D2.out _ ky2) | (refine Bg (by rfl) 28 _ rfl g 3 rfl [Iz (x 0).1,I (x 0).2.1,I (x 0).2.2,Iz (x 1).1,I (x 1).2.1,I (x 1).2.2,Iz (x 2).1,I (x 2).2.1,I (x 2).2.2,Iz (x 3).1,I (x 3).2.1,I (x 3).2.2,Iz (x 4).1,I (x 4).2.1,I (x 4).2.2,Iz (x 5).1,I (x 5).2.1,I (x 5).2.2] _ cf Tryz.underlying28 rfl (by kernel_rfl) ?_) | (refine Bg (by rfl) 28 _ rfl f 3 rfl [Iz (x' 0).1,I (x' 0).2.1,I (x' 0).2.2,Iz (x' 1).1,I (x' 1).2.1,I (x' 1).2.2,Iz (x' 2).1,I (x' 2).2.1,I (x' 2).2.2,Iz (x' 3).1,I (x' 3).2.1,I (x' 3).2.2,Iz (x' 4).1,I (x' 4).2.1,I (x' 4).2.2,Iz (x' 5).1,I (x' 5).2.1,I (x' 5).2.2] _ df Tryz.underlying28 rfl (by kernel_rfl) ?_) | (refine Bg (by rfl) 28 _ rfl g 21 rfl [Iz (y 0).1,I (y 0).2.1,I (y 0).2.2,Iz (y 1).1,I (y 1).2.1,I (y 1).2.2,Iz (y 2).1,I (y 2).2.1,I (y 2).2.2,Iz (y 3).1,I (y 3).2.1,I (y 3).2.2,Iz (y 4).1,I (y 4).2.1,I (y 4).2.2,Iz (y 5).1,I (y 5).2.1,I (y 5).2.2] _ cg Tryz.underlying28 rfl (by kernel_rfl) ?_) | (refine Bg (by rfl) 28 _ rfl f 21 rfl [Iz (y' 0).1,I (y' 0).2.1,I (y' 0).2.2,Iz (y' 1).1,I (y' 1).2.1,I (y' 1).2.2,Iz (y' 2).1,I (y' 2).2.1,I (y' 2).2.2,Iz (y' 3).1,I (y' 3).2.1,I (y' 3).2.2,Iz (y' 4).1,I (y' 4).2.1,I (y' 4).2.2,Iz (y' 5).1,I (y' 5).2.1,I (y' 5).2.2] _ dh Tryz.underlying28 rfl (by kernel_rfl) ?_))
     go_ret
     exact ⟨rfl,B3⟩
    | true =>
     cases f2 with
     | false =>
      go_wp2_with (first | (go_at_call 103;first | (go_fit (P1.out w0 b0);rintro e w1 ⟨rfl,b1⟩;have B1:=Ia b0 b1;have kz1:=kz'.b b1;have ky1:=ky'.b b1;have c1:=C1.out _ kz1;have d1:=D1.out _ ky1) | (go_fit (P3.out w2 B2);rintro e w3 ⟨rfl,b3⟩;have B3:=Ia B2 b3;have kz3:=kz2.b b3;have ky3:=ky2.b b3;have cf:=CF.out _ kz3;have cg:=CG.out _ kz3;have df:=DF.out _ ky3;have dh:=DG.out _ ky3)) | (go_at_call 104;refine (P2.out w1 B1).mono ?_;rintro e w2 ⟨rfl,b2⟩;have B2:=Ia B1 b2;have kz2:=kz1.b b2;have ky2:=ky1.b b2;have c2:=C2.out _ kz2;have d2:=D2.out _ ky2) | (refine Bg (by rfl) 28 _ rfl g 3 rfl [Iz (x 0).1,I (x 0).2.1,I (x 0).2.2,Iz (x 1).1,I (x 1).2.1,I (x 1).2.2,Iz (x 2).1,I (x 2).2.1,I (x 2).2.2,Iz (x 3).1,I (x 3).2.1,I (x 3).2.2,Iz (x 4).1,I (x 4).2.1,I (x 4).2.2,Iz (x 5).1,I (x 5).2.1,I (x 5).2.2] _ cf Tryz.underlying28 rfl (by kernel_rfl) ?_) | (refine Bg (by rfl) 28 _ rfl f 3 rfl [Iz (x' 0).1,I (x' 0).2.1,I (x' 0).2.2,Iz (x' 1).1,I (x' 1).2.1,I (x' 1).2.2,Iz (x' 2).1,I (x' 2).2.1,I (x' 2).2.2,Iz (x' 3).1,I (x' 3).2.1,I (x' 3).2.2,Iz (x' 4).1,I (x' 4).2.1,I (x' 4).2.2,Iz (x' 5).1,I (x' 5).2.1,I (x' 5).2.2] _ df Tryz.underlying28 rfl (by kernel_rfl) ?_) | (refine Bg (by rfl) 28 _ rfl g 21 rfl [Iz (y 0).1,I (y 0).2.1,I (y 0).2.2,Iz (y 1).1,I (y 1).2.1,I (y 1).2.2,Iz (y 2).1,I (y 2).2.1,I (y 2).2.2,Iz (y 3).1,I (y 3).2.1,I (y 3).2.2,Iz (y 4).1,I (y 4).2.1,I (y 4).2.2,Iz (y 5).1,I (y 5).2.1,I (y 5).2.2] _ cg Tryz.underlying28 rfl (by kernel_rfl) ?_) | (refine Bg (by rfl) 28 _ rfl f 21 rfl [Iz (y' 0).1,I (y' 0).2.1,I (y' 0).2.2,Iz (y' 1).1,I (y' 1).2.1,I (y' 1).2.2,Iz (y' 2).1,I (y' 2).2.1,I (y' 2).2.2,Iz (y' 3).1,I (y' 3).2.1,I (y' 3).2.2,Iz (y' 4).1,I (y' 4).2.1,I (y' 4).2.2,Iz (y' 5).1,I (y' 5).2.1,I (y' 5).2.2] _ dh Tryz.underlying28 rfl (by kernel_rfl) ?_))
      go_ret
      exact ⟨rfl,B3⟩
     | true =>
      go_wp2_with (first | (go_at_call 103;first | (go_fit (P1.out w0 b0);rintro e w1 ⟨rfl,b1⟩;have B1:=Ia b0 b1;have kz1:=kz'.b b1;have ky1:=ky'.b b1;have c1:=C1.out _ kz1;have d1:=D1.out _ ky1) | (go_fit (P3.out w2 B2);rintro e w3 ⟨rfl,b3⟩;have B3:=Ia B2 b3;have kz3:=kz2.b b3;have ky3:=ky2.b b3;have cf:=CF.out _ kz3;have cg:=CG.out _ kz3;have df:=DF.out _ ky3;have dh:=DG.out _ ky3)) | (go_at_call 104;refine (P2.out w1 B1).mono ?_;rintro e w2 ⟨rfl,b2⟩;have B2:=Ia B1 b2;have kz2:=kz1.b b2;have ky2:=ky1.b b2;have c2:=C2.out _ kz2;have d2:=D2.out _ ky2) | (refine Bg (by rfl) 28 _ rfl g 3 rfl [Iz (x 0).1,I (x 0).2.1,I (x 0).2.2,Iz (x 1).1,I (x 1).2.1,I (x 1).2.2,Iz (x 2).1,I (x 2).2.1,I (x 2).2.2,Iz (x 3).1,I (x 3).2.1,I (x 3).2.2,Iz (x 4).1,I (x 4).2.1,I (x 4).2.2,Iz (x 5).1,I (x 5).2.1,I (x 5).2.2] _ cf Tryz.underlying28 rfl (by kernel_rfl) ?_) | (refine Bg (by rfl) 28 _ rfl f 3 rfl [Iz (x' 0).1,I (x' 0).2.1,I (x' 0).2.2,Iz (x' 1).1,I (x' 1).2.1,I (x' 1).2.2,Iz (x' 2).1,I (x' 2).2.1,I (x' 2).2.2,Iz (x' 3).1,I (x' 3).2.1,I (x' 3).2.2,Iz (x' 4).1,I (x' 4).2.1,I (x' 4).2.2,Iz (x' 5).1,I (x' 5).2.1,I (x' 5).2.2] _ df Tryz.underlying28 rfl (by kernel_rfl) ?_) | (refine Bg (by rfl) 28 _ rfl g 21 rfl [Iz (y 0).1,I (y 0).2.1,I (y 0).2.2,Iz (y 1).1,I (y 1).2.1,I (y 1).2.2,Iz (y 2).1,I (y 2).2.1,I (y 2).2.2,Iz (y 3).1,I (y 3).2.1,I (y 3).2.2,Iz (y 4).1,I (y 4).2.1,I (y 4).2.2,Iz (y 5).1,I (y 5).2.1,I (y 5).2.2] _ cg Tryz.underlying28 rfl (by kernel_rfl) ?_) | (refine Bg (by rfl) 28 _ rfl f 21 rfl [Iz (y' 0).1,I (y' 0).2.1,I (y' 0).2.2,Iz (y' 1).1,I (y' 1).2.1,I (y' 1).2.2,Iz (y' 2).1,I (y' 2).2.1,I (y' 2).2.2,Iz (y' 3).1,I (y' 3).2.1,I (y' 3).2.2,Iz (y' 4).1,I (y' 4).2.1,I (y' 4).2.2,Iz (y' 5).1,I (y' 5).2.1,I (y' 5).2.2] _ dh Tryz.underlying28 rfl (by kernel_rfl) ?_))
      go_ret
      exact ⟨rfl,B3⟩
theorem Bmx (v1 v2 v3 f1 f2:Bool) (a1 a2 a3 b1 b2 b3:Option Addr) (n1 n2 n3 m1 m2 m3 l1 l2 l3 k1 k2 k3:Nat) (x y x' y':Nat→Q3) (w:World)
  (P1:Hid (∀ wi,Below w.heap.size w wi→Calls Tryz.prog 50 #[.slice a1 n1 m1,.slice b1 l1 k1] wi (Re wi (Iz v1))))
  (P2:Hid (∀ wi,Below w.heap.size w wi→Calls Tryz.prog 51 #[.slice a2 n2 m2,.slice b2 l2 k2] wi (Re wi (Iz v2))))
  (P3:Hid (∀ wi,Below w.heap.size w wi→Calls Tryz.prog 50 #[.slice a3 n3 m3,.slice b3 l3 k3] wi (Re wi (Iz v3))))
  (EF:∀ w1,(Op.equalIn 10000 28 (.agg #[Iz (x 0).1,I (x 0).2.1,I (x 0).2.2,Iz (x 1).1,I (x 1).2.1,I (x 1).2.2,Iz (x 2).1,I (x 2).2.1,I (x 2).2.2,Iz (x 3).1,I (x 3).2.1,I (x 3).2.2,Iz (x 4).1,I (x 4).2.1,I (x 4).2.2,Iz (x 5).1,I (x 5).2.1,I (x 5).2.2]) (.agg #[Iz (x' 0).1,I (x' 0).2.1,I (x' 0).2.2,Iz (x' 1).1,I (x' 1).2.1,I (x' 1).2.2,Iz (x' 2).1,I (x' 2).2.1,I (x' 2).2.2,Iz (x' 3).1,I (x' 3).2.1,I (x' 3).2.2,Iz (x' 4).1,I (x' 4).2.1,I (x' 4).2.2,Iz (x' 5).1,I (x' 5).2.1,I (x' 5).2.2])).run Tryz.prog w1=.ok f1 w1)
  (EG:∀ w1,(Op.equalIn 10000 28 (.agg #[Iz (y 0).1,I (y 0).2.1,I (y 0).2.2,Iz (y 1).1,I (y 1).2.1,I (y 1).2.2,Iz (y 2).1,I (y 2).2.1,I (y 2).2.2,Iz (y 3).1,I (y 3).2.1,I (y 3).2.2,Iz (y 4).1,I (y 4).2.1,I (y 4).2.2,Iz (y 5).1,I (y 5).2.1,I (y 5).2.2]) (.agg #[Iz (y' 0).1,I (y' 0).2.1,I (y' 0).2.2,Iz (y' 1).1,I (y' 1).2.1,I (y' 1).2.2,Iz (y' 2).1,I (y' 2).2.1,I (y' 2).2.2,Iz (y' 3).1,I (y' 3).2.1,I (y' 3).2.2,Iz (y' 4).1,I (y' 4).2.1,I (y' 4).2.2,Iz (y' 5).1,I (y' 5).2.1,I (y' 5).2.2])).run Tryz.prog w1=.ok f2 w1) :
  Calls Tryz.prog 20 #[.agg #[.slice a1 n1 m1,.slice a2 n2 m2,.slice a3 n3 m3,Iz (x 0).1,I (x 0).2.1,I (x 0).2.2,Iz (x 1).1,I (x 1).2.1,I (x 1).2.2,Iz (x 2).1,I (x 2).2.1,I (x 2).2.2,Iz (x 3).1,I (x 3).2.1,I (x 3).2.2,Iz (x 4).1,I (x 4).2.1,I (x 4).2.2,Iz (x 5).1,I (x 5).2.1,I (x 5).2.2,Iz (y 0).1,I (y 0).2.1,I (y 0).2.2,Iz (y 1).1,I (y 1).2.1,I (y 1).2.2,Iz (y 2).1,I (y 2).2.1,I (y 2).2.2,Iz (y 3).1,I (y 3).2.1,I (y 3).2.2,Iz (y 4).1,I (y 4).2.1,I (y 4).2.2,Iz (y 5).1,I (y 5).2.1,I (y 5).2.2],.agg #[.slice b1 l1 k1,.slice b2 l2 k2,.slice b3 l3 k3,Iz (x' 0).1,I (x' 0).2.1,I (x' 0).2.2,Iz (x' 1).1,I (x' 1).2.1,I (x' 1).2.2,Iz (x' 2).1,I (x' 2).2.1,I (x' 2).2.2,Iz (x' 3).1,I (x' 3).2.1,I (x' 3).2.2,Iz (x' 4).1,I (x' 4).2.1,I (x' 4).2.2,Iz (x' 5).1,I (x' 5).2.1,I (x' 5).2.2,Iz (y' 0).1,I (y' 0).2.1,I (y' 0).2.2,Iz (y' 1).1,I (y' 1).2.1,I (y' 1).2.2,Iz (y' 2).1,I (y' 2).2.1,I (y' 2).2.2,Iz (y' 3).1,I (y' 3).2.1,I (y' 3).2.2,Iz (y' 4).1,I (y' 4).2.1,I (y' 4).2.2,Iz (y' 5).1,I (y' 5).2.1,I (y' 5).2.2]] w (Re w (Iz (v1 && v2 && v3 && f1 && f2))):=by
 go_enter Tryz.func20,Tryz.ntmps20
 go_upto_region 1 with fail
 obtain ⟨w0,hq,kz,ky,b0⟩:=Yu w [.slice a1 n1 m1,.slice a2 n2 m2,.slice a3 n3 m3,Iz (x 0).1,I (x 0).2.1,I (x 0).2.2,Iz (x 1).1,I (x 1).2.1,I (x 1).2.2,Iz (x 2).1,I (x 2).2.1,I (x 2).2.2,Iz (x 3).1,I (x 3).2.1,I (x 3).2.2,Iz (x 4).1,I (x 4).2.1,I (x 4).2.2,Iz (x 5).1,I (x 5).2.1,I (x 5).2.2,Iz (y 0).1,I (y 0).2.1,I (y 0).2.2,Iz (y 1).1,I (y 1).2.1,I (y 1).2.2,Iz (y 2).1,I (y 2).2.1,I (y 2).2.2,Iz (y 3).1,I (y 3).2.1,I (y 3).2.2,Iz (y 4).1,I (y 4).2.1,I (y 4).2.2,Iz (y 5).1,I (y 5).2.1,I (y 5).2.2] [.slice b1 l1 k1,.slice b2 l2 k2,.slice b3 l3 k3,Iz (x' 0).1,I (x' 0).2.1,I (x' 0).2.2,Iz (x' 1).1,I (x' 1).2.1,I (x' 1).2.2,Iz (x' 2).1,I (x' 2).2.1,I (x' 2).2.2,Iz (x' 3).1,I (x' 3).2.1,I (x' 3).2.2,Iz (x' 4).1,I (x' 4).2.1,I (x' 4).2.2,Iz (x' 5).1,I (x' 5).2.1,I (x' 5).2.2,Iz (y' 0).1,I (y' 0).2.1,I (y' 0).2.2,Iz (y' 1).1,I (y' 1).2.1,I (y' 1).2.2,Iz (y' 2).1,I (y' 2).2.1,I (y' 2).2.2,Iz (y' 3).1,I (y' 3).2.1,I (y' 3).2.2,Iz (y' 4).1,I (y' 4).2.1,I (y' 4).2.2,Iz (y' 5).1,I (y' 5).2.1,I (y' 5).2.2] 46 46
 rw [← hq]
 clear hq
 have kz':Bi w0 w.heap.size (Dq (.slice a1 n1 m1) (.slice a2 n2 m2) (.slice a3 n3 m3) (C4 x) (C4 y)) 46:=kz
 have ky':Bi w0 (w.heap.size+1) (Dq (.slice b1 l1 k1) (.slice b2 l2 k2) (.slice b3 l3 k3) (C4 x') (C4 y')) 46:=ky
 clear kz ky
 obtain ⟨cs,hcs⟩:∃ cs:List Value,cs=Dq (.slice a1 n1 m1) (.slice a2 n2 m2) (.slice a3 n3 m3) (C4 x) (C4 y):=⟨_,rfl⟩
 obtain ⟨ds,hds⟩:∃ ds:List Value,ds=Dq (.slice b1 l1 k1) (.slice b2 l2 k2) (.slice b3 l3 k3) (C4 x') (C4 y'):=⟨_,rfl⟩
 rw [← hcs] at kz'
 rw [← hds] at ky'
 obtain ⟨g,hg⟩:∃ g,g=w.heap.size:=⟨_,rfl⟩
 rw [← hg] at kz' ky' ⊢
 obtain ⟨f,hf⟩:∃ f,f=g+1:=⟨_,rfl⟩
 rw [← hf] at ky' ⊢
 have C0:Hid (∀ wi,Bi wi g cs 46→wi.cell? ⟨g,0,none⟩=some (.slice a1 n1 m1)):=fun wi k=>by rw [k.cell 0,hcs];rfl
 have C1:Hid (∀ wi,Bi wi g cs 46→wi.cell? ⟨g,1,none⟩=some (.slice a2 n2 m2)):=fun wi k=>by rw [k.cell 1,hcs];rfl
 have C2:Hid (∀ wi,Bi wi g cs 46→wi.cell? ⟨g,2,none⟩=some (.slice a3 n3 m3)):=fun wi k=>by rw [k.cell 2,hcs];rfl
 have D0:Hid (∀ wi,Bi wi f ds 46→wi.cell? ⟨f,0,none⟩=some (.slice b1 l1 k1)):=fun wi k=>by rw [k.cell 0,hds];rfl
 have D1:Hid (∀ wi,Bi wi f ds 46→wi.cell? ⟨f,1,none⟩=some (.slice b2 l2 k2)):=fun wi k=>by rw [k.cell 1,hds];rfl
 have D2:Hid (∀ wi,Bi wi f ds 46→wi.cell? ⟨f,2,none⟩=some (.slice b3 l3 k3)):=fun wi k=>by rw [k.cell 2,hds];rfl
 have CF:Hid (∀ wi,Bi wi g cs 46→wi.rangeAt g 3 [Iz (x 0).1,I (x 0).2.1,I (x 0).2.2,Iz (x 1).1,I (x 1).2.1,I (x 1).2.2,Iz (x 2).1,I (x 2).2.1,I (x 2).2.2,Iz (x 3).1,I (x 3).2.1,I (x 3).2.2,Iz (x 4).1,I (x 4).2.1,I (x 4).2.2,Iz (x 5).1,I (x 5).2.1,I (x 5).2.2]):=fun wi k=>by have:=Dm k 3 18;rw [hcs] at this;exact this
 have CG:Hid (∀ wi,Bi wi g cs 46→wi.rangeAt g 21 [Iz (y 0).1,I (y 0).2.1,I (y 0).2.2,Iz (y 1).1,I (y 1).2.1,I (y 1).2.2,Iz (y 2).1,I (y 2).2.1,I (y 2).2.2,Iz (y 3).1,I (y 3).2.1,I (y 3).2.2,Iz (y 4).1,I (y 4).2.1,I (y 4).2.2,Iz (y 5).1,I (y 5).2.1,I (y 5).2.2]):=fun wi k=>by have:=Dm k 21 18;rw [hcs] at this;exact this
 have DF:Hid (∀ wi,Bi wi f ds 46→wi.rangeAt f 3 [Iz (x' 0).1,I (x' 0).2.1,I (x' 0).2.2,Iz (x' 1).1,I (x' 1).2.1,I (x' 1).2.2,Iz (x' 2).1,I (x' 2).2.1,I (x' 2).2.2,Iz (x' 3).1,I (x' 3).2.1,I (x' 3).2.2,Iz (x' 4).1,I (x' 4).2.1,I (x' 4).2.2,Iz (x' 5).1,I (x' 5).2.1,I (x' 5).2.2]):=fun wi k=>by have:=Dm k 3 18;rw [hds] at this;exact this
 have DG:Hid (∀ wi,Bi wi f ds 46→wi.rangeAt f 21 [Iz (y' 0).1,I (y' 0).2.1,I (y' 0).2.2,Iz (y' 1).1,I (y' 1).2.1,I (y' 1).2.2,Iz (y' 2).1,I (y' 2).2.1,I (y' 2).2.2,Iz (y' 3).1,I (y' 3).2.1,I (y' 3).2.2,Iz (y' 4).1,I (y' 4).2.1,I (y' 4).2.2,Iz (y' 5).1,I (y' 5).2.1,I (y' 5).2.2]):=fun wi k=>by have:=Dm k 21 18;rw [hds] at this;exact this
 have Hg:=Ba hg
 clear hcs hds hg hf
 generalize Value.agg #[.slice a1 n1 m1,.slice a2 n2 m2,.slice a3 n3 m3,Iz (x 0).1,I (x 0).2.1,I (x 0).2.2,Iz (x 1).1,I (x 1).2.1,I (x 1).2.2,Iz (x 2).1,I (x 2).2.1,I (x 2).2.2,Iz (x 3).1,I (x 3).2.1,I (x 3).2.2,Iz (x 4).1,I (x 4).2.1,I (x 4).2.2,Iz (x 5).1,I (x 5).2.1,I (x 5).2.2,Iz (y 0).1,I (y 0).2.1,I (y 0).2.2,Iz (y 1).1,I (y 1).2.1,I (y 1).2.2,Iz (y 2).1,I (y 2).2.1,I (y 2).2.2,Iz (y 3).1,I (y 3).2.1,I (y 3).2.2,Iz (y 4).1,I (y 4).2.1,I (y 4).2.2,Iz (y 5).1,I (y 5).2.1,I (y 5).2.2]=V0
 generalize Value.agg #[.slice b1 l1 k1,.slice b2 l2 k2,.slice b3 l3 k3,Iz (x' 0).1,I (x' 0).2.1,I (x' 0).2.2,Iz (x' 1).1,I (x' 1).2.1,I (x' 1).2.2,Iz (x' 2).1,I (x' 2).2.1,I (x' 2).2.2,Iz (x' 3).1,I (x' 3).2.1,I (x' 3).2.2,Iz (x' 4).1,I (x' 4).2.1,I (x' 4).2.2,Iz (x' 5).1,I (x' 5).2.1,I (x' 5).2.2,Iz (y' 0).1,I (y' 0).2.1,I (y' 0).2.2,Iz (y' 1).1,I (y' 1).2.1,I (y' 1).2.2,Iz (y' 2).1,I (y' 2).2.1,I (y' 2).2.2,Iz (y' 3).1,I (y' 3).2.1,I (y' 3).2.2,Iz (y' 4).1,I (y' 4).2.1,I (y' 4).2.2,Iz (y' 5).1,I (y' 5).2.1,I (y' 5).2.2]=V1
 have c0:=C0.out _ kz'
 have d0:=D0.out _ ky'
 cases v1 with
 | false =>
  clear EF EG
  go_wp2_with (go_at_call 50;go_fit (P1.out w0 b0);rintro e w1 ⟨rfl,b1⟩;have B1:=Ia b0 b1;have kz1:=kz'.b b1;have ky1:=ky'.b b1;have c1:=C1.out _ kz1;have d1:=D1.out _ ky1)
  go_ret
  exact ⟨rfl,B1⟩
 | true =>
  cases v2 with
  | false =>
   clear EF EG
   go_wp2_with (first | (go_at_call 50;go_fit (P1.out w0 b0);rintro e w1 ⟨rfl,b1⟩;have B1:=Ia b0 b1;have kz1:=kz'.b b1;have ky1:=ky'.b b1;have c1:=C1.out _ kz1;have d1:=D1.out _ ky1) | (go_at_call 51;refine (P2.out w1 B1).mono ?_;rintro e w2 ⟨rfl,b2⟩;have B2:=Ia B1 b2;have kz2:=kz1.b b2;have ky2:=ky1.b b2;have c2:=C2.out _ kz2;have d2:=D2.out _ ky2))
   go_ret
   exact ⟨rfl,B2⟩
  | true =>
   cases v3 with
   | false =>
    clear EF EG
    go_wp2_with (first | (go_at_call 50;first | (go_fit (P1.out w0 b0);rintro e w1 ⟨rfl,b1⟩;have B1:=Ia b0 b1;have kz1:=kz'.b b1;have ky1:=ky'.b b1;have c1:=C1.out _ kz1;have d1:=D1.out _ ky1) | (go_fit (P3.out w2 B2);rintro e w3 ⟨rfl,b3⟩;have B3:=Ia B2 b3;have kz3:=kz2.b b3;have ky3:=ky2.b b3;have cf:=CF.out _ kz3;have cg:=CG.out _ kz3;have df:=DF.out _ ky3;have dh:=DG.out _ ky3)) | (go_at_call 51;refine (P2.out w1 B1).mono ?_;rintro e w2 ⟨rfl,b2⟩;have B2:=Ia B1 b2;have kz2:=kz1.b b2;have ky2:=ky1.b b2;have c2:=C2.out _ kz2;have d2:=D2.out _ ky2))
    go_ret
    exact ⟨rfl,B3⟩
   | true =>
    cases f1 with
    | false =>
     clear EG
     go_wp2_with (first | (go_at_call 50;first | (go_fit (P1.out w0 b0);rintro e w1 ⟨rfl,b1⟩;have B1:=Ia b0 b1;have kz1:=kz'.b b1;have ky1:=ky'.b b1;have c1:=C1.out _ kz1;have d1:=D1.out _ ky1) | (go_fit (P3.out w2 B2);rintro e w3 ⟨rfl,b3⟩;have B3:=Ia B2 b3;have kz3:=kz2.b b3;have ky3:=ky2.b b3;have cf:=CF.out _ kz3;have cg:=CG.out _ kz3;have df:=DF.out _ ky3;have dh:=DG.out _ ky3)) | (go_at_call 51;refine (P2.out w1 B1).mono ?_;rintro e w2 ⟨rfl,b2⟩;have B2:=Ia B1 b2;have kz2:=kz1.b b2;have ky2:=ky1.b b2;have c2:=C2.out _ kz2;have d2:=D2.out _ ky2) | (refine Bg (by rfl) 28 _ rfl g 3 rfl [Iz (x 0).1,I (x 0).2.1,I (x 0).2.2,Iz (x 1).1,I (x 1).2.1,I (x 1).2.2,Iz (x 2).1,I (x 2).2.1,I (x 2).2.2,Iz (x 3).1,I (x 3).2.1,I (x 3).2.2,Iz (x 4).1,I (x 4).2.1,I (x 4).2.2,Iz (x 5).1,I (x 5).2.1,I (x 5).2.2] _ cf Tryz.underlying28 rfl (by kernel_rfl) ?_) | (refine Bg (by rfl) 28 _ rfl f 3 rfl [Iz (x' 0).1,I (x' 0).2.1,I (x' 0).2.2,Iz (x' 1).1,I (x' 1).2.1,I (x' 1).2.2,Iz (x' 2).1,I (x' 2).2.1,I (x' 2).2.2,Iz (x' 3).1,I (x' 3).2.1,I (x' 3).2.2,Iz (x' 4).1,I (x' 4).2.1,I (x' 4).2.2,Iz (x' 5).1,I (x' 5).2.1,I (x' 5).2.2] _ df Tryz.underlying28 rfl (by kernel_rfl) ?_) | (refine Bg (by rfl) 28 _ rfl g 21 rfl [Iz (y 0).1,I (y 0).2.1,I (y 0).2.2,Iz (y 1).1,I (y 1).2.1,I (y 1).2.2,Iz (y 2).1,I (y 2).2.1,I (y 2).2.2,Iz (y 3).1,I (y 3).2.1,I (y 3).2.2,Iz (y 4).1,I (y 4).2.1,I (y 4).2.2,Iz (y 5).1,I (y 5).2.1,I (y 5).2.2] _ cg Tryz.underlying28 rfl (by kernel_rfl) ?_) | (refine Bg (by rfl) 28 _ rfl f 21 rfl [Iz (y' 0).1,I (y' 0).2.1,I (y' 0).2.2,Iz (y' 1).1,I (y' 1).2.1,I (y' 1).2.2,Iz (y' 2).1,I (y' 2).2.1,I (y' 2).2.2,Iz (y' 3).1,I (y' 3).2.1,I (y' 3).2.2,Iz (y' 4).1,I (y' 4).2.1,I (y' 4).2.2,Iz (y' 5).1,I (y' 5).2.1,I (y' 5).2.2] _ dh Tryz.underlying28 rfl (by kernel_rfl) ?_))
     go_ret
     exact ⟨rfl,B3⟩
    | true =>
     cases f2 with
     | false =>
      go_wp2_with (first | (go_at_call 50;first | (go_fit (P1.out w0 b0);rintro e w1 ⟨rfl,b1⟩;have B1:=Ia b0 b1;have kz1:=kz'.b b1;have ky1:=ky'.b b1;have c1:=C1.out _ kz1;have d1:=D1.out _ ky1) | (go_fit (P3.out w2 B2);rintro e w3 ⟨rfl,b3⟩;have B3:=Ia B2 b3;have kz3:=kz2.b b3;have ky3:=ky2.b b3;have cf:=CF.out _ kz3;have cg:=CG.out _ kz3;have df:=DF.out _ ky3;have dh:=DG.out _ ky3)) | (go_at_call 51;refine (P2.out w1 B1).mono ?_;rintro e w2 ⟨rfl,b2⟩;have B2:=Ia B1 b2;have kz2:=kz1.b b2;have ky2:=ky1.b b2;have c2:=C2.out _ kz2;have d2:=D2.out _ ky2) | (refine Bg (by rfl) 28 _ rfl g 3 rfl [Iz (x 0).1,I (x 0).2.1,I (x 0).2.2,Iz (x 1).1,I (x 1).2.1,I (x 1).2.2,Iz (x 2).1,I (x 2).2.1,I (x 2).2.2,Iz (x 3).1,I (x 3).2.1,I (x 3).2.2,Iz (x 4).1,I (x 4).2.1,I (x 4).2.2,Iz (x 5).1,I (x 5).2.1,I (x 5).2.2] _ cf Tryz.underlying28 rfl (by kernel_rfl) ?_) | (refine Bg (by rfl) 28 _ rfl f 3 rfl [Iz (x' 0).1,I (x' 0).2.1,I (x' 0).2.2,Iz (x' 1).1,I (x' 1).2.1,I (x' 1).2.2,Iz (x' 2).1,I (x' 2).2.1,I (x' 2).2.2,Iz (x' 3).1,I (x' 3).2.1,I (x' 3).2.2,Iz (x' 4).1,I (x' 4).2.1,I (x' 4).2.2,Iz (x' 5).1,I (x' 5).2.1,I (x' 5).2.2] _ df Tryz.underlying28 rfl (by kernel_rfl) ?_) | (refine Bg (by rfl) 28 _ rfl g 21 rfl [Iz (y 0).1,I (y 0).2.1,I (y 0).2.2,Iz (y 1).1,I (y 1).2.1,I (y 1).2.2,Iz (y 2).1,I (y 2).2.1,I (y 2).2.2,Iz (y 3).1,I (y 3).2.1,I (y 3).2.2,Iz (y 4).1,I (y 4).2.1,I (y 4).2.2,Iz (y 5).1,I (y 5).2.1,I (y 5).2.2] _ cg Tryz.underlying28 rfl (by kernel_rfl) ?_) | (refine Bg (by rfl) 28 _ rfl f 21 rfl [Iz (y' 0).1,I (y' 0).2.1,I (y' 0).2.2,Iz (y' 1).1,I (y' 1).2.1,I (y' 1).2.2,Iz (y' 2).1,I (y' 2).2.1,I (y' 2).2.2,Iz (y' 3).1,I (y' 3).2.1,I (y' 3).2.2,Iz (y' 4).1,I (y' 4).2.1,I (y' 4).2.2,Iz (y' 5).1,I (y' 5).2.1,I (y' 5).2.2] _ dh Tryz.underlying28 rfl (by kernel_rfl) ?_))
      go_ret
      exact ⟨rfl,B3⟩
     | true =>
      go_wp2_with (first | (go_at_call 50;first | (go_fit (P1.out w0 b0);rintro e w1 ⟨rfl,b1⟩;have B1:=Ia b0 b1;have kz1:=kz'.b b1;have ky1:=ky'.b b1;have c1:=C1.out _ kz1;have d1:=D1.out _ ky1) | (go_fit (P3.out w2 B2);rintro e w3 ⟨rfl,b3⟩;have B3:=Ia B2 b3;have kz3:=kz2.b b3;have ky3:=ky2.b b3;have cf:=CF.out _ kz3;have cg:=CG.out _ kz3;have df:=DF.out _ ky3;have dh:=DG.out _ ky3)) | (go_at_call 51;refine (P2.out w1 B1).mono ?_;rintro e w2 ⟨rfl,b2⟩;have B2:=Ia B1 b2;have kz2:=kz1.b b2;have ky2:=ky1.b b2;have c2:=C2.out _ kz2;have d2:=D2.out _ ky2) | (refine Bg (by rfl) 28 _ rfl g 3 rfl [Iz (x 0).1,I (x 0).2.1,I (x 0).2.2,Iz (x 1).1,I (x 1).2.1,I (x 1).2.2,Iz (x 2).1,I (x 2).2.1,I (x 2).2.2,Iz (x 3).1,I (x 3).2.1,I (x 3).2.2,Iz (x 4).1,I (x 4).2.1,I (x 4).2.2,Iz (x 5).1,I (x 5).2.1,I (x 5).2.2] _ cf Tryz.underlying28 rfl (by kernel_rfl) ?_) | (refine Bg (by rfl) 28 _ rfl f 3 rfl [Iz (x' 0).1,I (x' 0).2.1,I (x' 0).2.2,Iz (x' 1).1,I (x' 1).2.1,I (x' 1).2.2,Iz (x' 2).1,I (x' 2).2.1,I (x' 2).2.2,Iz (x' 3).1,I (x' 3).2.1,I (x' 3).2.2,Iz (x' 4).1,I (x' 4).2.1,I (x' 4).2.2,Iz (x' 5).1,I (x' 5).2.1,I (x' 5).2.2] _ df Tryz.underlying28 rfl (by kernel_rfl) ?_) | (refine Bg (by rfl) 28 _ rfl g 21 rfl [Iz (y 0).1,I (y 0).2.1,I (y 0).2.2,Iz (y 1).1,I (y 1).2.1,I (y 1).2.2,Iz (y 2).1,I (y 2).2.1,I (y 2).2.2,Iz (y 3).1,I (y 3).2.1,I (y 3).2.2,Iz (y 4).1,I (y 4).2.1,I (y 4).2.2,Iz (y 5).1,I (y 5).2.1,I (y 5).2.2] _ cg Tryz.underlying28 rfl (by kernel_rfl) ?_) | (refine Bg (by rfl) 28 _ rfl f 21 rfl [Iz (y' 0).1,I (y' 0).2.1,I (y' 0).2.2,Iz (y' 1).1,I (y' 1).2.1,I (y' 1).2.2,Iz (y' 2).1,I (y' 2).2.1,I (y' 2).2.2,Iz (y' 3).1,I (y' 3).2.1,I (y' 3).2.2,Iz (y' 4).1,I (y' 4).2.1,I (y' 4).2.2,Iz (y' 5).1,I (y' 5).2.1,I (y' 5).2.2] _ dh Tryz.underlying28 rfl (by kernel_rfl) ?_))
      go_ret
      exact ⟨rfl,B3⟩
theorem Bgo (A1 A3 B1 B3:List (Q3 × Q3)) (A2 B2:List (Int × Int × Bool)) (a1 a2 a3 b1 b2 b3:Option Addr) (n1 n2 n3 m1 m2 m3 l1 l2 l3 k1 k2 k3:Nat) (x y x' y':Nat→Q3) (w:World) (h1:A1.length≤100000) (h2:A2.length≤100000) (h3:A3.length≤100000)
  (r1:B9 w 6 (.slice a1 n1 m1) (A1.map cP)) (r2:B9 w 3 (.slice a2 n2 m2) (A2.map cZ)) (r3:B9 w 6 (.slice a3 n3 m3) (A3.map cP)) (s1:B9 w 6 (.slice b1 l1 k1) (B1.map cP)) (s2:B9 w 3 (.slice b2 l2 k2) (B2.map cZ)) (s3:B9 w 6 (.slice b3 l3 k3) (B3.map cP)) :
  Calls Tryz.prog 53 #[.agg #[.slice a1 n1 m1,.slice a2 n2 m2,.slice a3 n3 m3,Iz (x 0).1,I (x 0).2.1,I (x 0).2.2,Iz (x 1).1,I (x 1).2.1,I (x 1).2.2,Iz (x 2).1,I (x 2).2.1,I (x 2).2.2,Iz (x 3).1,I (x 3).2.1,I (x 3).2.2,Iz (x 4).1,I (x 4).2.1,I (x 4).2.2,Iz (x 5).1,I (x 5).2.1,I (x 5).2.2,Iz (y 0).1,I (y 0).2.1,I (y 0).2.2,Iz (y 1).1,I (y 1).2.1,I (y 1).2.2,Iz (y 2).1,I (y 2).2.1,I (y 2).2.2,Iz (y 3).1,I (y 3).2.1,I (y 3).2.2,Iz (y 4).1,I (y 4).2.1,I (y 4).2.2,Iz (y 5).1,I (y 5).2.1,I (y 5).2.2],.agg #[.slice b1 l1 k1,.slice b2 l2 k2,.slice b3 l3 k3,Iz (x' 0).1,I (x' 0).2.1,I (x' 0).2.2,Iz (x' 1).1,I (x' 1).2.1,I (x' 1).2.2,Iz (x' 2).1,I (x' 2).2.1,I (x' 2).2.2,Iz (x' 3).1,I (x' 3).2.1,I (x' 3).2.2,Iz (x' 4).1,I (x' 4).2.1,I (x' 4).2.2,Iz (x' 5).1,I (x' 5).2.1,I (x' 5).2.2,Iz (y' 0).1,I (y' 0).2.1,I (y' 0).2.2,Iz (y' 1).1,I (y' 1).2.1,I (y' 1).2.2,Iz (y' 2).1,I (y' 2).2.1,I (y' 2).2.2,Iz (y' 3).1,I (y' 3).2.1,I (y' 3).2.2,Iz (y' 4).1,I (y' 4).2.1,I (y' 4).2.2,Iz (y' 5).1,I (y' 5).2.1,I (y' 5).2.2]] w (Re w (Iz (decide (A1=B1) && decide (A2=B2) && decide (A3=B3) && decide ([x 0,x 1,x 2,x 3,x 4,x 5]=[x' 0,x' 1,x' 2,x' 3,x' 4,x' 5]) && decide ([y 0,y 1,y 2,y 3,y 4,y 5]=[y' 0,y' 1,y' 2,y' 3,y' 4,y' 5])))) :=
 Bm2 _ _ _ _ _ a1 a2 a3 b1 b2 b3 n1 n2 n3 m1 m2 m3 l1 l2 l3 k1 k2 k3 x y x' y' w (fun wi b=>Bbq _ _ A1 B1 h1 wi (r1.b b) (s1.b b)) (fun wi b=>Bjb _ _ A2 B2 h2 wi (r2.b b) (s2.b b)) (fun wi b=>Bbq _ _ A3 B3 h3 wi (r3.b b) (s3.b b)) (Ql x x') (Ql y y')
theorem Bf3 (A1 A3 B1 B3:List (Q3 × Q3)) (A2 B2:List (Int × Int × Bool)) (a1 a2 a3 b1 b2 b3:Option Addr) (n1 n2 n3 m1 m2 m3 l1 l2 l3 k1 k2 k3:Nat) (x y x' y':Nat→Q3) (w:World) (h1:A1.length≤100000) (h2:A2.length≤100000) (h3:A3.length≤100000)
  (r1:B9 w 6 (.slice a1 n1 m1) (A1.map cP)) (r2:B9 w 3 (.slice a2 n2 m2) (A2.map cZ)) (r3:B9 w 6 (.slice a3 n3 m3) (A3.map cP)) (s1:B9 w 6 (.slice b1 l1 k1) (B1.map cP)) (s2:B9 w 3 (.slice b2 l2 k2) (B2.map cZ)) (s3:B9 w 6 (.slice b3 l3 k3) (B3.map cP)) :
  Calls Tryz.prog 20 #[.agg #[.slice a1 n1 m1,.slice a2 n2 m2,.slice a3 n3 m3,Iz (x 0).1,I (x 0).2.1,I (x 0).2.2,Iz (x 1).1,I (x 1).2.1,I (x 1).2.2,Iz (x 2).1,I (x 2).2.1,I (x 2).2.2,Iz (x 3).1,I (x 3).2.1,I (x 3).2.2,Iz (x 4).1,I (x 4).2.1,I (x 4).2.2,Iz (x 5).1,I (x 5).2.1,I (x 5).2.2,Iz (y 0).1,I (y 0).2.1,I (y 0).2.2,Iz (y 1).1,I (y 1).2.1,I (y 1).2.2,Iz (y 2).1,I (y 2).2.1,I (y 2).2.2,Iz (y 3).1,I (y 3).2.1,I (y 3).2.2,Iz (y 4).1,I (y 4).2.1,I (y 4).2.2,Iz (y 5).1,I (y 5).2.1,I (y 5).2.2],.agg #[.slice b1 l1 k1,.slice b2 l2 k2,.slice b3 l3 k3,Iz (x' 0).1,I (x' 0).2.1,I (x' 0).2.2,Iz (x' 1).1,I (x' 1).2.1,I (x' 1).2.2,Iz (x' 2).1,I (x' 2).2.1,I (x' 2).2.2,Iz (x' 3).1,I (x' 3).2.1,I (x' 3).2.2,Iz (x' 4).1,I (x' 4).2.1,I (x' 4).2.2,Iz (x' 5).1,I (x' 5).2.1,I (x' 5).2.2,Iz (y' 0).1,I (y' 0).2.1,I (y' 0).2.2,Iz (y' 1).1,I (y' 1).2.1,I (y' 1).2.2,Iz (y' 2).1,I (y' 2).2.1,I (y' 2).2.2,Iz (y' 3).1,I (y' 3).2.1,I (y' 3).2.2,Iz (y' 4).1,I (y' 4).2.1,I (y' 4).2.2,Iz (y' 5).1,I (y' 5).2.1,I (y' 5).2.2]] w (Re w (Iz (decide (A1=B1) && decide (A2=B2) && decide (A3=B3) && decide ([x 0,x 1,x 2,x 3,x 4,x 5]=[x' 0,x' 1,x' 2,x' 3,x' 4,x' 5]) && decide ([y 0,y 1,y 2,y 3,y 4,y 5]=[y' 0,y' 1,y' 2,y' 3,y' 4,y' 5])))) :=
 Bmx _ _ _ _ _ a1 a2 a3 b1 b2 b3 n1 n2 n3 m1 m2 m3 l1 l2 l3 k1 k2 k3 x y x' y' w (fun wi b=>Tq _ _ A1 B1 h1 wi (r1.b b) (s1.b b)) (fun wi b=>Bdj _ _ A2 B2 h2 wi (r2.b b) (s2.b b)) (fun wi b=>Tq _ _ A3 B3 h3 wi (r3.b b) (s3.b b)) (Ql x x') (Ql y y')
def zS (s:Nat × Nat × Bool):Int × Int × Bool:=((s.1:Int),(s.2.1:Int),s.2.2)
theorem Vi (l:List (Nat × Nat × Bool)):l.map cS=(l.map zS).map cZ:=by
 rw [List.map_map]
 rfl
theorem Bjd (p:Pl) (F F' G G':List Q3) (h:F=F') (k:G=G'):(decide (p.pts=p.pts) && decide (p.segs.map zS=p.segs.map zS) && decide (p.holes=p.holes) && decide (F=F') && decide (G=G'))=true:=by
 subst h k
 simp only [decide_true,Bool.and_self]
theorem Bgm (p:Pl) (cs ds:List Value) (B C:Nat) (w:World) (h:Co w B cs p) (k:Co w C ds p) (h1:p.pts.length≤100000) (h2:p.segs.length≤100000) (h3:p.holes.length≤100000) :
  Calls Tryz.prog 53 #[.agg cs.toArray,.agg ds.toArray] w (Re w (Iz true)):=by
 obtain ⟨v1,v2,v3,x,y,rfl,o1,o2,o3,hF,hG⟩:=h
 obtain ⟨u1,u2,u3,x',y',rfl,q1,q2,q3,kF,kG⟩:=k
 have r1:=B9.of cP D7 o1
 have r2:=B9.of cS Pf o2
 have r3:=B9.of cP D7 o3
 have s1:=B9.of cP D7 q1
 have s2:=B9.of cS Pf q2
 have s3:=B9.of cP D7 q3
 rw [Vi] at r2 s2
 obtain ⟨a1,c1,rfl⟩:=By o1
 obtain ⟨a2,c2,rfl⟩:=By o2
 obtain ⟨a3,c3,rfl⟩:=By o3
 obtain ⟨b1,d1,rfl⟩:=By q1
 obtain ⟨b2,d2,rfl⟩:=By q2
 obtain ⟨b3,d3,rfl⟩:=By q3
 have q:=Bgo p.pts p.holes p.pts p.holes (p.segs.map zS) (p.segs.map zS) a1 a2 a3 b1 b2 b3 _ _ _ c1 c2 c3 _ _ _ d1 d2 d3 x y x' y' w h1 (by rw [List.length_map];exact h2) h3 r1 r2 r3 s1 s2 s3
 rw [Bjd p _ _ _ _ (hF.symm.trans kF) (hG.symm.trans kG)] at q
 exact q
theorem Xb (P:ByteArray→Q3) (E:ByteArray→Int) (hP:PR P E) (s:ByteArray) (w:World) (aL:Addr) (h:Na w aL) :
  Calls Tryz.prog 42 #[I s] w fun e w'=>∃ (cs:List Value) (er:Value) (p:Pl),e=.returned (.tuple #[.agg cs.toArray,er])∧Co w' w.heap.size cs p∧Below w.heap.size w w' ∧
   ((Fi P E s).2=0→p=(Fi P E s).1∧er=.nilIface)∧((Fi P E s).2≠0→∃ q,er=.iface 132 (.pointer (some ⟨q,0,none⟩))):=by
 unfold Fi
 by_cases hs:20000<s.size
 ·rw [if_pos hs]
  refine (Tz s w hs aL h.sens.1.2.2.1).mono ?_
  rintro e w' ⟨p,z,rfl,kp,b⟩
  exact ⟨Z39,_,Ys,rfl,Ej _ _,b,(fun h=>by cases h),fun _=>⟨p,rfl⟩⟩
 ·rw [if_neg hs]
  refine (Bbv P E hP s w (by omega) aL h.sens h.tab h.tabB).mono ?_
  rintro e w' ⟨v1,v2,v3,er,x,y,rfl,o1,o2,o3,hF,hG,hok,hbad,b⟩
  have hp:=O5 o1 o2 o3 hF hG
  unfold Qb rpl
  generalize (r1 P E (Cy s)).1=A1 at *
  generalize (r2 P E (Cy s)).1=A2 at *
  generalize (r3 P E (Cy s)).1=A3 at *
  generalize (r4 P E (Cy s)).1=A4 at *
  generalize (r5 P E (Cy s)).1=A5 at *
  generalize r6 P E (Cy s)=A6 at *
  by_cases h6:A6=some []
  ·rw [if_pos h6]
   obtain rfl:=hok h6
   exact ⟨_,_,_,rfl,hp,b,fun _=>⟨rfl,rfl⟩,fun h=>absurd rfl h⟩
  ·rw [if_neg h6]
   obtain ⟨p,z,a,rfl,-⟩:=hbad h6
   exact ⟨_,_,_,rfl,hp,b,(fun h=>by cases h),fun _=>⟨p,rfl⟩⟩
theorem Bf1 (R:Nat) (st:RS) (n:Nat) (hn:n≤1000) (m:Int) (hm0:0≤m) (hm1:m≤1000000) (w:World) (hR:R<w.heap.size) (h:Hq w R st) :
  Calls Tryz.prog 48 #[.pointer (some ⟨R,0,none⟩),.int .i64 (n:Nat),.int .i64 m] w fun e w'=>∃ v,e=.returned v ∧
   w'.ownsRow w.heap.size 103 3 v (Fg (Wb (m - 1)) n st).1.length ((Fg (Wb (m - 1)) n st).1.flatMap cS)∧Hq w' R (Fg (Wb (m - 1)) n st).2∧Br R w w':=by
 have HN:=Ba (fun w1 st1=>Ly R st1 (m - 1) w1)
 have HX:=Ba (fun w1 st1=>Nn R st1 w1)
 go_enter Tryz.func48,Tryz.ntmps48
 go_wp2_with fail
 go_loopw [7,8] (fun v i wr=>∃ (k:Nat) (D:List (Nat × Nat × Bool)) (s1:RS),k≤n∧i=.int .i64 (k:Nat)∧wr.ownsRow w.heap.size 103 3 v D.length (D.flatMap cS)∧D.length≤k∧Hq wr R s1∧Br R w wr∧Hid (RpI (Wb (m - 1)) n st k D s1)) (fun _ i _=>n - (intOf i).toNat)
 case atStart=>exact ⟨0,[],st,Nat.zero_le _,rfl,World.ownsRow_nil _ _ _ _,Jb _,h,Br.refl _ _,rfl⟩
 case round =>
  obtain ⟨k,D,s1,hk,rfl,ho,hD,kr,G,HI⟩:=hrel
  have c1:wr.cell? ⟨R,1,none⟩=some (Iz s1.2):=kr.elim fun v hv=>hv.1.cell 1
  by_cases hgo:k<n∧s1.2=false
  ·obtain ⟨hlt,hb⟩:=hgo
   have hlt':(k:Int)<(n:Int):=by omega
   have HS:=Ba (HI.out.step hlt hb)
   rw [hb] at c1
   obtain ⟨x,hx⟩:∃ q,q=(Gf (m - 1) s1).1:=⟨_,rfl⟩
   obtain ⟨s2,hs2⟩:∃ q,q=(Gf (m - 1) s1).2:=⟨_,rfl⟩
   obtain ⟨y,hy⟩:∃ q,q=(Gf (m - 1) s2).1:=⟨_,rfl⟩
   obtain ⟨s3,hs3⟩:∃ q,q=(Gf (m - 1) s2).2:=⟨_,rfl⟩
   obtain ⟨t,ht⟩:∃ q,q=(Kc s3).1:=⟨_,rfl⟩
   obtain ⟨s4,hs4⟩:∃ q,q=(Kc s3).2:=⟨_,rfl⟩
   have hp:Wb (m - 1) s1=((x,y,decide (t=tD)),(s4.1,s4.2 || decide (t≠tD∧t≠tN))):=by unfold Wb kdR;rw [← hx,← hs2,← hy,← hs3,← ht,← hs4]
   rw [hp] at HS
   have N1:=HN.out wr s1 (Jl hR G.size) kr
   rw [← hx,← hs2] at N1
   have N2:=Ba (fun w1 (hl:R<w1.heap.size) (k2:Hq w1 R s2)=>HN.out w1 s2 hl k2)
   rw [← hy,← hs3] at N2
   have N3:=Ba (fun w1 (hl:R<w1.heap.size) (k2:Hq w1 R s3)=>HX.out w1 s3 hl k2)
   rw [← ht,← hs4] at N3
   clear hx hs2 hy hs3 ht hs4 hp HI hb
   go_upto_region 6 with (go_at_call 47;refine N1.mono ?_;rintro e w3 ⟨rfl,k3,g3⟩)
   have G3:=G.trans g3
   go_upto_region 7 with (go_at_call 47;refine (N2.out _ (Jl hR G3.size) k3).mono ?_;rintro e w4 ⟨rfl,k4,g4⟩)
   have G4:=G3.trans g4
   go_upto_region 8 with (go_at_call 94;refine (N3.out _ (Jl hR G4.size) k4).mono ?_;rintro e w5 ⟨rfl,k5,g5⟩)
   have G5:=G4.trans g5
   have ho5:=Bo ho ((g3.trans g4).trans g5) hR
   clear N1 N2 N3 k3 k4 g3 g4 g5 G3 G4 ho G kr c1
   by_cases hd:t=tD
   ·replace HS:Hid (RpI (Wb (m - 1)) n st (k+1) (D ++ [(x,y,true)]) s4):=by
     have:=HS.out
     rw [show decide (t=tD)=true from decide_eq_true hd,show decide (t≠tD∧t≠tN)=false from decide_eq_false (fun h=>h.1 hd),Bool.or_false] at this
     exact this
    subst hd
    have G6:=G5
    have ho6:=ho5
    clear G5 ho5
    go_wp2_with (refine Ex 44 103 (.agg #[.int .i64 0,.int .i64 0,Iz false]) 3 24 Tryz.underlying44 (by kernel_rfl) rfl (by decide) (by decide) rfl (.tmp 43) (.tmp 49) rfl _ D.length _ rfl w.heap.size (ho6.alloc _) (Jf G6.size (by simp)) w5.heap.size 1 rfl [.int .i64 (x:Nat),.int .i64 (y:Nat),Iz true] 103 (Bi.new _ _ _) rfl (by simp [Value.oneCell']) (by omega) ?_;intro v' w7 h7 g7)
    go_roundw
    case rel =>
     have ho3:=ho6.alloc (.cells #[.int .i64 (x:Nat),.int .i64 (y:Nat),Iz true] 103)
     have b7:=(Jg w5.heap.size w5).alloc (Jb _) (.cells #[.int .i64 (x:Nat),.int .i64 (y:Nat),Iz true] 103)
     refine ⟨k+1,D ++ [(x,y,true)],s4,by omega,by go_num,?_,by simp;omega,?_,(G6.trans (Ib b7)).grown g7 (fun g hg=>(ho3.lt g hg).1),HS⟩
     ·rw [Ji,List.flatMap_append]
      exact h7
     ·exact (k5.grew (Jl hR G6.size) b7).grown hR g7 (fun g hg=>(ho3.lt g hg).1)
    case measure=>simp [intOf];omega
   ·have q1:(t.toList == [100])=false:=neL hd
    by_cases hn':t=tN
    ·replace HS:Hid (RpI (Wb (m - 1)) n st (k+1) (D ++ [(x,y,false)]) s4):=by
      have:=HS.out
      rw [show decide (t=tD)=false from decide_eq_false hd,show decide (t≠tD∧t≠tN)=false from decide_eq_false (fun h=>h.2 hn'),Bool.or_false] at this
      exact this
     subst hn'
     have G6:=G5
     have ho6:=ho5
     clear G5 ho5 q1 hd
     go_wp2_with (refine Ex 44 103 (.agg #[.int .i64 0,.int .i64 0,Iz false]) 3 24 Tryz.underlying44 (by kernel_rfl) rfl (by decide) (by decide) rfl (.tmp 43) (.tmp 49) rfl _ D.length _ rfl w.heap.size (ho6.alloc _) (Jf G6.size (by simp)) w5.heap.size 1 rfl [.int .i64 (x:Nat),.int .i64 (y:Nat),Iz false] 103 (Bi.new _ _ _) rfl (by simp [Value.oneCell']) (by omega) ?_;intro v' w7 h7 g7)
     go_roundw
     case rel =>
      have ho3:=ho6.alloc (.cells #[.int .i64 (x:Nat),.int .i64 (y:Nat),Iz false] 103)
      have b7:=(Jg w5.heap.size w5).alloc (Jb _) (.cells #[.int .i64 (x:Nat),.int .i64 (y:Nat),Iz false] 103)
      refine ⟨k+1,D ++ [(x,y,false)],s4,by omega,by go_num,?_,by simp;omega,?_,(G6.trans (Ib b7)).grown g7 (fun g hg=>(ho3.lt g hg).1),HS⟩
      ·rw [Ji,List.flatMap_append]
       exact h7
      ·exact (k5.grew (Jl hR G6.size) b7).grown hR g7 (fun g hg=>(ho3.lt g hg).1)
     case measure=>simp [intOf];omega
    ·have q2:(t.toList == [110])=false:=neL hn'
     replace HS:Hid (RpI (Wb (m - 1)) n st (k+1) (D ++ [(x,y,false)]) (s4.1,true)):=by
      have:=HS.out
      rw [show decide (t=tD)=false from decide_eq_false hd,show decide (t≠tD∧t≠tN)=true from decide_eq_true ⟨hd,hn'⟩,Bool.or_true] at this
      exact this
     have f1:w5.frozen? ⟨R,1,none⟩=false:=k5.elim fun v hv=>Bi.o hv.1 1
     have c5:w5.cell? ⟨R,1,none⟩=some (Iz s4.2):=k5.elim fun v hv=>hv.1.cell 1
     go_upto_region 10 with fail
     obtain ⟨k6,g6⟩:=k5.bad
     have G6:=G5.trans g6
     have ho6:=Bo ho5 g6 hR
     clear G5 ho5 hd hn' f1 c5 k5 g6
     generalize w5.setCell _ _=w6 at *
     go_wp2_with (refine Ex 44 103 (.agg #[.int .i64 0,.int .i64 0,Iz false]) 3 24 Tryz.underlying44 (by kernel_rfl) rfl (by decide) (by decide) rfl (.tmp 43) (.tmp 49) rfl _ D.length _ rfl w.heap.size (ho6.alloc _) (Jf G6.size (by simp)) w6.heap.size 1 rfl [.int .i64 (x:Nat),.int .i64 (y:Nat),Iz false] 103 (Bi.new _ _ _) rfl (by simp [Value.oneCell']) (by omega) ?_;intro v' w7 h7 g7)
     go_roundw
     case rel =>
      have ho3:=ho6.alloc (.cells #[.int .i64 (x:Nat),.int .i64 (y:Nat),Iz false] 103)
      have b7:=(Jg w6.heap.size w6).alloc (Jb _) (.cells #[.int .i64 (x:Nat),.int .i64 (y:Nat),Iz false] 103)
      refine ⟨k+1,D ++ [(x,y,false)],(s4.1,true),by omega,by go_num,?_,by simp;omega,?_,(G6.trans (Ib b7)).grown g7 (fun g hg=>(ho3.lt g hg).1),HS⟩
      ·rw [Ji,List.flatMap_append]
       exact h7
      ·exact (k6.grew (Jl hR G6.size) b7).grown hR g7 (fun g hg=>(ho3.lt g hg).1)
     case measure=>simp [intOf];omega
  ·have hst:=HI.out.stop (show n≤k∨s1.2=true by
    cases hb:s1.2 with
    | true=>exact Or.inr rfl
    | false=>exact Or.inl (Nat.le_of_not_lt fun h=>hgo ⟨h,hb⟩))
   have HST:=Ba hst
   have hcase:(k:Int)<(n:Int)∧s1.2=true∨¬ (k:Int)<(n:Int):=by
    by_cases h:k<n
    ·refine Or.inl ⟨by omega,?_⟩
     cases hb:s1.2 with
     | true=>rfl
     | false=>exact absurd ⟨h,hb⟩ hgo
    ·exact Or.inr (by omega)
   clear hst HI hgo HN HX
   rcases hcase with ⟨h1,h2⟩ | h1
   ·rw [h2] at c1
    go_wp2
    go_ret
    exact ⟨_,rfl,by rw [HST.out];exact ho,by rw [HST.out];exact kr,G⟩
   ·go_wp2
    go_ret
    exact ⟨_,rfl,by rw [HST.out];exact ho,by rw [HST.out];exact kr,G⟩
theorem Bcv (f:Nat × Operand→Nat × Value):(Tryz.prog.built 46 ((#[]:Array (Nat × Operand)).map f).toList).getD #[]=#[Bs,Bs,Bs,Iz false,I eS,I eS,Iz false,I eS,I eS,Iz false,I eS,I eS,Iz false,I eS,I eS,Iz false,I eS,I eS,Iz false,I eS,I eS,Iz false,I eS,I eS,Iz false,I eS,I eS,Iz false,I eS,I eS,Iz false,I eS,I eS,Iz false,I eS,I eS,Iz false,I eS,I eS]:=by kernel_rfl
theorem Bdm (P:ByteArray→Q3) (E:ByteArray→Int) (hP:PR3 P E) (s:ByteArray) (w:World) (hs:s.size≤20000) :
  Calls Tryz.prog 19 #[I s] w fun e w'=>∃ cs:List Value,e=.returned (.tuple #[.agg cs.toArray,.int .i64 (if q6 P E (Cy s)=([],false) then 0 else 4)]) ∧
   Co w' w.heap.size cs (if q6 P E (Cy s)=([],false) then qpl P E (Cy s) else Ys)∧Below w.heap.size w w':=by
 have hs':¬ (s.size:Int) > 20000:=by omega
 have htl:(Cy s).length≤100000:=by have:=Uu s s.size 0 0;unfold Cy;omega
 have htz:∀ t,t∈Cy s→t.size≤100000:=fun t h=>by have:=Nh s t _ _ _ h;omega
 go_enter Tryz.func19,Tryz.ntmps19
 go_upto_region 1 with fail
 obtain ⟨w0,hq,kz,b0⟩:=Es w [Bs,Bs,Bs,Iz false,I eS,I eS,Iz false,I eS,I eS,Iz false,I eS,I eS,Iz false,I eS,I eS,Iz false,I eS,I eS,Iz false,I eS,I eS,Iz false,I eS,I eS,Iz false,I eS,I eS,Iz false,I eS,I eS,Iz false,I eS,I eS,Iz false,I eS,I eS,Iz false,I eS,I eS] 46
 rw [← hq]
 clear hq
 go_upto_region 4 with (go_at_call 44;refine (Y9 s _ (by omega)).mono ?_;rintro e w1 ⟨v,rfl,ho,b1⟩;obtain ⟨aT,mT,rfl⟩:=By ho)
 have ts0:=kz.lt
 obtain ⟨w2,hq,kr,b2⟩:=Es w1 [.slice aT (Cy s).length mT,Iz false] 94
 rw [← hq]
 have E2:Hid (w2.heap.size=w1.heap.size+1):=by show w2.heap.size=_;rw [hq];simp
 clear hq
 have hTL:=TL.of ho (Jb _) htl b2
 go_upto_region 5 with fail
 obtain ⟨w3,hq,kp,b3⟩:=Es w2 [Bs,Bs,Bs,Iz false,I eS,I eS,Iz false,I eS,I eS,Iz false,I eS,I eS,Iz false,I eS,I eS,Iz false,I eS,I eS,Iz false,I eS,I eS,Iz false,I eS,I eS,Iz false,I eS,I eS,Iz false,I eS,I eS,Iz false,I eS,I eS,Iz false,I eS,I eS,Iz false,I eS,I eS] 46
 rw [← hq]
 clear hq
 obtain ⟨ts,hts⟩:∃ ts,ts=Cy s:=⟨_,rfl⟩
 rw [← hts] at kr htl htz hTL ⊢
 have HTS:=Ba hts
 clear hts
 have e2:=E2.out
 have hsz:=b1.size
 have R0:Hq w2 w1.heap.size (ts,false):=⟨_,kr,hTL,htz⟩
 have H3:RQ w w1.heap.size w2.heap.size (ts,false) Z39 w3 :=
  ⟨Jl (by omega) b3.size,R0.grew (by omega) b3,kp,((kz.b b1).b b2).b b3,Ia (Ia (Ia b0 b1) b2) b3,by omega,by omega⟩
 obtain ⟨Pb,hP'⟩:∃ R,R=w2.heap.size:=⟨_,rfl⟩
 rw [← hP'] at H3
 rw [← hP']
 obtain ⟨R,hR⟩:∃ R,R=w1.heap.size:=⟨_,rfl⟩
 rw [← hR] at H3
 rw [← hR]
 clear hR hP' kr kp kz b0 b1 b2 b3 e2 E2 ho ts0 htl htz hs hs' hsz hTL R0
 go_upto_region 6 with (go_at_call 45;refine (Gv R _ wP w3 H3.hR H3.rdr).mono ?_;rintro e w4 ⟨rfl,D,g⟩)
 have H4:=H3.grew g D
 clear H3 D g
 go_upto_region 7 with (go_at_call 45;refine (Gv R _ wV w4 H4.hR H4.rdr).mono ?_;rintro e w5 ⟨rfl,D,g⟩)
 have H5:=H4.grew g D
 clear H4 D g
 obtain ⟨st5,es5⟩:∃ q,q=Ss wV (Ss wP (ts,false)):=⟨_,rfl⟩
 have HS5:=Ba es5
 rw [← es5] at H5
 clear es5
 have HC:=Ba (Ly R _ 40 w5 H5.hR H5.rdr)
 obtain ⟨ρ1,e1⟩:∃ ρ,ρ=Fg (Wc P E) (Gf 40 st5).1 (Gf 40 st5).2:=⟨_,rfl⟩
 have HE1:Hid (ρ1=lsR (Wc P E) wV 40 (Ss wP (ts,false))):=by show ρ1=_;rw [e1,HS5.out];rfl
 have hc1:=Ba4 40 st5
 have hn1:ρ1.1.length≤1000:=by rw [e1];exact Ro _ _ _ _ (Nat.le_of_lt hc1)
 have HL:=Ba (fun wa (hl:R<wa.heap.size) (hr:Hq wa R (Gf 40 st5).2)=>Ri P E hP R (Gf 40 st5).2 (Gf 40 st5).1 (Nat.le_of_lt hc1) wa hl hr)
 rw [show Fg (Wc P E) (Gf 40 st5).1 (Gf 40 st5).2=ρ1 from e1.symm] at HL
 generalize (Gf 40 st5).1=c1 at *
 generalize (Gf 40 st5).2=u1 at *
 obtain ⟨n1,f1⟩:∃ n,n=ρ1.1.length:=⟨_,rfl⟩
 rw [← f1] at HL hn1
 have HF1:=Ba f1
 clear e1 f1
 go_upto_region 8 with (first | (go_at_call 47;refine HC.out.mono ?_;rintro e wa ⟨rfl,Da,ga⟩;have Ha:=H5.grew ga Da) | (go_at_call 46;refine (HL.out wa Ha.hR Ha.rdr).mono ?_;rintro e wb ⟨v,rfl,oN,Db,gb⟩;obtain ⟨a1,m1,rfl⟩:=By oN;have kp5:=Br.cel gb Ha.kp (by have:=Ha.hP;omega);have q0:wb.cell? ⟨Pb,0,none⟩=some Bs:=kp5.cell 0;have f0:=Bi.o kp5 0))
 have hPP:=H5.hP
 have Hb:=Ha.grew gb Db
 have o1:(wb.setCell ⟨Pb,0,none⟩ (.slice a1 n1 m1)).ownsRow (Pb+1) 30 6 (.slice a1 n1 m1) n1 (ρ1.1.flatMap cP):=Cf (Bv oN ((Bu.refl Pb wb).setCell 0 (.slice a1 n1 m1)) Ha.kp.lt) Ha.kp.lt
 have H6:RQ w R Pb ρ1.2 [.slice a1 n1 m1,Bs,Bs,Iz false,I eS,I eS,Iz false,I eS,I eS,Iz false,I eS,I eS,Iz false,I eS,I eS,Iz false,I eS,I eS,Iz false,I eS,I eS,Iz false,I eS,I eS,Iz false,I eS,I eS,Iz false,I eS,I eS,Iz false,I eS,I eS,Iz false,I eS,I eS,Iz false,I eS,I eS] (wb.setCell ⟨Pb,0,none⟩ (.slice a1 n1 m1)):=Hb.set 0 (.slice a1 n1 m1)
 clear H5 HC HL Ha Hb Da ga Db gb oN kp5 q0 f0
 generalize wb.setCell _ _=w6 at *
 go_upto_region 9 with (go_at_call 45;refine (Gv R _ wS w6 H6.hR H6.rdr).mono ?_;rintro e w7 ⟨rfl,D,g⟩)
 have H7:=H6.grew g D
 replace o1:=Bo o1 g (by have:=H6.hP;omega)
 clear H6 D g
 obtain ⟨st7,es7⟩:∃ q,q=Ss wS ρ1.2:=⟨_,rfl⟩
 have HS7:=Ba es7
 rw [← es7] at H7
 clear es7
 have HC:=Ba (fun wd (h:RQ w R Pb st7 [.slice a1 n1 m1,Bs,Bs,Iz false,I eS,I eS,Iz false,I eS,I eS,Iz false,I eS,I eS,Iz false,I eS,I eS,Iz false,I eS,I eS,Iz false,I eS,I eS,Iz false,I eS,I eS,Iz false,I eS,I eS,Iz false,I eS,I eS,Iz false,I eS,I eS,Iz false,I eS,I eS,Iz false,I eS,I eS] wd)=>Ly R _ 60 wd h.hR h.rdr)
 obtain ⟨ρ2,e2⟩:∃ ρ,ρ=Fg (Wb ((n1:Int) - 1)) (Gf 60 st7).1 (Gf 60 st7).2:=⟨_,rfl⟩
 have HE2:Hid (ρ2=lsR (Wb ((n1:Int) - 1)) wS 60 ρ1.2):=by show ρ2=_;rw [e2,HS7.out];rfl
 have hc2:=Ba4 60 st7
 have HL:=Ba (fun wa (hl:R<wa.heap.size) (hr:Hq wa R (Gf 60 st7).2)=>Bf1 R (Gf 60 st7).2 (Gf 60 st7).1 (Nat.le_of_lt hc2) (n1:Int) (by omega) (by omega) wa hl hr)
 rw [show Fg (Wb ((n1:Int) - 1)) (Gf 60 st7).1 (Gf 60 st7).2=ρ2 from e2.symm] at HL
 generalize (Gf 60 st7).1=c2 at *
 generalize (Gf 60 st7).2=u2 at *
 obtain ⟨n2,f2⟩:∃ n,n=ρ2.1.length:=⟨_,rfl⟩
 rw [← f2] at HL
 have HF2:=Ba f2
 clear e2 f2
 have H7':=H7.drew
 have hPP:=H7.hP
 replace o1:=Bo o1 (Br.drew' (R:=R)) (by omega)
 refine Jc (S:=fun w'=>w'.cell? ⟨Pb,0,none⟩=some (.slice a1 n1 m1)) (by kernel_rfl) (H7'.kp.cell 0) (fun hS=>?_)
 clear H7
 generalize w7.drew=wd at *
 refine WA.start (n:=9) (by kernel_rfl) ?_
 refine WA.tp 0 rfl ?_
 refine WA.tp 1 rfl ?_
 refine WA.tp 3 rfl ?_
 refine WA.tp 4 rfl ?_
 refine WA.tp 5 rfl ?_
 clear hS
 refine WA.cal 2 rfl (fun K hK=>?_)
 simp only [Jq]
 go_simp
 go_fit (HC.out wd H7')
 rintro e wa ⟨rfl,Da,ga⟩
 have Ha:=H7'.grew ga Da
 replace o1:=Bo o1 ga (by omega)
 try go_wp2_with fail
 refine hK.out _ _ (Ha.kp.cell 0) (fun hS=>?_)
 clear hK K hS
 refine WA.cal 6 rfl (fun K hK=>?_)
 simp only [Jq]
 go_simp
 go_fit (HL.out wa Ha.hR Ha.rdr)
 rintro e wb ⟨v,rfl,oN,Db,gb⟩
 obtain ⟨a2,m2,rfl⟩:=By oN
 have Hb:=Ha.grew gb Db
 replace o1:=Bo o1 gb (by omega)
 try go_wp2_with fail
 refine hK.out _ _ (Hb.kp.cell 0) (fun hS=>?_)
 clear hK K
 refine WA.tp 7 rfl ?_
 clear hS
 have q0:=Hb.kp.cell 1
 have f0:=Bi.o Hb.kp 1
 refine WA.cal 8 rfl (fun K hK=>?_)
 rw [if_pos (by rfl)]
 unfold Oper.wp execOp
 go_simp
 have H8:RQ w R Pb ρ2.2 [.slice a1 n1 m1,.slice a2 n2 m2,Bs,Iz false,I eS,I eS,Iz false,I eS,I eS,Iz false,I eS,I eS,Iz false,I eS,I eS,Iz false,I eS,I eS,Iz false,I eS,I eS,Iz false,I eS,I eS,Iz false,I eS,I eS,Iz false,I eS,I eS,Iz false,I eS,I eS,Iz false,I eS,I eS,Iz false,I eS,I eS] (wb.setCell ⟨Pb,1,none⟩ (.slice a2 n2 m2)):=Hb.set 1 (.slice a2 n2 m2)
 refine hK.out _ _ (H8.kp.cell 0) (fun hS=>?_)
 clear hK K
 refine WA.done (by kernel_rfl) ?_
 clear hS
 replace o1:=Bv o1 ((Bu.refl Pb wb).setCell 1 (.slice a2 n2 m2)) (by omega)
 have o2:(wb.setCell ⟨Pb,1,none⟩ (.slice a2 n2 m2)).ownsRow (Pb+1) 103 3 (.slice a2 n2 m2) n2 (ρ2.1.flatMap cS):=Cf (Bv oN ((Bu.refl Pb wb).setCell 1 (.slice a2 n2 m2)) Ha.kp.lt) Ha.kp.lt
 clear H7' HC HL Ha Hb Da ga Db gb oN q0 f0
 generalize wb.setCell _ _=w8 at *
 go_upto_region 11 with (go_at_call 45;refine (Gv R _ wH w8 H8.hR H8.rdr).mono ?_;rintro e w9 ⟨rfl,D,g⟩)
 have H9:=H8.grew g D
 replace o1:=Bo o1 g (by have:=H8.hP;omega)
 replace o2:=Bo o2 g (by have:=H8.hP;omega)
 clear H8 D g
 obtain ⟨st9,es9⟩:∃ q,q=Ss wH ρ2.2:=⟨_,rfl⟩
 have HS9:=Ba es9
 rw [← es9] at H9
 clear es9
 have HC:=Ba (Ly R _ 10 w9 H9.hR H9.rdr)
 obtain ⟨ρ3,e3⟩:∃ ρ,ρ=Fg (Wc P E) (Gf 10 st9).1 (Gf 10 st9).2:=⟨_,rfl⟩
 have HE3:Hid (ρ3=lsR (Wc P E) wH 10 ρ2.2):=by show ρ3=_;rw [e3,HS9.out];rfl
 have hc3:=Ba4 10 st9
 have hn3:ρ3.1.length≤1000:=by rw [e3];exact Ro _ _ _ _ (Nat.le_of_lt hc3)
 have HL:=Ba (fun wa (hl:R<wa.heap.size) (hr:Hq wa R (Gf 10 st9).2)=>Ri P E hP R (Gf 10 st9).2 (Gf 10 st9).1 (Nat.le_of_lt hc3) wa hl hr)
 rw [show Fg (Wc P E) (Gf 10 st9).1 (Gf 10 st9).2=ρ3 from e3.symm] at HL
 generalize (Gf 10 st9).1=c3 at *
 generalize (Gf 10 st9).2=u3 at *
 obtain ⟨n3,f3⟩:∃ n,n=ρ3.1.length:=⟨_,rfl⟩
 rw [← f3] at HL hn3
 have HF3:=Ba f3
 clear e3 f3
 go_upto_region 12 with (first | (go_at_call 47;refine HC.out.mono ?_;rintro e wa ⟨rfl,Da,ga⟩;have Ha:=H9.grew ga Da) | (go_at_call 46;refine (HL.out wa Ha.hR Ha.rdr).mono ?_;rintro e wb ⟨v,rfl,oN,Db,gb⟩;obtain ⟨a3,m3,rfl⟩:=By oN;have kp5:=Br.cel gb Ha.kp (by have:=Ha.hP;omega);have q0:wb.cell? ⟨Pb,2,none⟩=some Bs:=kp5.cell 2;have f0:=Bi.o kp5 2))
 have hPP:=H9.hP
 have Hb:=Ha.grew gb Db
 replace o1:=Bv (Bo (Bo o1 ga (by omega)) gb (by omega)) ((Bu.refl Pb wb).setCell 2 (.slice a3 n3 m3)) (by omega)
 replace o2:=Bv (Bo (Bo o2 ga (by omega)) gb (by omega)) ((Bu.refl Pb wb).setCell 2 (.slice a3 n3 m3)) (by omega)
 have o3:(wb.setCell ⟨Pb,2,none⟩ (.slice a3 n3 m3)).ownsRow (Pb+1) 30 6 (.slice a3 n3 m3) n3 (ρ3.1.flatMap cP):=Cf (Bv oN ((Bu.refl Pb wb).setCell 2 (.slice a3 n3 m3)) Ha.kp.lt) Ha.kp.lt
 have H10:RQ w R Pb ρ3.2 [.slice a1 n1 m1,.slice a2 n2 m2,.slice a3 n3 m3,Iz false,I eS,I eS,Iz false,I eS,I eS,Iz false,I eS,I eS,Iz false,I eS,I eS,Iz false,I eS,I eS,Iz false,I eS,I eS,Iz false,I eS,I eS,Iz false,I eS,I eS,Iz false,I eS,I eS,Iz false,I eS,I eS,Iz false,I eS,I eS,Iz false,I eS,I eS] (wb.setCell ⟨Pb,2,none⟩ (.slice a3 n3 m3)):=Hb.set 2 (.slice a3 n3 m3)
 clear H9 HC HL Ha Hb Da ga Db gb oN kp5 q0 f0
 generalize wb.setCell _ _=w10 at *
 go_upto_region 13 with (go_at_call 45;refine (Gv R _ wF w10 H10.hR H10.rdr).mono ?_;rintro e w11 ⟨rfl,D,g⟩)
 have H11:=H10.grew g D
 replace o1:=Bo o1 g (by have:=H10.hP;omega)
 replace o2:=Bo o2 g (by have:=H10.hP;omega)
 replace o3:=Bo o3 g (by have:=H10.hP;omega)
 clear H10 D g
 obtain ⟨st11,es11⟩:∃ q,q=Ss wF ρ3.2:=⟨_,rfl⟩
 have HS11:=Ba es11
 rw [← es11] at H11
 clear es11
 obtain ⟨x,tx,tx0,htx,hx1,hx2⟩:=Bl0 (Tb P E) st11
 have Hx1:=Ba hx1
 have Hx2:=Ba hx2
 have HD:Hq w11 R (tx 0):=by rw [tx0];exact H11.rdr
 have HL:=Ba (W5 P E hP R w11 x tx htx H11.hR HD)
 clear hx1 hx2 tx0 htx HD
 go_upto_region 14 with (first | (go_at_call 49;refine HL.out.mono ?_;rintro e wa ⟨rfl,Da,ga⟩;have kpa:=Br.cel ga H11.kp (by have:=H11.hP;omega)) | (refine Jk rfl 28 _ _ rfl Pb 3 #[Iz (x 0).1,I (x 0).2.1,I (x 0).2.2,Iz (x 1).1,I (x 1).2.1,I (x 1).2.2,Iz (x 2).1,I (x 2).2.1,I (x 2).2.2,Iz (x 3).1,I (x 3).2.1,I (x 3).2.2,Iz (x 4).1,I (x 4).2.1,I (x 4).2.2,Iz (x 5).1,I (x 5).2.1,I (x 5).2.2] rfl rfl (Blg kpa 3 18 (Nat.le_of_ble_eq_true rfl)) (by kernel_rfl) (by kernel_rfl) ?_))
 have hu:Wl [.slice a1 n1 m1,.slice a2 n2 m2,.slice a3 n3 m3,Iz false,I eS,I eS,Iz false,I eS,I eS,Iz false,I eS,I eS,Iz false,I eS,I eS,Iz false,I eS,I eS,Iz false,I eS,I eS,Iz false,I eS,I eS,Iz false,I eS,I eS,Iz false,I eS,I eS,Iz false,I eS,I eS,Iz false,I eS,I eS,Iz false,I eS,I eS] 3 [Iz (x 0).1,I (x 0).2.1,I (x 0).2.2,Iz (x 1).1,I (x 1).2.1,I (x 1).2.2,Iz (x 2).1,I (x 2).2.1,I (x 2).2.2,Iz (x 3).1,I (x 3).2.1,I (x 3).2.2,Iz (x 4).1,I (x 4).2.1,I (x 4).2.2,Iz (x 5).1,I (x 5).2.1,I (x 5).2.2]=[.slice a1 n1 m1,.slice a2 n2 m2,.slice a3 n3 m3,Iz (x 0).1,I (x 0).2.1,I (x 0).2.2,Iz (x 1).1,I (x 1).2.1,I (x 1).2.2,Iz (x 2).1,I (x 2).2.1,I (x 2).2.2,Iz (x 3).1,I (x 3).2.1,I (x 3).2.2,Iz (x 4).1,I (x 4).2.1,I (x 4).2.2,Iz (x 5).1,I (x 5).2.1,I (x 5).2.2,Iz false,I eS,I eS,Iz false,I eS,I eS,Iz false,I eS,I eS,Iz false,I eS,I eS,Iz false,I eS,I eS,Iz false,I eS,I eS]:=by kernel_rfl
 have H12:=(H11.grew ga Da).mid 3 [Iz (x 0).1,I (x 0).2.1,I (x 0).2.2,Iz (x 1).1,I (x 1).2.1,I (x 1).2.2,Iz (x 2).1,I (x 2).2.1,I (x 2).2.2,Iz (x 3).1,I (x 3).2.1,I (x 3).2.2,Iz (x 4).1,I (x 4).2.1,I (x 4).2.2,Iz (x 5).1,I (x 5).2.1,I (x 5).2.2]
 rw [hu] at H12
 have hPP:=H11.hP
 replace o1:=Bv (Bo o1 ga (by omega)) (Gx [Iz (x 0).1,I (x 0).2.1,I (x 0).2.2,Iz (x 1).1,I (x 1).2.1,I (x 1).2.2,Iz (x 2).1,I (x 2).2.1,I (x 2).2.2,Iz (x 3).1,I (x 3).2.1,I (x 3).2.2,Iz (x 4).1,I (x 4).2.1,I (x 4).2.2,Iz (x 5).1,I (x 5).2.1,I (x 5).2.2] (Bu.refl Pb wa) 3) (by omega)
 replace o2:=Bv (Bo o2 ga (by omega)) (Gx [Iz (x 0).1,I (x 0).2.1,I (x 0).2.2,Iz (x 1).1,I (x 1).2.1,I (x 1).2.2,Iz (x 2).1,I (x 2).2.1,I (x 2).2.2,Iz (x 3).1,I (x 3).2.1,I (x 3).2.2,Iz (x 4).1,I (x 4).2.1,I (x 4).2.2,Iz (x 5).1,I (x 5).2.1,I (x 5).2.2] (Bu.refl Pb wa) 3) (by omega)
 replace o3:=Bv (Bo o3 ga (by omega)) (Gx [Iz (x 0).1,I (x 0).2.1,I (x 0).2.2,Iz (x 1).1,I (x 1).2.1,I (x 1).2.2,Iz (x 2).1,I (x 2).2.1,I (x 2).2.2,Iz (x 3).1,I (x 3).2.1,I (x 3).2.2,Iz (x 4).1,I (x 4).2.1,I (x 4).2.2,Iz (x 5).1,I (x 5).2.1,I (x 5).2.2] (Bu.refl Pb wa) 3) (by omega)
 clear hu H11 HL Da ga kpa
 generalize World.setCells _ _ _ _=w12 at *
 generalize vF x=fx0 at *
 go_upto_region 15 with (go_at_call 45;refine (Gv R _ wG w12 H12.hR H12.rdr).mono ?_;rintro e w13 ⟨rfl,D,g⟩)
 have H13:=H12.grew g D
 replace o1:=Bo o1 g (by have:=H12.hP;omega)
 replace o2:=Bo o2 g (by have:=H12.hP;omega)
 replace o3:=Bo o3 g (by have:=H12.hP;omega)
 clear H12 D g
 obtain ⟨st13,es13⟩:∃ q,q=Ss wG (tx 6):=⟨_,rfl⟩
 have HS13:=Ba es13
 rw [← es13] at H13
 clear es13
 obtain ⟨y,ty,ty0,hty,hy1,hy2⟩:=Bl0 (Tb P E) st13
 have Hy1:=Ba hy1
 have Hy2:=Ba hy2
 have HD:Hq w13 R (ty 0):=by rw [ty0];exact H13.rdr
 have HL:=Ba (W5 P E hP R w13 y ty hty H13.hR HD)
 clear hy1 hy2 ty0 hty HD
 go_upto_region 16 with (first | (go_at_call 49;refine HL.out.mono ?_;rintro e wa ⟨rfl,Da,ga⟩;have kpa:=Br.cel ga H13.kp (by have:=H13.hP;omega)) | (refine Jk rfl 28 _ _ rfl Pb 21 #[Iz (y 0).1,I (y 0).2.1,I (y 0).2.2,Iz (y 1).1,I (y 1).2.1,I (y 1).2.2,Iz (y 2).1,I (y 2).2.1,I (y 2).2.2,Iz (y 3).1,I (y 3).2.1,I (y 3).2.2,Iz (y 4).1,I (y 4).2.1,I (y 4).2.2,Iz (y 5).1,I (y 5).2.1,I (y 5).2.2] rfl rfl (Blg kpa 21 18 (Nat.le_of_ble_eq_true rfl)) (by kernel_rfl) (by kernel_rfl) ?_))
 have hu:Wl [.slice a1 n1 m1,.slice a2 n2 m2,.slice a3 n3 m3,Iz (x 0).1,I (x 0).2.1,I (x 0).2.2,Iz (x 1).1,I (x 1).2.1,I (x 1).2.2,Iz (x 2).1,I (x 2).2.1,I (x 2).2.2,Iz (x 3).1,I (x 3).2.1,I (x 3).2.2,Iz (x 4).1,I (x 4).2.1,I (x 4).2.2,Iz (x 5).1,I (x 5).2.1,I (x 5).2.2,Iz false,I eS,I eS,Iz false,I eS,I eS,Iz false,I eS,I eS,Iz false,I eS,I eS,Iz false,I eS,I eS,Iz false,I eS,I eS] 21 [Iz (y 0).1,I (y 0).2.1,I (y 0).2.2,Iz (y 1).1,I (y 1).2.1,I (y 1).2.2,Iz (y 2).1,I (y 2).2.1,I (y 2).2.2,Iz (y 3).1,I (y 3).2.1,I (y 3).2.2,Iz (y 4).1,I (y 4).2.1,I (y 4).2.2,Iz (y 5).1,I (y 5).2.1,I (y 5).2.2]=[.slice a1 n1 m1,.slice a2 n2 m2,.slice a3 n3 m3,Iz (x 0).1,I (x 0).2.1,I (x 0).2.2,Iz (x 1).1,I (x 1).2.1,I (x 1).2.2,Iz (x 2).1,I (x 2).2.1,I (x 2).2.2,Iz (x 3).1,I (x 3).2.1,I (x 3).2.2,Iz (x 4).1,I (x 4).2.1,I (x 4).2.2,Iz (x 5).1,I (x 5).2.1,I (x 5).2.2,Iz (y 0).1,I (y 0).2.1,I (y 0).2.2,Iz (y 1).1,I (y 1).2.1,I (y 1).2.2,Iz (y 2).1,I (y 2).2.1,I (y 2).2.2,Iz (y 3).1,I (y 3).2.1,I (y 3).2.2,Iz (y 4).1,I (y 4).2.1,I (y 4).2.2,Iz (y 5).1,I (y 5).2.1,I (y 5).2.2]:=by kernel_rfl
 have H14:=(H13.grew ga Da).mid 21 [Iz (y 0).1,I (y 0).2.1,I (y 0).2.2,Iz (y 1).1,I (y 1).2.1,I (y 1).2.2,Iz (y 2).1,I (y 2).2.1,I (y 2).2.2,Iz (y 3).1,I (y 3).2.1,I (y 3).2.2,Iz (y 4).1,I (y 4).2.1,I (y 4).2.2,Iz (y 5).1,I (y 5).2.1,I (y 5).2.2]
 rw [hu] at H14
 have hPP:=H13.hP
 replace o1:=Bv (Bo o1 ga (by omega)) (Gx [Iz (y 0).1,I (y 0).2.1,I (y 0).2.2,Iz (y 1).1,I (y 1).2.1,I (y 1).2.2,Iz (y 2).1,I (y 2).2.1,I (y 2).2.2,Iz (y 3).1,I (y 3).2.1,I (y 3).2.2,Iz (y 4).1,I (y 4).2.1,I (y 4).2.2,Iz (y 5).1,I (y 5).2.1,I (y 5).2.2] (Bu.refl Pb wa) 21) (by omega)
 replace o2:=Bv (Bo o2 ga (by omega)) (Gx [Iz (y 0).1,I (y 0).2.1,I (y 0).2.2,Iz (y 1).1,I (y 1).2.1,I (y 1).2.2,Iz (y 2).1,I (y 2).2.1,I (y 2).2.2,Iz (y 3).1,I (y 3).2.1,I (y 3).2.2,Iz (y 4).1,I (y 4).2.1,I (y 4).2.2,Iz (y 5).1,I (y 5).2.1,I (y 5).2.2] (Bu.refl Pb wa) 21) (by omega)
 replace o3:=Bv (Bo o3 ga (by omega)) (Gx [Iz (y 0).1,I (y 0).2.1,I (y 0).2.2,Iz (y 1).1,I (y 1).2.1,I (y 1).2.2,Iz (y 2).1,I (y 2).2.1,I (y 2).2.2,Iz (y 3).1,I (y 3).2.1,I (y 3).2.2,Iz (y 4).1,I (y 4).2.1,I (y 4).2.2,Iz (y 5).1,I (y 5).2.1,I (y 5).2.2] (Bu.refl Pb wa) 21) (by omega)
 clear hu H13 HL Da ga kpa
 generalize World.setCells _ _ _ _=w14 at *
 generalize vF y=fy0 at *
 go_upto_region 17 with (go_at_call 45;refine (Gv R _ wE w14 H14.hR H14.rdr).mono ?_;rintro e w15 ⟨rfl,D,g⟩)
 have H15:=H14.grew g D
 replace o1:=Bo o1 g (by have:=H14.hP;omega)
 replace o2:=Bo o2 g (by have:=H14.hP;omega)
 replace o3:=Bo o3 g (by have:=H14.hP;omega)
 clear H14 D g
 obtain ⟨st15,es15⟩:∃ q,q=Ss wE (ty 6):=⟨_,rfl⟩
 have HS15:=Ba es15
 rw [← es15] at H15
 clear es15
 have Q1:ρ1=q1 P E ts:=HE1.out
 have Q2:ρ2=q2 P E ts:=by rw [HE2.out,HF1.out,Q1];rfl
 have Q3':ρ3=q3 P E ts:=by rw [HE3.out,Q2];rfl
 have Q4:(q4 P E ts).2=tx 6:=by unfold q4;rw [← Q3',← HS11.out];exact Hx2.out
 have Q4':(q4 P E ts).1=[x 0,x 1,x 2,x 3,x 4,x 5]:=by unfold q4;rw [← Q3',← HS11.out];exact Hx1.out
 have Q5:(q5 P E ts).2=ty 6:=by unfold q5;rw [Q4,← HS13.out];exact Hy2.out
 have Q5':(q5 P E ts).1=[y 0,y 1,y 2,y 3,y 4,y 5]:=by unfold q5;rw [Q4,← HS13.out];exact Hy1.out
 have Q6:q6 P E ts=st15:=by unfold q6;rw [Q5];exact HS15.out.symm
 have HQ1:=Ba Q1
 have HQ2:=Ba Q2
 have HQ3:=Ba Q3'
 have HQ4:=Ba Q4'
 have HQ5:=Ba Q5'
 have HQ6:=Ba Q6
 clear Q1 Q2 Q3' Q4 Q4' Q5 Q5' Q6 HE1 HE2 HE3 HS11 HS13 HS15 Hx1 Hx2 Hy1 Hy2
 obtain ⟨v,kr,hv,-⟩:=H15.rdr
 have hsl:∃ a c,v=.slice a st15.1.length c:=by
  rcases hv with ⟨h,a,c,rfl⟩ | ⟨A,o,c,rfl,-⟩
  ·exact ⟨a,c,by rw [h];rfl⟩
  ·exact ⟨_,_,rfl⟩
 obtain ⟨av,cv,rfl⟩:=hsl
 clear hv
 have kz:=H15.kz
 have kp:=H15.kp
 have bw:=H15.bw
 have hZ:=H15.hZ
 have hPb:=H15.hP
 clear H15
 obtain ⟨l,bad⟩:=st15
 have k0:=kr.cell 0
 have k1:=kr.cell 1
 have c0:w15.cell? ⟨R,0,none⟩=some (.slice av l.length cv):=k0
 have c1:w15.cell? ⟨R,1,none⟩=some (Iz bad):=k1
 clear k0 k1 kr
 obtain ⟨cs,hcs⟩:∃ cs:List Value,cs=[.slice a1 n1 m1,.slice a2 n2 m2,.slice a3 n3 m3,Iz (x 0).1,I (x 0).2.1,I (x 0).2.2,Iz (x 1).1,I (x 1).2.1,I (x 1).2.2,Iz (x 2).1,I (x 2).2.1,I (x 2).2.2,Iz (x 3).1,I (x 3).2.1,I (x 3).2.2,Iz (x 4).1,I (x 4).2.1,I (x 4).2.2,Iz (x 5).1,I (x 5).2.1,I (x 5).2.2,Iz (y 0).1,I (y 0).2.1,I (y 0).2.2,Iz (y 1).1,I (y 1).2.1,I (y 1).2.2,Iz (y 2).1,I (y 2).2.1,I (y 2).2.2,Iz (y 3).1,I (y 3).2.1,I (y 3).2.2,Iz (y 4).1,I (y 4).2.1,I (y 4).2.2,Iz (y 5).1,I (y 5).2.1,I (y 5).2.2]:=⟨_,rfl⟩
 have hp:Co w15 (Pb+1) cs (qpl P E ts):=by
  rw [hcs]
  unfold qpl
  refine O5 (v1:=.slice a1 n1 m1) (v2:=.slice a2 n2 m2) (v3:=.slice a3 n3 m3) (x:=x) (y:=y) ?_ ?_ ?_ HQ4.out HQ5.out
  ·rw [← HQ1.out,← HF1.out];exact o1
  ·rw [← HQ2.out,← HF2.out];exact o2
  ·rw [← HQ3.out,← HF3.out];exact o3
 rw [← hcs] at kp
 clear hcs o1 o2 o3 HQ1 HQ2 HQ3 HQ4 HQ5 HF1 HF2 HF3
 have hlen:=hp.len
 have one:=hp.one
 cases bad with
 | true =>
  have he:¬ q6 P E (Cy s)=([],false):=by rw [← HTS.out,HQ6.out];intro h;injection h with h1 h2;cases h2
  clear HTS HQ6
  clear hp kp one hlen
  go_upto_region 18 with fail
  refine wp_region_lit ?_
  refine wpList_build rfl 46 #[] rfl (by kernel_rfl) ?_
  rw [Bcv]
  simp only [Jp]
  refine Jj rfl 46 _ _ rfl w.heap.size #[Bs,Bs,Bs,Iz false,I eS,I eS,Iz false,I eS,I eS,Iz false,I eS,I eS,Iz false,I eS,I eS,Iz false,I eS,I eS,Iz false,I eS,I eS,Iz false,I eS,I eS,Iz false,I eS,I eS,Iz false,I eS,I eS,Iz false,I eS,I eS,Iz false,I eS,I eS,Iz false,I eS,I eS] rfl rfl 46 _ kz (by kernel_rfl) rfl (by kernel_rfl) ?_
  simp only [Act.put]
  have oZ:=(Bu.refl w.heap.size w15).setRow #[Bs,Bs,Bs,Iz false,I eS,I eS,Iz false,I eS,I eS,Iz false,I eS,I eS,Iz false,I eS,I eS,Iz false,I eS,I eS,Iz false,I eS,I eS,Iz false,I eS,I eS,Iz false,I eS,I eS,Iz false,I eS,I eS,Iz false,I eS,I eS,Iz false,I eS,I eS,Iz false,I eS,I eS]
  have kr:=kz.rowS [Bs,Bs,Bs,Iz false,I eS,I eS,Iz false,I eS,I eS,Iz false,I eS,I eS,Iz false,I eS,I eS,Iz false,I eS,I eS,Iz false,I eS,I eS,Iz false,I eS,I eS,Iz false,I eS,I eS,Iz false,I eS,I eS,Iz false,I eS,I eS,Iz false,I eS,I eS,Iz false,I eS,I eS]
  have bZ:=oZ.b bw (Jb _)
  generalize World.setRow _ _ _=wz at *
  generalize Value.agg #[Bs,Bs,Bs,Iz false,I eS,I eS,Iz false,I eS,I eS,Iz false,I eS,I eS,Iz false,I eS,I eS,Iz false,I eS,I eS,Iz false,I eS,I eS,Iz false,I eS,I eS,Iz false,I eS,I eS,Iz false,I eS,I eS,Iz false,I eS,I eS,Iz false,I eS,I eS,Iz false,I eS,I eS]=VZ
  clear kz oZ c0 c1
  go_step
  go_step
  go_step
  go_step
  go_step
  go_step
  go_step
  go_step
  show bodyPost Tryz.prog _ _ .ret _ _
  exact Ew (p:=2) (u:=3) (cs:=[Bs,Bs,Bs,Iz false,I eS,I eS,Iz false,I eS,I eS,Iz false,I eS,I eS,Iz false,I eS,I eS,Iz false,I eS,I eS,Iz false,I eS,I eS,Iz false,I eS,I eS,Iz false,I eS,I eS,Iz false,I eS,I eS,Iz false,I eS,I eS,Iz false,I eS,I eS,Iz false,I eS,I eS]) (by kernel_rfl) rfl rfl rfl kr rfl ⟨[Bs,Bs,Bs,Iz false,I eS,I eS,Iz false,I eS,I eS,Iz false,I eS,I eS,Iz false,I eS,I eS,Iz false,I eS,I eS,Iz false,I eS,I eS,Iz false,I eS,I eS,Iz false,I eS,I eS,Iz false,I eS,I eS,Iz false,I eS,I eS,Iz false,I eS,I eS,Iz false,I eS,I eS],by rw [if_neg he];rfl,by rw [if_neg he];exact Ej _ _,bZ⟩
 | false =>
  cases l with
  | cons t l =>
   have he:¬ q6 P E (Cy s)=([],false):=by rw [← HTS.out,HQ6.out];intro h;injection h with h1 h2;cases h1
   obtain ⟨nl,hnl⟩:∃ nl,nl=(t :: l).length:=⟨_,rfl⟩
   rw [← hnl] at c0
   have hl:0<nl:=by rw [hnl,List.length_cons];omega
   clear hnl
   clear HTS HQ6
   clear hp kp one hlen
   go_upto_region 18 with fail
   refine wp_region_lit ?_
   refine wpList_build rfl 46 #[] rfl (by kernel_rfl) ?_
   rw [Bcv]
   simp only [Jp]
   refine Jj rfl 46 _ _ rfl w.heap.size #[Bs,Bs,Bs,Iz false,I eS,I eS,Iz false,I eS,I eS,Iz false,I eS,I eS,Iz false,I eS,I eS,Iz false,I eS,I eS,Iz false,I eS,I eS,Iz false,I eS,I eS,Iz false,I eS,I eS,Iz false,I eS,I eS,Iz false,I eS,I eS,Iz false,I eS,I eS,Iz false,I eS,I eS] rfl rfl 46 _ kz (by kernel_rfl) rfl (by kernel_rfl) ?_
   simp only [Act.put]
   have oZ:=(Bu.refl w.heap.size w15).setRow #[Bs,Bs,Bs,Iz false,I eS,I eS,Iz false,I eS,I eS,Iz false,I eS,I eS,Iz false,I eS,I eS,Iz false,I eS,I eS,Iz false,I eS,I eS,Iz false,I eS,I eS,Iz false,I eS,I eS,Iz false,I eS,I eS,Iz false,I eS,I eS,Iz false,I eS,I eS,Iz false,I eS,I eS]
   have kr:=kz.rowS [Bs,Bs,Bs,Iz false,I eS,I eS,Iz false,I eS,I eS,Iz false,I eS,I eS,Iz false,I eS,I eS,Iz false,I eS,I eS,Iz false,I eS,I eS,Iz false,I eS,I eS,Iz false,I eS,I eS,Iz false,I eS,I eS,Iz false,I eS,I eS,Iz false,I eS,I eS,Iz false,I eS,I eS]
   have bZ:=oZ.b bw (Jb _)
   generalize World.setRow _ _ _=wz at *
   generalize Value.agg #[Bs,Bs,Bs,Iz false,I eS,I eS,Iz false,I eS,I eS,Iz false,I eS,I eS,Iz false,I eS,I eS,Iz false,I eS,I eS,Iz false,I eS,I eS,Iz false,I eS,I eS,Iz false,I eS,I eS,Iz false,I eS,I eS,Iz false,I eS,I eS,Iz false,I eS,I eS,Iz false,I eS,I eS]=VZ
   clear kz oZ c0 c1
   go_step
   go_step
   go_step
   go_step
   go_step
   go_step
   go_step
   go_step
   show bodyPost Tryz.prog _ _ .ret _ _
   exact Ew (p:=2) (u:=3) (cs:=[Bs,Bs,Bs,Iz false,I eS,I eS,Iz false,I eS,I eS,Iz false,I eS,I eS,Iz false,I eS,I eS,Iz false,I eS,I eS,Iz false,I eS,I eS,Iz false,I eS,I eS,Iz false,I eS,I eS,Iz false,I eS,I eS,Iz false,I eS,I eS,Iz false,I eS,I eS,Iz false,I eS,I eS]) (by kernel_rfl) rfl rfl rfl kr rfl ⟨[Bs,Bs,Bs,Iz false,I eS,I eS,Iz false,I eS,I eS,Iz false,I eS,I eS,Iz false,I eS,I eS,Iz false,I eS,I eS,Iz false,I eS,I eS,Iz false,I eS,I eS,Iz false,I eS,I eS,Iz false,I eS,I eS,Iz false,I eS,I eS,Iz false,I eS,I eS,Iz false,I eS,I eS],by rw [if_neg he];rfl,by rw [if_neg he];exact Ej _ _,bZ⟩
  | nil =>
   have he:q6 P E (Cy s)=([],false):=by rw [← HTS.out];exact HQ6.out
   rw [HTS.out] at hp
   clear HTS HQ6
   go_upto_region 19 with fail
   refine wp_region_lit ?_
   refine Je rfl 46 _ rfl _ rfl 46 cs.toArray (0,0) _ kp Tryz.underlying46 rfl (by rw [List.size_toArray,hlen];kernel_rfl) ?_
   simp only [Jp]
   refine Jj rfl 46 _ _ rfl w.heap.size cs.toArray rfl rfl 46 _ kz (by rw [List.size_toArray,hlen];kernel_rfl) (show 39=cs.toArray.size by rw [List.size_toArray,hlen]) one ?_
   simp only [Act.put]
   have oZ:=(Bu.refl w.heap.size w15).setRow cs.toArray
   have kr:=kz.rowS cs
   have bZ:=oZ.b bw (Jb _)
   have hq:=(hp.only oZ (by omega)).mono (show w.heap.size≤Pb+1 by omega)
   generalize World.setRow _ _ _=wz at *
   clear kz oZ c0 c1 hp
   go_step
   go_step
   go_step
   go_step
   go_step
   go_step
   go_step
   go_step
   show bodyPost Tryz.prog _ _ .ret _ _
   exact Ew (p:=2) (u:=3) (cs:=cs) (by kernel_rfl) rfl rfl rfl kr hlen ⟨cs,by rw [if_pos he];rfl,by rw [if_pos he];exact hq,bZ⟩
theorem W6 (s:ByteArray) (w:World) (hs:20000<s.size) :
  Calls Tryz.prog 19 #[I s] w fun e w'=>∃ cs:List Value,e=.returned (.tuple #[.agg cs.toArray,.int .i64 5])∧Co w' w.heap.size cs Ys∧Below w.heap.size w w':=by
 have hs':(s.size:Int) > 20000:=by omega
 go_enter Tryz.func19,Tryz.ntmps19
 go_upto_region 1 with fail
 obtain ⟨w0,hq,kz,b0⟩:=Es w [Bs,Bs,Bs,Iz false,I eS,I eS,Iz false,I eS,I eS,Iz false,I eS,I eS,Iz false,I eS,I eS,Iz false,I eS,I eS,Iz false,I eS,I eS,Iz false,I eS,I eS,Iz false,I eS,I eS,Iz false,I eS,I eS,Iz false,I eS,I eS,Iz false,I eS,I eS,Iz false,I eS,I eS] 46
 rw [← hq]
 clear hq
 go_wp2_with (refine Jj rfl 46 _ _ rfl _ #[Bs,Bs,Bs,Iz false,I eS,I eS,Iz false,I eS,I eS,Iz false,I eS,I eS,Iz false,I eS,I eS,Iz false,I eS,I eS,Iz false,I eS,I eS,Iz false,I eS,I eS,Iz false,I eS,I eS,Iz false,I eS,I eS,Iz false,I eS,I eS,Iz false,I eS,I eS,Iz false,I eS,I eS] rfl rfl 46 _ kz (by kernel_rfl) rfl (by kernel_rfl) ?_)
 have oZ:=(Bu.refl w.heap.size w0).setRow #[Bs,Bs,Bs,Iz false,I eS,I eS,Iz false,I eS,I eS,Iz false,I eS,I eS,Iz false,I eS,I eS,Iz false,I eS,I eS,Iz false,I eS,I eS,Iz false,I eS,I eS,Iz false,I eS,I eS,Iz false,I eS,I eS,Iz false,I eS,I eS,Iz false,I eS,I eS,Iz false,I eS,I eS]
 exact Ew (p:=2) (u:=3) (cs:=[Bs,Bs,Bs,Iz false,I eS,I eS,Iz false,I eS,I eS,Iz false,I eS,I eS,Iz false,I eS,I eS,Iz false,I eS,I eS,Iz false,I eS,I eS,Iz false,I eS,I eS,Iz false,I eS,I eS,Iz false,I eS,I eS,Iz false,I eS,I eS,Iz false,I eS,I eS,Iz false,I eS,I eS]) (by kernel_rfl) rfl rfl rfl (kz.rowS [Bs,Bs,Bs,Iz false,I eS,I eS,Iz false,I eS,I eS,Iz false,I eS,I eS,Iz false,I eS,I eS,Iz false,I eS,I eS,Iz false,I eS,I eS,Iz false,I eS,I eS,Iz false,I eS,I eS,Iz false,I eS,I eS,Iz false,I eS,I eS,Iz false,I eS,I eS,Iz false,I eS,I eS]) rfl ⟨[Bs,Bs,Bs,Iz false,I eS,I eS,Iz false,I eS,I eS,Iz false,I eS,I eS,Iz false,I eS,I eS,Iz false,I eS,I eS,Iz false,I eS,I eS,Iz false,I eS,I eS,Iz false,I eS,I eS,Iz false,I eS,I eS,Iz false,I eS,I eS,Iz false,I eS,I eS,Iz false,I eS,I eS],rfl,Ej _ _,oZ.b b0 (Jb _)⟩
theorem Zu (P:ByteArray→Q3) (E:ByteArray→Int) (hP:PR3 P E) (s:ByteArray) (w:World) :
  Calls Tryz.prog 19 #[I s] w fun e w'=>∃ cs:List Value,e=.returned (.tuple #[.agg cs.toArray,.int .i64 (Fi P E s).2])∧Co w' w.heap.size cs (Fi P E s).1∧Below w.heap.size w w':=by
 by_cases hs:20000<s.size
 ·have hps:Fi P E s=(Ys,5):=by unfold Fi;rw [if_pos hs]
  rw [hps]
  exact W6 s w hs
 ·have h:=Be5 P E (Cy s)
  refine (Bdm P E hP s w (by omega)).mono ?_
  rintro e w' ⟨cs,rfl,hp,b⟩
  by_cases h6:r6 P E (Cy s)=some []
  ·have hq:=h.1.1 h6
   have hps:Fi P E s=(rpl P E (Cy s),0):=by unfold Fi Qb;rw [if_neg hs,if_pos h6]
   rw [if_pos hq,h.2 h6] at hp
   rw [hps,if_pos hq]
   exact ⟨cs,rfl,hp,b⟩
  ·have hq:¬ q6 P E (Cy s)=([],false):=fun e=>h6 (h.1.2 e)
   have hps:Fi P E s=(Ys,4):=by unfold Fi Qb;rw [if_neg hs,if_neg h6]
   rw [if_neg hq] at hp
   rw [hps,if_neg hq]
   exact ⟨cs,rfl,hp,b⟩
end Go.Proofs.YtnplifkgeeicjaaGreatDoor
