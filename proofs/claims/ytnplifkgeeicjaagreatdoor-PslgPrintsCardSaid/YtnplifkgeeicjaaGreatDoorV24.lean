import Derived.Test.YtnplifkgeeicjaaGreatDoorV20
import Derived.Test.YtnplifkgeeicjaaGreatDoorV25
set_option maxRecDepth 100000
set_option maxHeartbeats 2000000
namespace Go.Proofs.YtnplifkgeeicjaaGreatDoor
open Go.RowKit
theorem Pd {w:World} {g:Nat} {x y:Value} {t:TypeId} (h:Bi w g [x,y] t):w.cell? ⟨g,0,none⟩=some x:=h.cell 0
theorem Bnn {w:World} {g:Nat} {x y:Value} {t:TypeId} (h:Bi w g [x,y] t):w.cell? ⟨g,1,none⟩=some y:=h.cell 1
theorem Ep (neg:Bool) (s:ByteArray) (w:World) :
  Calls Tryz.prog 195 #[.agg #[Iz neg,I s]] w (Re w (.int .i64 (Oi neg s:Nat))):=by
 by_cases h1:32000<s.size
 ·have HC:Hid (Oi neg s=5):=by show _=_;unfold Oi;rw [if_pos h1]
  go_enter Tryz.func195,Tryz.ntmps195
  go_wp2
  go_ret
  exact ⟨by rw [HC.out];rfl,by go_grown⟩
 ·by_cases hs:0<s.size
  ·have g4:=Dv hs
   have g5:s.toList.isEmpty=false:=by simpa using g4
   by_cases h0:lm (Bj s) 0=0
   ·have HC:Hid (Oi neg s=1):=by show _=_;unfold Oi;rw [if_neg h1,if_pos (Or.inr ⟨hs,h0⟩)]
    have g1:((s[0]).toNat:Int)=0:=by rw [Ck s 0 hs,h0];rfl
    have g3:(s[0]).toNat=0:=by omega
    have g2:s[0]=0:=UInt8.toNat.inj g3
    have hs':¬ s.size=0:=by omega
    clear h0
    go_enter Tryz.func195,Tryz.ntmps195
    go_wp2
    go_ret
    exact ⟨by rw [HC.out];rfl,by go_grown⟩
   ·have HC:Hid (Oi neg s=0):=by
     show _=_
     unfold Oi
     rw [if_neg h1,if_neg (by rintro (⟨a,_⟩ | ⟨_,b⟩);· omega
                              ·exact h0 b)]
    have g1:¬ ((s[0]).toNat:Int)=0:=by rw [Ck s 0 hs];omega
    have g2:¬ s[0]=0:=fun h=>g1 (by rw [h];rfl)
    have hs':¬ s.size=0:=by omega
    clear h0
    go_enter Tryz.func195,Tryz.ntmps195
    go_wp2
    go_ret
    exact ⟨by rw [HC.out];rfl,by go_grown⟩
  ·have g3:s=ByteArray.empty:=ByteArray.size_eq_zero_iff.1 (by omega)
   subst g3
   cases neg with
   | true =>
    have HC:Hid (Oi true ByteArray.empty=1):=by show _=_;rfl
    go_enter Tryz.func195,Tryz.ntmps195
    go_wp2
    go_ret
    exact ⟨by rw [HC.out];rfl,by go_grown⟩
   | false =>
    have HC:Hid (Oi false ByteArray.empty=0):=by show _=_;rfl
    go_enter Tryz.func195,Tryz.ntmps195
    go_wp2
    go_ret
    exact ⟨by rw [HC.out];rfl,by go_grown⟩
theorem Bd4 (va:Value) (xs:List Nat) (w:World) (ha:Rd w va xs) (la:M.Low Bb xs) (hx:xs.length≤4000) :
  Calls Tryz.prog 203 #[va] w (Re w (I (Bw (M.val Bb xs)))):=by
 have H:=Ba (Bjw va xs w ha la hx)
 obtain ⟨a,ca,rfl,-,-⟩:=ha
 go_enter Tryz.func203,Tryz.ntmps203
 go_wp2_with fail
 refine H.out.mono ?_
 rintro e w1 ⟨rfl,hb⟩
 go_wp2
 go_ret
 exact ⟨rfl,hb⟩
theorem Pn (V:Nat):(Bw V).toList.isEmpty=decide (V=0):=by
 by_cases h:V=0
 ·subst h;rw [Rb,ByteArray.toList_eq];rfl
 ·have:=Dv (Tl (Nat.pos_of_ne_zero h))
  simp [h,this]
def Fk (neg:Bool) (V:Nat):Int:=if neg then -(V:Int) else (V:Int)
theorem Bfa (neg:Bool) (V:Nat):zI (Fk neg V)=.agg #[Iz (neg && !(Bw V).toList.isEmpty),I (Bw V)]:=by
 unfold zI zV
 have e:(Fk neg V).natAbs=V:=by cases neg <;> simp [Fk]
 rw [e,Pn]
 congr 3
 congr 1
 cases neg with
 | false=>simp [Fk]
 | true=>by_cases h:V=0
         ·subst h;rfl
         ·simp [Fk,h];omega
theorem Bfo (neg:Bool) (va:Value) (xs:List Nat) (w:World) (ha:Rd w va xs) (la:M.Low Bb xs) (hx:xs.length≤4000) :
  Calls Tryz.prog 170 #[.agg #[Iz neg,va]] w (Re w (zI (Fk neg (M.val Bb xs)))):=by
 rw [Bfa]
 generalize hs:Bw (M.val Bb xs)=s
 have HS:=Ba hs
 clear hs
 have ha0:=ha
 obtain ⟨a,ca,rfl,-,-⟩:=ha
 go_enter Tryz.func170,Tryz.ntmps170
 go_wp2_with fail
 obtain ⟨w0,hw0⟩:∃ w0,w0=(w.alloc (.cells #[Iz neg,.slice a xs.length ca] 228)).alloc (.cells #[Iz false,.string { data:=#[] }] 24):=⟨_,rfl⟩
 have k1:Bi w0 w.heap.size [Iz neg,.slice a xs.length ca] 228:=by rw [hw0];exact (Bi.new w _ 228).alloc _
 have k2:Bi w0 (w.heap.size+1) [Iz false,.string { data:=#[] }] 24:=by
  rw [hw0]
  have:=Bi.new (w.alloc (.cells #[Iz neg,.slice a xs.length ca] 228)) [Iz false,.string { data:=#[] }] 24
  simpa using this
 have hb0:Below w.heap.size w w0:=by rw [hw0];go_grown
 rw [← hw0]
 clear hw0
 refine (Bd4 _ xs w0 (ha0.b hb0) la hx).mono ?_
 rintro e w1 ⟨rfl,hb⟩
 rw [HS.out]
 have k1':=k1.b hb
 have k2':=k2.b hb
 have bb:=Ia hb0 hb
 have c0:=k1'.cell 0
 have c1:=k2'.cell 0
 have c2:=k2'.cell 1
 have f1:=k2'.o 0
 have f2:=k2'.o 1
 simp only [Jn,Jm] at c0 c1 c2
 cases neg
 ·go_wp2
  exact Ei (p:=2) (by kernel_rfl) rfl rfl ((k2'.set 0 _).set 1 _) ⟨rfl,(bb.setCell (by simp) _).setCell (by simp) _⟩
 ·go_wp2
  exact Ei (p:=2) (by kernel_rfl) rfl rfl ((k2'.set 0 _).set 1 _) ⟨rfl,(bb.setCell (by simp) _).setCell (by simp) _⟩
theorem Gw {w:World} {v:Value} {xs:List Nat} {g:Nat} {cs:List Value} {t:TypeId} (h:Rd w v xs) (hc:Bi w g cs t) (hno:∀ (j:Nat) (k:IntKind) (n:Int),cs[j]?≠some (.int k n)):Gj w v xs g:=by
 obtain ⟨a,cap,rfl,hcap,h⟩:=h
 refine ⟨a,cap,rfl,hcap,fun j hj=>?_⟩
 obtain ⟨b,off,rfl,hcell⟩:=h j hj
 refine ⟨b,off,rfl,?_,hcell⟩
 intro hbg
 subst hbg
 rw [hc.cell] at hcell
 exact hno _ _ _ hcell
theorem Gj.setX {w:World} {v:Value} {xs:List Nat} {g:Nat} (h:Gj w v xs g) (j:Nat) (u:Value):Gj (w.setCell ⟨g,j,none⟩ u) v xs g:=by
 obtain ⟨a,cap,rfl,hc,h⟩:=h
 refine ⟨a,cap,rfl,hc,fun i hi=>?_⟩
 obtain ⟨b,off,rfl,hne,hcell⟩:=h i hi
 exact ⟨b,off,rfl,hne,by rw [World.cell?_of_block (w:=w) (Below.heap_setCell _ _ _ _ hne)];exact hcell⟩
theorem Gj.below' {w w':World} {v:Value} {xs:List Nat} {g:Nat} (h:Gj w v xs g) (hb:Below w.heap.size w w'):Gj w' v xs g:=by
 obtain ⟨a,cap,rfl,hc,h⟩:=h
 refine ⟨a,cap,rfl,hc,fun i hi=>?_⟩
 obtain ⟨b,off,rfl,hne,hcell⟩:=h i hi
 exact ⟨b,off,rfl,hne,by rw [hb.cell (World.block_lt_of_cell? w _ hcell)];exact hcell⟩
theorem C7 {w:World} {g:Nat} {x y:Value} {t:TypeId} (h:Bi w g [x,y] t):w.cell? ⟨g,0,none⟩=some x:=h.cell 0
theorem Oj {w:World} {g:Nat} {x y:Value} {t:TypeId} (h:Bi w g [x,y] t):w.cell? ⟨g,1,none⟩=some y:=h.cell 1
theorem Bbt (w:World):(Instr.makeSlice 229 (.int .i64 2) (.int .i64 2)).run Tryz.prog w=.ok (.slice (some ⟨w.heap.size,0,none⟩) 2 2) (w.alloc (.cells #[Iz false,.slice none 0 0,Iz false,.slice none 0 0] 228)):=by
 obtain ⟨i0,hi,hz0,hz1,hz2⟩:=info_parts (show (Tryz.prog.info? 228).map (fun i=>(i.zero,i.size,i.bytes))=some (some (.agg #[Iz false,.slice none 0 0]),2,32) by kernel_rfl)
 have h:=run_make (P:=Tryz.prog) w 229 228 i0 (.agg #[Iz false,.slice none 0 0]) Tryz.underlying229 hi hz0 .i64 .i64 2 2 (by omega) (by omega) (by rw [hz2];omega) (by omega)
 rw [h,hz1]
 have e:madeCells (Value.cells (.agg #[Iz false,.slice none 0 0])) (Int.toNat 2*2)=#[Iz false,.slice none 0 0,Iz false,.slice none 0 0]:=by
  have:Value.cells (.agg #[Iz false,.slice none 0 0])=#[Iz false,.slice none 0 0]:=by kernel_rfl
  rw [this]
  unfold madeCells
  apply Array.toList_inj.1
  rw [Array.toList_map,Array.toList_range]
  rfl
 rw [e]
 rfl
theorem Bb7 (n0 n1:Bool) (a b:Option Addr) (l m c d:Nat):∀ (j:Nat) (k:IntKind) (n:Int),[Value.bool n0,.slice a l c,Iz n1,.slice b m d][j]?≠some (.int k n):=by
 intro j k n
 match j with
 | 0=>simp
 | 1=>simp
 | 2=>simp
 | 3=>simp
 | j+4=>simp
theorem Xc (B:Nat) (n0 n1:Bool) (s0 s1:ByteArray) (w:World) (hB:Bi w B [Iz n0,I s0,Iz n1,I s1] 24) (o0:Hc n0 s0) (o1:Hc n1 s1) (z0:s0.size≤32000) (z1:s1.size≤32000) :
  Calls Tryz.prog 171 #[.slice (some ⟨B,0,none⟩) 2 2] w fun e w'=>∃ g v0 v1,e=.returned (.tuple #[.slice (some ⟨g,0,none⟩) 2 2,.int .i64 0])∧Bi w' g [Iz n0,v0,Iz n1,v1] 228∧Gj w' v0 (M.digs Bb (Bc s0)) g∧Gj w' v1 (M.digs Bb (Bc s1)) g∧w.heap.size≤g∧Below w.heap.size w w':=by
 have hmk:=Bbt w
 have Z0:=Ba ((G8 z0).2 o0)
 have Z1:=Ba ((G8 z1).2 o1)
 have H0:=Ba o0.1
 have H1:=Ba o1.1
 clear o0 o1
 go_enter Tryz.func171,Tryz.ntmps171
 go_wp2
 go_loopw [15] (fun i wr=>Below w.heap.size w wr∧((i=.int .i64 0∧Bi wr w.heap.size [Iz false,.slice none 0 0,Iz false,.slice none 0 0] 228) ∨
   (i=.int .i64 1∧∃ v0,Bi wr w.heap.size [Iz n0,v0,Iz false,.slice none 0 0] 228∧Gj wr v0 (M.digs Bb (Bc s0)) w.heap.size) ∨
   (i=.int .i64 2∧∃ v0 v1,Bi wr w.heap.size [Iz n0,v0,Iz n1,v1] 228∧Gj wr v0 (M.digs Bb (Bc s0)) w.heap.size∧Gj wr v1 (M.digs Bb (Bc s1)) w.heap.size))) (fun i _=>2 - (intOf i).toNat)
 case atStart=>exact ⟨(Jg _ _).alloc (Jb _) _,Or.inl ⟨rfl,Bi.new w [Iz false,.slice none 0 0,Iz false,.slice none 0 0] 228⟩⟩
 case round =>
  obtain ⟨hbel,hc⟩:=hrel
  have kB:=hB.b hbel
  have b0:=kB.cell 0
  have b1:=kB.cell 1
  have b2:=kB.cell 2
  have b3:=kB.cell 3
  simp only [Jn,Jm] at b0 b1 b2 b3
  clear kB
  rcases hc with ⟨rfl,hc⟩ | ⟨rfl,v0,hc,r0⟩ | ⟨rfl,v0,v1,hc,r0,r1⟩
  ·go_wp2_with fail
   obtain ⟨w1,hw1⟩:∃ w1,w1=wr.alloc (.cells #[Iz n0,I s0] 24):=⟨_,rfl⟩
   have hb1:Below wr.heap.size wr w1:=by rw [hw1];exact (Jg _ _).alloc (Jb _) _
   have k1:Bi w1 wr.heap.size [Iz n0,I s0] 24:=by rw [hw1];exact Bi.new wr _ 24
   rw [← hw1]
   clear hw1 b0 b1 b2 b3
   refine (Ep n0 s0 w1).mono ?_
   rintro e w2 ⟨rfl,hb2⟩
   rw [Z0.out]
   have k2:=k1.b hb2
   obtain ⟨d0,d1⟩:=Dc k2
   go_wp2_with fail
   refine (Baj s0 w2 z0 H0.out).mono ?_
   rintro e w3 ⟨v,rfl,rv,hb3⟩
   obtain ⟨av,cv,rfl,-,-⟩:=id rv
   have k3':=k2.b hb3
   have d0:=C7 k3'
   have k3:=((hc.b hb1).b hb2).b hb3
   have bb3:=Ia (Ia (Ia hbel hb1) hb2) hb3
   have e0:=k3.cell 0
   have e1:=k3.cell 1
   have f0:=k3.o 0
   have f1:=k3.o 1
   simp only [Jn,Jm] at e0 e1
   have rx:=Gw rv k3 (Bb7 _ _ _ _ _ _ _ _)
   have HRX:=Ba ((rx.setX 0 (Iz n0)).setX 1 (.slice av (M.digs Bb (Bc s0)).length cv))
   clear rx
   go_wp2
   exact ⟨⟨(bb3.setCell (Jb _) _).setCell (Jb _) _,Or.inr (Or.inl ⟨by go_num,_,(k3.set 0 _).set 1 _,HRX.out⟩)⟩,by simp [intOf]⟩
  ·obtain ⟨ar,cr,rfl,-,-⟩:=id r0
   go_wp2_with fail
   obtain ⟨w1,hw1⟩:∃ w1,w1=wr.alloc (.cells #[Iz n1,I s1] 24):=⟨_,rfl⟩
   have hb1:Below wr.heap.size wr w1:=by rw [hw1];exact (Jg _ _).alloc (Jb _) _
   have k1:Bi w1 wr.heap.size [Iz n1,I s1] 24:=by rw [hw1];exact Bi.new wr _ 24
   rw [← hw1]
   clear hw1 b0 b1 b2 b3
   refine (Ep n1 s1 w1).mono ?_
   rintro e w2 ⟨rfl,hb2⟩
   rw [Z1.out]
   have k2:=k1.b hb2
   obtain ⟨d0,d1⟩:=Dc k2
   go_wp2_with fail
   refine (Baj s1 w2 z1 H1.out).mono ?_
   rintro e w3 ⟨v,rfl,rv,hb3⟩
   obtain ⟨av,cv,rfl,-,-⟩:=id rv
   have k3':=k2.b hb3
   have d0:=C7 k3'
   have k3:=((hc.b hb1).b hb2).b hb3
   have bb3:=Ia (Ia (Ia hbel hb1) hb2) hb3
   have e0:=k3.cell 2
   have e1:=k3.cell 3
   have f0:=k3.o 2
   have f1:=k3.o 3
   simp only [Jn,Jm] at e0 e1
   have rx:=Gw rv k3 (Bb7 _ _ _ _ _ _ _ _)
   have HRX:=Ba ((rx.setX 2 (Iz n1)).setX 3 (.slice av (M.digs Bb (Bc s1)).length cv))
   have r03:=(r0.below' hb1).below' (Ia hb2 hb3)
   have HRX0:=Ba ((r03.setX 2 (Iz n1)).setX 3 (.slice av (M.digs Bb (Bc s1)).length cv))
   clear r03
   clear rx
   go_wp2
   exact ⟨⟨(bb3.setCell (Jb _) _).setCell (Jb _) _,Or.inr (Or.inr ⟨by go_num,_,_,(k3.set 2 _).set 3 _,HRX0.out,HRX.out⟩)⟩,by simp [intOf]⟩
  ·go_wp2
   go_ret2
   exact ⟨_,v0,v1,rfl,hc,r0,r1,Jb _,hbel⟩
theorem Bgx (s:ByteArray) (w:World) (hm:s.size≤32000) (h0:0<s.size→lm (Bj s) 0≠0) :
  Calls Tryz.prog 130 #[I s] w fun e w'=>∃ n,e=.returned (.tuple #[.slice (some ⟨w.heap.size,0,none⟩) n n,.int .i64 0])∧(M.digs Bb (Bc s)).length=n∧Cm w' w.heap.size (M.digs Bb (Bc s))∧Below w.heap.size w w':=by
 obtain ⟨n,hn⟩:∃ n,n=(s.size+7) / 8:=⟨_,rfl⟩
 have i1:(((s.size:Int)+8 - 1) / 8)=(n:Int):=by omega
 have i2:n≤4000:=by omega
 have HN:=Ba hn
 have H0:=Ba h0
 have fz:decide ((s.size:Int) > 0)=true→∀ h:0<s.size,¬ ((s[0]).toNat:Int)=0:=fun _ h=>by
  rw [Ck s 0 h]
  have:=h0 h
  omega
 clear hn h0
 have main:∀ w2,Cm w2 w.heap.size (List.replicate n 0)→Below w.heap.size w w2→True:=fun _ _ _=>trivial
 clear main
 by_cases hs:0<s.size
 ·have g1:¬ ((s[0]).toNat:Int)=0:=fz (by simp;omega) hs
  have g2:¬ s[0]=0:=fun h=>g1 (by rw [h];rfl)
  clear fz
  go_enter Tryz.func130,Tryz.ntmps130
  go_wp2_with (at_make;refine Cn rfl _ _ rfl _ n rfl rfl (by omega) (by omega) ?_;intro w2 hblk hbel)
  go_loopw [26] (fun i wr=>∃ (k:Nat) (zs:List Nat),k≤n∧i=.int .i64 k∧Yr s zs k∧Cm wr w.heap.size (zs ++ List.replicate (n - k) 0)∧Below w.heap.size w wr) (fun i _=>n - (intOf i).toNat)
  case atStart=>exact ⟨0,[],by omega,rfl,⟨rfl,M.Low.nil _,by simp [M.val]⟩,by simpa using hblk,hbel⟩
  case round =>
   obtain ⟨k,zs,hk,rfl,hat,hblk',hbel'⟩:=hrel
   have hzl:zs.length=k:=hat.1
   by_cases hlt:k<n
   ·have h8:8*k≤s.size:=by have:=HN.out;omega
    have HST:=Ba (hat.step h8)
    have hpc:∀ lo,lo=s.size - 8*k - 8→Bc (s.extract lo (s.size - 8*k))=M.val 256 (((Bj s).reverse.drop (8*k)).take 8):=fun lo hlo=>Bl4 s k lo h8 hlo
    have HPC:=Ba hpc
    have hset:∀ x,∀ w4,Cm w4 w.heap.size (zs ++ List.replicate (n - k) 0)→Cm (w4.setCell ⟨w.heap.size,k,none⟩ (.int .u64 (x:Nat))) w.heap.size ((zs ++ [x]) ++ List.replicate (n - (k+1)) 0):=fun x w4 hb=>by
     have h:=hb.set k x
     rw [show n - k=(n - (k+1))+1 by omega] at h
     have e:=M.set_append_replicate zs (n - (k+1)) x
     rw [hzl] at e
     rwa [e] at h
    have HSET:=Ba hset
    have ik:(k:Int)<(n:Int):=by omega
    have hsz:1≤s.size - 8*k:=by have:=HN.out;omega
    have ZL:=Ba hzl
    clear hat hpc hset hzl i1
    by_cases hend:8≤s.size - 8*k
    ·have j4:max ((s.size:Int) - 8*(k:Int) - 8) 0=(s.size:Int) - 8*(k:Int) - 8:=by omega
     have j5:((s.size:Int) - 8*(k:Int) - 8).toNat=s.size - 8*k - 8:=by omega
     have j6:((s.size:Int) - 8*(k:Int)).toNat=s.size - 8*k:=by omega
     have hsl:∀ wx:World,(Instr.slice 22 (I s) (some (.int .i64 ((s.size:Int) - 8*(k:Int) - 8))) (some (.int .i64 ((s.size:Int) - 8*(k:Int)))) none).run Tryz.prog wx=.ok (I (s.extract (s.size - 8*k - 8) (s.size - 8*k))) wx:=fun wx=>by
      rw [run_slice_string (P:=Tryz.prog) wx 22 s .i64 .i64 _ _ Tryz.underlying22 (by omega) (by omega) (by omega),j5,j6]
     have H30:=Ba (fun w0=>Kv (s.extract (s.size - 8*k - 8) (s.size - 8*k)) (by rw [ByteArray.size_extract];omega) w0)
     clear j5 j6
     go_wp2_with fail
     refine (H30.out _).mono ?_
     rintro e w4 ⟨rfl,b4⟩
     rw [HPC.out _ rfl]
     have hblk4:=hblk'.b b4
     have hbel4:=Ia hbel' b4
     have HB4:=Ba (HSET.out (M.val 256 (((Bj s).reverse.drop (8*k)).take 8)) w4 hblk4)
     have hc1:=hblk4.cell (j:=k) (by rw [Ji,List.length_replicate,ZL.out];omega)
     have hf1:=hblk4.o k
     generalize M.val 256 (((Bj s).reverse.drop (8*k)).take 8)=y at *
     clear hsl H30 HPC HSET hblk4 j4
     go_wp2
     exact ⟨⟨k+1,_,by omega,by go_num,HST.out,HB4.out,hbel4.setCell (Jb _) _⟩,by simp [intOf];omega⟩
    ·have j4:max ((s.size:Int) - 8*(k:Int) - 8) 0=0:=by omega
     have j6:((s.size:Int) - 8*(k:Int)).toNat=s.size - 8*k:=by omega
     have hsl:∀ wx:World,(Instr.slice 22 (I s) (some (.int .i64 0)) (some (.int .i64 ((s.size:Int) - 8*(k:Int)))) none).run Tryz.prog wx=.ok (I (s.extract 0 (s.size - 8*k))) wx:=fun wx=>by
      rw [run_slice_string (P:=Tryz.prog) wx 22 s .i64 .i64 _ _ Tryz.underlying22 (by omega) (by omega) (by omega),j6];rfl
     have H30:=Ba (fun w0=>Kv (s.extract 0 (s.size - 8*k)) (by rw [ByteArray.size_extract];omega) w0)
     have HL0:Hid (0=s.size - 8*k - 8):=by show _=_;omega
     clear j6
     go_wp2_with fail
     refine (H30.out _).mono ?_
     rintro e w4 ⟨rfl,b4⟩
     rw [HPC.out _ HL0.out]
     have hblk4:=hblk'.b b4
     have hbel4:=Ia hbel' b4
     have HB4:=Ba (HSET.out (M.val 256 (((Bj s).reverse.drop (8*k)).take 8)) w4 hblk4)
     have hc1:=hblk4.cell (j:=k) (by rw [Ji,List.length_replicate,ZL.out];omega)
     have hf1:=hblk4.o k
     generalize M.val 256 (((Bj s).reverse.drop (8*k)).take 8)=y at *
     clear hsl H30 HPC HSET hblk4 j4
     go_wp2
     exact ⟨⟨k+1,_,by omega,by go_num,HST.out,HB4.out,hbel4.setCell (Jb _) _⟩,by simp [intOf];omega⟩
   ·have hke:k=n:=by omega
    subst hke
    have HF:=Ba (Qj hat HN.out H0.out)
    rw [Nat.sub_self,List.replicate_zero,List.append_nil] at hblk'
    clear hat
    go_wp2
    go_ret2
    exact ⟨_,rfl,by rw [← HF.out];exact hzl,by rw [← HF.out];exact hblk',hbel'⟩
 ·clear fz
  have hs0:s.size=0:=by omega
  have hs1:¬ (0:Int)<(s.size:Int):=by omega
  clear hs0
  go_enter Tryz.func130,Tryz.ntmps130
  go_wp2_with (at_make;refine Cn rfl _ _ rfl _ n rfl rfl (by omega) (by omega) ?_;intro w2 hblk hbel)
  go_loopw [26] (fun i wr=>∃ (k:Nat) (zs:List Nat),k≤n∧i=.int .i64 k∧Yr s zs k∧Cm wr w.heap.size (zs ++ List.replicate (n - k) 0)∧Below w.heap.size w wr) (fun i _=>n - (intOf i).toNat)
  case atStart=>exact ⟨0,[],by omega,rfl,⟨rfl,M.Low.nil _,by simp [M.val]⟩,by simpa using hblk,hbel⟩
  case round =>
   obtain ⟨k,zs,hk,rfl,hat,hblk',hbel'⟩:=hrel
   have hzl:zs.length=k:=hat.1
   by_cases hlt:k<n
   ·exfalso;have:=HN.out;omega
   ·have hke:k=n:=by omega
    subst hke
    have HF:=Ba (Qj hat HN.out H0.out)
    rw [Nat.sub_self,List.replicate_zero,List.append_nil] at hblk'
    clear hat
    go_wp2
    go_ret2
    exact ⟨_,rfl,by rw [← HF.out];exact hzl,by rw [← HF.out];exact hblk',hbel'⟩
theorem Bdt (B:Nat) (n0 n1:Bool) (s0 s1:ByteArray) (w:World) (hB:Bi w B [Iz n0,I s0,Iz n1,I s1] 24) (o0:Hc n0 s0) (o1:Hc n1 s1) (z0:s0.size≤32000) (z1:s1.size≤32000) :
  Calls Tryz.prog 171 #[.slice (some ⟨B,0,none⟩) 2 2] w fun e w'=>∃ g g0 g1 m0 m1,e=.returned (.tuple #[.slice (some ⟨g,0,none⟩) 2 2,.int .i64 0])∧Bi w' g [Iz n0,.slice (some ⟨g0,0,none⟩) m0 m0,Iz n1,.slice (some ⟨g1,0,none⟩) m1 m1] 228 ∧
   (M.digs Bb (Bc s0)).length=m0∧(M.digs Bb (Bc s1)).length=m1∧Cm w' g0 (M.digs Bb (Bc s0))∧Cm w' g1 (M.digs Bb (Bc s1))∧w.heap.size≤g∧g<g0∧g0<g1∧Below w.heap.size w w':=by
 have hmk:=Bbt w
 have Z0:=Ba ((G8 z0).2 o0)
 have Z1:=Ba ((G8 z1).2 o1)
 have H0:=Ba o0.1
 have H1:=Ba o1.1
 clear o0 o1
 go_enter Tryz.func171,Tryz.ntmps171
 go_wp2
 go_loopw [15] (fun i wr=>Below w.heap.size w wr∧((i=.int .i64 0∧Bi wr w.heap.size [Iz false,.slice none 0 0,Iz false,.slice none 0 0] 228) ∨
   (i=.int .i64 1∧∃ g0 m0,Bi wr w.heap.size [Iz n0,.slice (some ⟨g0,0,none⟩) m0 m0,Iz false,.slice none 0 0] 228∧(M.digs Bb (Bc s0)).length=m0∧Cm wr g0 (M.digs Bb (Bc s0))∧w.heap.size<g0) ∨
   (i=.int .i64 2∧∃ g0 g1 m0 m1,Bi wr w.heap.size [Iz n0,.slice (some ⟨g0,0,none⟩) m0 m0,Iz n1,.slice (some ⟨g1,0,none⟩) m1 m1] 228∧(M.digs Bb (Bc s0)).length=m0∧(M.digs Bb (Bc s1)).length=m1∧Cm wr g0 (M.digs Bb (Bc s0))∧Cm wr g1 (M.digs Bb (Bc s1))∧w.heap.size<g0∧g0<g1))) (fun i _=>2 - (intOf i).toNat)
 case atStart=>exact ⟨(Jg _ _).alloc (Jb _) _,Or.inl ⟨rfl,Bi.new w [Iz false,.slice none 0 0,Iz false,.slice none 0 0] 228⟩⟩
 case round =>
  obtain ⟨hbel,hc⟩:=hrel
  have kB:=hB.b hbel
  have b0:=kB.cell 0
  have b1:=kB.cell 1
  have b2:=kB.cell 2
  have b3:=kB.cell 3
  simp only [Jn,Jm] at b0 b1 b2 b3
  clear kB
  rcases hc with ⟨rfl,hc⟩ | ⟨rfl,g0,m0,hc,q0,r0,q1⟩ | ⟨rfl,g0,g1,m0,m1,hc,q0,q1,r0,r1,q2,q3⟩
  ·go_wp2_with fail
   obtain ⟨w1,hw1⟩:∃ w1,w1=wr.alloc (.cells #[Iz n0,I s0] 24):=⟨_,rfl⟩
   have hb1:Below wr.heap.size wr w1:=by rw [hw1];exact (Jg _ _).alloc (Jb _) _
   have k1:Bi w1 wr.heap.size [Iz n0,I s0] 24:=by rw [hw1];exact Bi.new wr _ 24
   rw [← hw1]
   clear hw1 b0 b1 b2 b3
   refine (Ep n0 s0 w1).mono ?_
   rintro e w2 ⟨rfl,hb2⟩
   rw [Z0.out]
   have k2:=k1.b hb2
   obtain ⟨d0,d1⟩:=Dc k2
   go_wp2_with fail
   refine (Bgx s0 w2 z0 H0.out).mono ?_
   rintro e w3 ⟨nv,rfl,hnv,kv,hb3⟩
   have HNV:=Ba hnv
   clear hnv
   have hlt2:w.heap.size<w2.heap.size:=((hc.b hb1).b hb2).lt
   have k3':=k2.b hb3
   have d0:=C7 k3'
   have k3:=((hc.b hb1).b hb2).b hb3
   have bb3:=Ia (Ia (Ia hbel hb1) hb2) hb3
   have e0:=k3.cell 0
   have e1:=k3.cell 1
   have f0:=k3.o 0
   have f1:=k3.o 1
   simp only [Jn,Jm] at e0 e1
   have KV:=Ba (fun x y=>(((Bu.refl w.heap.size w3).setCell 0 x).setCell 1 y).blk kv (by omega))
   clear kv
   go_wp2
   exact ⟨⟨(bb3.setCell (Jb _) _).setCell (Jb _) _,Or.inr (Or.inl ⟨by go_num,_,_,(k3.set 0 _).set 1 _,HNV.out,KV.out _ _,hlt2⟩)⟩,by simp [intOf]⟩
  ·have Q0:=Ba q0
   clear q0
   go_wp2_with fail
   obtain ⟨w1,hw1⟩:∃ w1,w1=wr.alloc (.cells #[Iz n1,I s1] 24):=⟨_,rfl⟩
   have hb1:Below wr.heap.size wr w1:=by rw [hw1];exact (Jg _ _).alloc (Jb _) _
   have k1:Bi w1 wr.heap.size [Iz n1,I s1] 24:=by rw [hw1];exact Bi.new wr _ 24
   rw [← hw1]
   clear hw1 b0 b1 b2 b3
   refine (Ep n1 s1 w1).mono ?_
   rintro e w2 ⟨rfl,hb2⟩
   rw [Z1.out]
   have k2:=k1.b hb2
   obtain ⟨d0,d1⟩:=Dc k2
   go_wp2_with fail
   refine (Bgx s1 w2 z1 H1.out).mono ?_
   rintro e w3 ⟨nv,rfl,hnv,kv,hb3⟩
   have HNV:=Ba hnv
   clear hnv
   have hlt2:w.heap.size<w2.heap.size:=((hc.b hb1).b hb2).lt
   have k3':=k2.b hb3
   have d0:=C7 k3'
   have k3:=((hc.b hb1).b hb2).b hb3
   have bb3:=Ia (Ia (Ia hbel hb1) hb2) hb3
   have e0:=k3.cell 2
   have e1:=k3.cell 3
   have f0:=k3.o 2
   have f1:=k3.o 3
   simp only [Jn,Jm] at e0 e1
   have KV:=Ba (fun x y=>(((Bu.refl w.heap.size w3).setCell 2 x).setCell 3 y).blk kv (by omega))
   have r03:=(r0.b hb1).b (Ia hb2 hb3)
   have KV0:=Ba (fun x y=>(((Bu.refl w.heap.size w3).setCell 2 x).setCell 3 y).blk r03 (by omega))
   have hlt3:g0<w2.heap.size:=((r0.b hb1).b hb2).lt
   clear r03 kv
   go_wp2
   exact ⟨⟨(bb3.setCell (Jb _) _).setCell (Jb _) _,Or.inr (Or.inr ⟨by go_num,_,_,_,_,(k3.set 2 _).set 3 _,Q0.out,HNV.out,KV0.out _ _,KV.out _ _,q1,hlt3⟩)⟩,by simp [intOf]⟩
  ·have Q0:=Ba q0
   have Q1:=Ba q1
   clear q0 q1
   go_wp2
   go_ret2
   exact ⟨_,g0,g1,m0,m1,rfl,hc,Q0.out,Q1.out,r0,r1,Jb _,q2,q3,hbel⟩
end Go.Proofs.YtnplifkgeeicjaaGreatDoor
