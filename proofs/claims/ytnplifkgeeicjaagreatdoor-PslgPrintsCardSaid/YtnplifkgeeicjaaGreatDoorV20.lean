import Derived.Laws.AppendOwn
import Derived.Test.YtnplifkgeeicjaaGreatDoorV12
import Derived.Test.YtnplifkgeeicjaaGreatDoorV19
set_option maxRecDepth 100000
set_option maxHeartbeats 2000000
namespace Go.Proofs.YtnplifkgeeicjaaGreatDoor
open Go.RowKit Go.Shelf
theorem Bkh:Go.Proofs.Lays.n240 Tryz.prog Lj:={
 mixed:=Cp.mixed
 f240:=Cp.f240
 f276:=Cp.f276
 t0:=Cp.t0
 a0:=Cp.a0
 z0:=Cp.z0
 v0:=Cp.v0
 t4:=Cp.t4
 a4:=Cp.a4
 z4:=Cp.z4
 v4:=Cp.v4
 t9:=Cp.t9
 a9:=Cp.a9
 z9:=Cp.z9
 v9:=Cp.v9
 t20:=Cp.t20
 a20:=Cp.a20
 z20:=Cp.z20
 v20:=Cp.v20
 t70:=Cp.t70
 a70:=Cp.a70
 z70:=Cp.z70
 v70:=Cp.v70
 t72:=Cp.t72
 a72:=Cp.a72
 z72:=Cp.z72
 v72:=Cp.v72
 t164:=Cp.t164
 a164:=Cp.a164
 z164:=Cp.z164
 v164:=Cp.v164 }
theorem Tg (b:Nat) (w:World) (h0:w.cell? ⟨b,0,none⟩=some (.pointer (some ⟨b,0,none⟩))) :
  Calls Tryz.prog 157 #[.pointer (some ⟨b,0,none⟩)] w fun e w'=>e=.returned (.tuple #[])∧w'=w:=Any.Builder_copyCheck_used Bkh Un.toX72 b w h0
theorem K9 {T e:TypeId} {B b:Nat} {p:Value} {bs:List Value} {w w':World} (h:Lib.BuilderAt T e B b p bs w) (hb:Below w.heap.size w w'):Lib.BuilderAt T e B b p bs w':=by
 obtain ⟨hB,v,hbk,⟨hx,hown⟩,hne⟩:=h
 have keep:∀ {g:Nat} {o:Obj},w.heap[g]?=some o→w'.heap[g]?=some o:=fun {g o} hg=>by
  have:g<w.heap.size:=by
   rcases Nat.lt_or_ge g w.heap.size with h' | h'
   ·exact h'
   ·rw [Array.getElem?_eq_none h'] at hg;cases hg
  rw [hb.block g this];exact hg
 refine ⟨hB,v,keep hbk,⟨hx,?_⟩,hne⟩
 rcases hown with h | ⟨g,cap,cur,hv,hg0,hg,rest⟩
 ·exact Or.inl h
 ·exact Or.inr ⟨g,cap,cur,hv,hg0,keep hg,rest⟩
theorem Bc7 (B b:Nat) (bs:List Value) (ad:Addr) (m c:Nat) (news:List Value) (w:World) (h:Lib.BuilderAt 158 5 B b (.pointer (some ⟨b,0,none⟩)) bs w)
  (hl:news.length=m) (hnews:∀ j u,news[j]?=some u→w.cell? (ad.add j)=some u) (h1:∀ u∈news,u.oneCell'=true)
  (hlen:bs.length+m≤140737488355328) (hBw:B≤w.heap.size) :
  Calls Tryz.prog 229 #[.pointer (some ⟨b,0,none⟩),.slice (some ad) m c] w fun e w'=>e=.returned (.tuple #[.int .i64 m,.nilIface])∧(Lib.BuilderAt 158 5 B b (.pointer (some ⟨b,0,none⟩)) (bs ++ news) w'∧Below B w w'):=by
 obtain ⟨i0,hi,hz0,hz1,hz2⟩:=info_parts (show (Tryz.prog.info? 5).map (fun i=>(i.zero,i.size,i.bytes))=some (some (.int .u8 0),1,1) by kernel_rfl)
 have c0:=h.cell0
 have H47:=Ba (Tg b w c0)
 obtain ⟨hB,v,hbk,hown,hne⟩:=h
 have c1:w.cell? ⟨b,1,none⟩=some v:=by rw [Lib.cell_of_heap hbk];rfl
 have hlt:b<w.heap.size:=by
  rcases Nat.lt_or_ge b w.heap.size with h' | h'
  ·exact h'
  ·simp [Array.getElem?_eq_none h'] at hbk
 go_enter Tryz.func229,Tryz.ntmps229
 go_wp2_with fail
 refine (H47.out).mono ?_
 rintro e w1 ⟨rfl,hw⟩
 subst hw
 go_wp2_with (at_builtin;refine wpList_append_own _ rfl _ _ 55 rfl B 5 i0 (.int .u8 0) 1 1 Tryz.underlying55 hi hz0 hz1 hz2 rfl (by decide) _ _ _ rfl hown ad m c news rfl (by omega) hnews h1 (by unfold maxLen;omega) (by omega) hBw ?_)
 intro v' w2 hown' hgrow _
 have hb2:w2.heap[b]?=some (.cells #[.pointer (some ⟨b,0,none⟩),v] 158 (0,0)):=by
  rw [hgrow.block b hlt (fun e=>hne e.symm)]
  exact hbk
 have d0:w2.cell? ⟨b,0,none⟩=some (.pointer (some ⟨b,0,none⟩)):=by rw [Lib.cell_of_heap hb2];rfl
 have d1:w2.cell? ⟨b,1,none⟩=some v:=by rw [Lib.cell_of_heap hb2];rfl
 have f1:w2.frozen? ⟨b,1,none⟩=false:=Lib.frozen_of_heap hb2 1
 obtain ⟨ao,n',cap,rfl⟩:∃ ao n' cap,v'=.slice ao n' cap:=by
  rcases hown'.2 with ⟨hv,_⟩ | ⟨g,cap,cur,hv,_⟩
  ·exact ⟨_,_,_,hv⟩
  ·exact ⟨_,_,_,hv⟩
 have HP:=Ba (Lib.BuilderAt.put (T:=158) (e:=5) (v':=.slice ao n' cap) hB hb2 (bs':=bs ++ news) (by simpa [hl] using hown') (by decide))
 have HQ:=Ba (((Jg B w1).grown hgrow hBw (fun k hk=>(hown.lt k hk).1)).setCell (p:=⟨b,1,none⟩) hB (.slice ao n' cap))
 clear hown hown' hgrow hnews h1 hbk hb2 H47
 go_wp2
 go_ret2
 exact ⟨rfl,HP.out,HQ.out⟩
/-! ### The bytes of a limb -/
def Qs (x:Nat):List Nat:=[x / 72057594037927936 % 256,x / 281474976710656 % 256,x / 1099511627776 % 256,x / 4294967296 % 256,x / 16777216 % 256,x / 65536 % 256,x / 256 % 256,x % 256]
theorem E6 (x:Nat):(Qs x).length=8:=rfl
theorem Bih (x:Nat):∀ j,j<8→lm (Qs x) j=x / 256 ^ (7 - j) % 256
 | 0,_=>rfl
 | 1,_=>rfl
 | 2,_=>rfl
 | 3,_=>rfl
 | 4,_=>rfl
 | 5,_=>rfl
 | 6,_=>rfl
 | 7,_=>by show x % 256=x / 1 % 256;rw [Nat.div_one]
 | j+8,h=>by omega
theorem Om (x:Nat):∀ t,t≤8→Bit x ((Qs x).drop (8 - t)) t
 | 0,_=>⟨rfl,M.Low.nil _,by simp [Nat.mod_one];rfl⟩
 | t+1,h=>by
  have ih:=Om x t (by omega)
  have hd:(Qs x).drop (8 - (t+1))=lm (Qs x) (7 - t) :: (Qs x).drop (8 - t):=by
   rw [show 8 - (t+1)=7 - t by omega,List.drop_eq_getElem_cons (by rw [E6];omega),show 7 - t+1=8 - t by omega]
   congr 1
   unfold lm
   rw [Jh,List.getElem?_eq_getElem (by rw [E6];omega)];rfl
  rw [hd]
  refine ih.step ?_
  rw [Bih x (7 - t) (by omega),show 7 - (7 - t)=t by omega]
theorem Bcx (x:Nat):M.Low 256 (Qs x):=(Om x 8 (by omega)).2.1
theorem Blm (x:Nat) (h:x<Bb):M.val 256 (Qs x).reverse=x:=by
 have:=(Om x 8 (by omega)).2.2
 rw [show (Qs x).drop (8 - 8)=Qs x from rfl] at this
 rw [this]
 exact Nat.mod_eq_of_lt h
open Go.RowKit
theorem Yp (x:Nat) (w:World):Calls Tryz.prog 228 #[.int .u64 (x:Nat)] w (Re w (.agg (Eb (Qs x)))):=by
 go_enter Tryz.func228,Tryz.ntmps228
 go_wp2
 have e:#[Value.int IntKind.u8 ((x:Int) / 72057594037927936 % 256),Value.int IntKind.u8 ((x:Int) / 281474976710656 % 256),
     Value.int IntKind.u8 ((x:Int) / 1099511627776 % 256),Value.int IntKind.u8 ((x:Int) / 4294967296 % 256),
     Value.int IntKind.u8 ((x:Int) / 16777216 % 256),Value.int IntKind.u8 ((x:Int) / 65536 % 256),
     Value.int IntKind.u8 ((x:Int) / 256 % 256),Value.int IntKind.u8 ((x:Int) % 256)]=Eb (Qs x):=by
  apply Array.toList_inj.1
  rfl
 rw [e]
 refine ⟨rfl,.agg (Eb (Qs x)),?_,rfl,(Jg _ _).alloc (Jb _) _⟩
 exact results_cell_row (P:=Tryz.prog) (fn:=Tryz.f228) (p:=2) (ty:=297) (by kernel_rfl) _ _ w.heap.size 297 _ (0,0) _ rfl (heap_alloc_new w _) Tryz.underlying297 rfl (by kernel_rfl)
theorem Bic (x:Nat) (w:World):Calls Tryz.prog 228 #[.int .u64 (x:Nat)] w fun e w'=>∃ y0 y1 y2 y3 y4 y5 y6 y7:Nat,Qs x=[y0,y1,y2,y3,y4,y5,y6,y7]∧e=.returned (.agg #[.int .u8 (y0:Nat),.int .u8 (y1:Nat),.int .u8 (y2:Nat),.int .u8 (y3:Nat),.int .u8 (y4:Nat),.int .u8 (y5:Nat),.int .u8 (y6:Nat),.int .u8 (y7:Nat)])∧Below w.heap.size w w':=by
 refine (Yp x w).mono ?_
 rintro e w' ⟨rfl,hb⟩
 exact ⟨_,_,_,_,_,_,_,_,rfl,rfl,hb⟩
def bcl (L:List Nat):List Value:=Lib.byteCells (L.map UInt8.ofNat)
theorem Sp (L:List Nat):(bcl L).length=L.length:=by simp [bcl,Lib.byteCells]
theorem Ba7 (L K:List Nat):bcl (L ++ K)=bcl L ++ bcl K:=by simp [bcl,Lib.byteCells]
theorem Bns {L:List Nat} (h:M.Low 256 L) {j:Nat} {u:Value} (hj:(bcl L)[j]?=some u):j<L.length∧u=.int .u8 (lm L j:Nat):=by
 unfold bcl Lib.byteCells at hj
 rw [List.map_map,List.getElem?_map] at hj
 obtain ⟨x,hx,rfl⟩:=Option.map_eq_some_iff.1 hj
 obtain ⟨hl,he⟩:=List.getElem?_eq_some_iff.1 hx
 refine ⟨hl,?_⟩
 have e:lm L j=x:=by unfold lm;rw [Jh,hx];rfl
 have hb:x<256:=by rw [← e];exact Ci (by omega) h j
 rw [e]
 show Value.int .u8 ((UInt8.ofNat x).toNat:Int)=_
 rw [UInt8.toNat_ofNat',Nat.mod_eq_of_lt hb]
theorem Bln (L:List Nat):∀ u∈bcl L,u.oneCell'=true:=by
 intro u hu
 unfold bcl Lib.byteCells at hu
 rw [List.map_map] at hu
 obtain ⟨x,_,rfl⟩:=List.mem_map.1 hu
 rfl
def NAt (D:List Nat) (n s0 k sk:Nat) (L:List Nat):Prop :=
 M.Low 256 L∧M.val 256 L.reverse=M.val Bb (D.drop k)∧L.length+8*k≤8*n∧((k=n∧L=[]∧sk=s0)∨(k<n∧sk=0∧lm L 0≠0))
theorem Yi {D:List Nat} {k:Nat} (h:k<D.length):D.drop k=lm D k :: D.drop (k+1):=by
 rw [List.drop_eq_getElem_cons h]
 congr 1
 unfold lm
 rw [Jh,List.getElem?_eq_getElem h];rfl
theorem Be6 {x s0:Nat} (h0:s0≤7) (h1:256 ^ (7 - s0)≤x) (h2:x<256 ^ (8 - s0)):lm ((Qs x).drop s0) 0≠0:=by
 rw [Yi (by rw [E6];omega)]
 show lm (Qs x) s0≠0
 rw [Bih x s0 (by omega)]
 have e:256 ^ (8 - s0)=256 ^ (7 - s0)*256:=by rw [← Nat.pow_succ];congr 1;omega
 rw [e] at h2
 have hp:0<256 ^ (7 - s0):=Nat.pow_pos (by omega)
 have q1:1≤x / 256 ^ (7 - s0):=(Nat.le_div_iff_mul_le hp).2 (by omega)
 have q2:x / 256 ^ (7 - s0)<256:=(Nat.div_lt_iff_lt_mul hp).2 (by rw [Nat.mul_comm];exact h2)
 rw [Nat.mod_eq_of_lt q2]
 omega
theorem NAt.step {D:List Nat} {n s0 k sk:Nat} {L:List Nat} (h:NAt D n s0 (k+1) sk L) (hn:n=D.length) (hd:M.Low Bb D) (hk:k<n) (h0:s0≤7)
  (h1:256 ^ (7 - s0)≤lm D (n - 1)) (h2:lm D (n - 1)<256 ^ (8 - s0)):sk≤7∧NAt D n s0 k 0 (L ++ (Qs (lm D k)).drop sk):=by
 obtain ⟨a1,a2,a3,a4⟩:=h
 have hx:=Ci Bm hd k
 have hdr:=Yi (D:=D) (k:=k) (by omega)
 rcases a4 with ⟨rfl,rfl,rfl⟩ | ⟨hk1,rfl,hne⟩
 ·rw [Nat.add_sub_cancel] at h1 h2
  have b:=Om (lm D k) (8 - sk) (by omega)
  rw [show 8 - (8 - sk)=sk by omega] at b
  obtain ⟨b1,b2,b3⟩:=b
  refine ⟨h0,by simpa using b2,?_,?_,Or.inr ⟨by omega,rfl,?_⟩⟩
  ·rw [List.nil_append,b3,Nat.mod_eq_of_lt h2,hdr,M.val_cons,List.drop_of_length_le (by omega)]
   simp [M.val]
  ·rw [List.nil_append,b1];omega
  ·rw [List.nil_append];exact Be6 h0 h1 h2
 ·refine ⟨by omega,a1.append ((Bcx _).drop 0),?_,?_,Or.inr ⟨hk,rfl,?_⟩⟩
  ·rw [List.drop_zero,List.reverse_append,M.val_append,List.length_reverse,E6,Blm _ hx,a2,hdr,M.val_cons]
   rfl
  ·rw [List.drop_zero,Ji,E6];omega
  ·have hl:0<L.length:=by
    rcases Nat.eq_zero_or_pos L.length with e | e
    ·exact absurd (Ek (by omega)) hne
    ·exact e
   have e:lm (L ++ (Qs (lm D k)).drop 0) 0=lm L 0:=by
    unfold lm
    rw [Jh,List.getElem?_append_left hl,← Jh]
   rw [e];exact hne
theorem NAt.fin {D:List Nat} {n s0 sk:Nat} {L:List Nat} (h:NAt D n s0 0 sk L) (hn:0<n):Cs L=Bw (M.val Bb D):=by
 obtain ⟨a1,a2,a3,a4⟩:=h
 have hne:lm L 0≠0:=by
  rcases a4 with ⟨e,_⟩ | ⟨_,_,h⟩
  ·omega
  ·exact h
 have:=O9 (k:=0) a1 rfl (Nat.zero_le _) (fun j hj=>by omega) (fun _=>hne)
 rw [List.drop_zero,a2,List.drop_zero] at this
 unfold Bw
 rw [← this]
theorem Bg4 {x s s0:Nat} (hs:s≤63) (hs0:s0=s / 8) (h1:9223372036854775808≤x*2 ^ s) (h2:x*2 ^ s<18446744073709551616):s0≤7∧256 ^ (7 - s0)≤x∧x<256 ^ (8 - s0):=by
 refine ⟨by omega,?_,?_⟩
 ·rcases Nat.lt_or_ge x (256 ^ (7 - s0)) with h | h
  ·exfalso
   have e:256 ^ (7 - s0)=2 ^ (8*(7 - s0)):=by rw [Nat.pow_mul]
   have h3:x*2 ^ s<256 ^ (7 - s0)*2 ^ s:=Nat.mul_lt_mul_of_pos_right h (Nat.pow_pos (by omega))
   rw [e,← Nat.pow_add] at h3
   have h4:2 ^ (8*(7 - s0)+s)≤2 ^ 63:=Nat.pow_le_pow_right (by omega) (by omega)
   have h5:(2:Nat) ^ 63=9223372036854775808:=by rfl
   omega
  ·exact h
 ·rcases Nat.lt_or_ge x (256 ^ (8 - s0)) with h | h
  ·exact h
  ·exfalso
   have e:256 ^ (8 - s0)=2 ^ (8*(8 - s0)):=by rw [Nat.pow_mul]
   have h3:256 ^ (8 - s0)*2 ^ s≤x*2 ^ s:=Jo _ h
   rw [e,← Nat.pow_add] at h3
   have h4:2 ^ 64≤2 ^ (8*(8 - s0)+s):=Nat.pow_le_pow_right (by omega) (by omega)
   have h5:(2:Nat) ^ 64=18446744073709551616:=by rfl
   omega
theorem Bdk (w:World) (g sk:Nat) (h:sk≤7) :
  (Instr.sliceAt 297 (.pointer (some ⟨g,0,none⟩)) (some (.int .i64 (sk:Nat))) none none).run Tryz.prog w=.ok (.slice (some ⟨g,sk,none⟩) (8 - sk) (8 - sk)) w:=by
 have hl:Tryz.prog.arrayLen 297=8:=by kernel_rfl
 have he:Tryz.prog.elem 297=5:=by kernel_rfl
 rw [run_sliceAt_array_l w 297 _ (by rw [hl,he];exact Tryz.underlying297) .i64 sk (by omega) (by rw [hl];omega),he,Tryz.sizeOf5,hl]
 have:¬ 8=sk:=by omega
 simp [Result.andThen,slicedAt,Addr.add,this]
 exact fun h=>h.symm
theorem Bjw (va:Value) (xs:List Nat) (w:World) (ha:Rd w va xs) (la:M.Low Bb xs) (hx:xs.length≤4000) :
  Calls Tryz.prog 199 #[va] w (Re w (.tuple #[I (Bw (M.val Bb xs)),.int .i64 0])):=by
 obtain ⟨V,hV⟩:∃ V,V=M.val Bb xs:=⟨_,rfl⟩
 rw [← hV]
 have ha0:=ha
 obtain ⟨a,ca,rfl,-,-⟩:=ha
 obtain ⟨D,hD⟩:∃ D,D=M.digs Bb V:=⟨_,rfl⟩
 obtain ⟨n,hn⟩:∃ n,n=D.length:=⟨_,rfl⟩
 have hn1:n≤4000:=by
  have:=M.digs_length_le Be la
  rw [← hV,← hD,← hn] at this
  omega
 have hVD:V=M.val Bb D:=by rw [hD,M.val_digs Be]
 have hDl:M.Low Bb D:=by rw [hD];exact M.Low.digs Be V
 have hDt:M.Trim D:=by rw [hD];exact M.trim_digs Be V
 have HV:=Ba hV
 have HD:=Ba hD
 have HN:=Ba hn
 have HVD:=Ba hVD
 clear hV hD hn hVD
 go_enter Tryz.func199,Tryz.ntmps199
 go_wp2_with fail
 refine (Bfh a xs.length ca _ 0 1 _ (by simp [go_sem]) hx).mono ?_
 rintro e w1 ⟨rfl,rfl⟩
 obtain ⟨w0,hw0⟩:∃ w0,w0=w.alloc (.cells #[.slice a xs.length ca] 64):=⟨_,rfl⟩
 have hb0:Below w.heap.size w w0:=by subst hw0;go_grown
 have ra:=ha0.b hb0
 rw [← hw0]
 clear hw0 ha0
 go_wp2_with fail
 refine (Dg w0 _ xs ra la (by omega)).mono ?_
 rintro e w1 ⟨v1,rfl,r1,hw⟩
 have hw:=hw.symm
 subst hw
 rw [← HV.out,← HD.out] at r1
 have r10:=r1
 obtain ⟨a1,c1,rfl,-,-⟩:=r1
 rw [← HN.out] at r10 ⊢
 by_cases hn0:n=0
 ·have he:Bw V=ByteArray.empty:=by
   have:=HN.out
   rw [hn0] at this
   rw [HVD.out,List.length_eq_zero_iff.1 this.symm]
   rfl
  have HE:=Ba he
  clear he
  subst hn0
  go_wp2
  go_ret2
  exact ⟨by rw [HE.out];rfl,hb0⟩
 ·obtain ⟨n1,hn1'⟩:∃ n1,n=n1+1:=⟨n - 1,by omega⟩
  obtain ⟨ab,ao,rfl,qa⟩:=r10.at (Jg _ _) (j:=n1) (by rw [← HN.out];omega)
  have htop:0<lm D n1:=Nat.pos_of_ne_zero (hDt n1 (by rw [← HN.out];exact hn1'))
  have hlt:=Ci Bm hDl n1
  have i1:(n:Int) - 1=(n1:Int):=by omega
  have i5:(n1:Int)<(n:Int):=by omega
  have HN1:=Ba hn1'
  clear hn1' hDt
  go_wp2_with fail
  refine (Li (lm D n1) htop hlt _).mono ?_
  rintro e w1 ⟨⟨s,rfl,hs,hs1,hs2⟩,hw⟩
  have hw:=hw.symm
  subst hw
  obtain ⟨s0,hs0⟩:∃ s0,s0=s / 8:=⟨_,rfl⟩
  obtain ⟨m,hm⟩:∃ m,m=8*n - s0:=⟨_,rfl⟩
  obtain ⟨z0,z1,z2⟩:=Bg4 hs hs0 hs1 hs2
  have Z1:=Ba z1
  have Z2:=Ba z2
  have j1:(s:Int) / 8=(s0:Int):=by omega
  have j2:8*(n:Int) - (s0:Int)=(m:Int):=by omega
  have m1:m≤32000:=by omega
  clear hs1 hs2 z1 z2 hs0 hm
  go_wp2_with fail
  refine (Sq w0.heap.size w0.heap.size m _ (Jb _) (heap_alloc_new w0 _) (by show w0.heap.size≤(w0.heap.push _).size;rw [Array.size_push];omega) (by omega)).mono ?_
  rintro e w1 ⟨rfl,hbu,hb1⟩
  have hb1:Below w0.heap.size w0 w1:=((Jg _ _).alloc (Jb _) _).trans hb1
  obtain ⟨B,hB⟩:∃ B,B=w0.heap.size:=⟨_,rfl⟩
  rw [← hB] at hbu ⊢
  have HB:=Ba hB
  have HBU:=Ba hbu
  clear hB hbu m1 j2
  go_wp2
  go_loopw [5,7] (fun sv i wr=>∃ (k sk:Nat) (L:List Nat),k≤n∧i=.int .i64 ((k:Int) - 1)∧sv=.int .i64 (sk:Nat)∧NAt D n s0 k sk L∧Lib.BuilderAt 158 5 B B (.pointer (some ⟨B,0,none⟩)) (bcl L) wr∧Below w0.heap.size w0 wr) (fun _ i _=>(intOf i+1).toNat)
  case atStart=>exact ⟨n,s0,[],Jb _,by go_num,rfl,⟨M.Low.nil _,by rw [List.drop_of_length_le (by have:=HN.out;omega)];rfl,by simp,Or.inl ⟨rfl,rfl,rfl⟩⟩,HBU.out,hb1⟩
  case round =>
   clear HBU hb1
   obtain ⟨k,sk,L,hk,rfl,rfl,hat,hbu,hbel⟩:=hrel
   match k with
   | 0 =>
    have FIN:=Ba (hat.fin (Nat.pos_of_ne_zero hn0))
    have hBw:B≤wr.heap.size:=by have:=HB.out;have:=hbel.size;omega
    have H37:=Ba (M7 B B (L.map UInt8.ofNat) wr (Or.inr hbu) hBw)
    have HB2:=Ba (Ia hb0 hbel)
    clear hat hbu
    go_wp2_with fail
    refine (H37.out).mono ?_
    rintro e w2 ⟨rfl,hb2⟩
    rw [HB.out] at hb2
    have hb3:=hb0.trans ((hbel.trans hb2).mono hb0.size)
    go_wp2
    go_ret2
    exact ⟨by rw [HVD.out,← FIN.out];rfl,hb3⟩
   | k+1 =>
    obtain ⟨hsk,st⟩:=hat.step HN.out hDl (by omega) z0 (by rw [HN1.out];exact Z1.out) (by rw [HN1.out];exact Z2.out)
    have ST:=Ba st
    have hLn:L.length+8*(k+1)≤8*n:=hat.2.2.1
    obtain ⟨ab',ao',ee,qk⟩:=r10.at hbel (j:=k) (by rw [← HN.out];omega)
    simp only [Option.some.injEq,Addr.mk.injEq,and_true] at ee
    obtain ⟨rfl,rfl⟩:=ee
    have i6:((k+1:Nat):Int) - 1=(k:Int):=by omega
    have i7:(k:Int)<(n:Int):=by omega
    rw [i6]
    have HBU:=Ba hbu
    clear hat st hbu i6 qa
    generalize lm D k=x at *
    go_wp2_with fail
    refine (Bic x _).mono ?_
    rintro e w2 ⟨y0,y1,y2,y3,y4,y5,y6,y7,hy,rfl,hb2⟩
    have HY:=Ba hy
    have HBU2:=Ba (K9 HBU.out hb2)
    have hbel2:Below w0.heap.size w0 w2:=Ia hbel hb2
    clear hy HBU
    have hsl:=fun wx=>Bdk wx w2.heap.size sk hsk
    go_wp2_with fail
    obtain ⟨w3,hw3⟩:∃ w3,w3=w2.alloc (.cells #[.int .u8 (y0:Nat),.int .u8 (y1:Nat),.int .u8 (y2:Nat),.int .u8 (y3:Nat),.int .u8 (y4:Nat),.int .u8 (y5:Nat),.int .u8 (y6:Nat),.int .u8 (y7:Nat)] 297):=⟨_,rfl⟩
    have hb3:Below w2.heap.size w2 w3:=by subst hw3;exact (Jg _ _).alloc (Jb _) _
    have hc3:∀ j,j<8→w3.cell? ⟨w2.heap.size,j,none⟩=some (.int .u8 (lm (Qs x) j:Nat)):=fun j hj=>by
     have hg:w3.heap[w2.heap.size]?=some (.cells (Eb (Qs x)) 297 (0,0)):=by
      rw [hw3,HY.out];exact heap_alloc_new w2 _
     have hj':j<(Qs x).length:=hj
     have e:lm (Qs x) j=(Qs x)[j]:=by unfold lm;rw [Jh,List.getElem?_eq_getElem hj'];rfl
     rw [Lib.cell_of_heap hg,e]
     simp [Eb,List.getElem?_eq_getElem hj']
    rw [← hw3]
    clear hw3 HY hsl
    have hbu3:=K9 HBU2.out hb3
    have hbel3:Below w0.heap.size w0 w3:=Ia hbel2 hb3
    have hBw:B≤w3.heap.size:=by have:=HB.out;have:=hbel3.size;omega
    refine (Bc7 B B (bcl L) ⟨w2.heap.size,sk,none⟩ (8 - sk) (8 - sk) (bcl ((Qs x).drop sk)) w3 hbu3 (by rw [Sp,List.length_drop,E6]) (fun j u hj=>?_) (Bln _) (by rw [Sp];omega) hBw).mono ?_
    ·obtain ⟨h1,rfl⟩:=Bns ((Bcx x).drop sk) hj
     rw [List.length_drop,E6] at h1
     rw [show (Addr.mk w2.heap.size sk none).add j=⟨w2.heap.size,sk+j,none⟩ by simp [Addr.add],hc3 (sk+j) (by omega)]
     simp [lm,List.getElem?_drop]
    ·rintro e w4 ⟨rfl,hbu4,hb4⟩
     rw [← Ba7] at hbu4
     rw [HB.out] at hb4
     have HBU4:=Ba hbu4
     have hbel4:=hbel3.trans hb4
     clear hbu4 HBU2 hbu3 hc3
     go_wp2
     exact ⟨⟨k,0,_,by omega,by go_num,rfl,ST.out,HBU4.out,hbel4⟩,by simp [intOf]⟩
end Go.Proofs.YtnplifkgeeicjaaGreatDoor
