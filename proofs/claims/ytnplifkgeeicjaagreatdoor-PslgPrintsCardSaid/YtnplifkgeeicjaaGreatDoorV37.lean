import Derived.Lib.AppendIntMem
import Derived.Test.YtnplifkgeeicjaaGreatDoorV32
import Derived.Test.YtnplifkgeeicjaaGreatDoorV36
set_option maxRecDepth 100000
set_option maxHeartbeats 4000000
namespace Go.Proofs.YtnplifkgeeicjaaGreatDoor
open Go.RowKit Go.Shelf Go.Sort
theorem Bks (u:Nat) (hu:100≤u) (hu64:u<18446744073709551616) (w:World) (htab:Lib.TabIs Tryz.prog w "internal/strconv.uint64pow10" .u64 Lib.pow10Tab) :
  Calls Tryz.prog 272 #[.int .u64 (u:Nat),.int .i64 10] w (Re w (I ⟨(Lib.decDigits u).toArray⟩)):=by
 have h1:¬ (u:Int)<100:=by omega
 have hu1:1≤u:=by omega
 have hnd20:Lib.nDigits u≤20:=by have:=Lib.numDigits_eq u hu1 hu64;split at this <;> omega
 have hal:Tryz.prog.arrayLen 288=24:=by simp [Program.arrayLen,Tryz.underlying288]
 have hsl1:∀ W,(Instr.sliceAt 288 (.pointer (some ⟨w.heap.size,0,none⟩)) none (some (.int .i64 (Lib.nDigits u:Int))) none).run Tryz.prog W=.ok (.slice (some ⟨w.heap.size,0,none⟩) (Lib.nDigits u) 24) W:=fun W=>by
  rw [run_sliceAt_array_h W 288 ⟨w.heap.size,0,none⟩ (by simp [Program.arrayLen,Program.elem,Tryz.underlying288]) .i64 (Lib.nDigits u:Int) (by omega) (by rw [hal];omega)]
  go_simp
 have hH0:=Lib.holds_zero0 w 288 (Lib.nDigits u) (by omega)
 have hfmt:=Ge w.heap.size 0 24 u (Array.replicate (Lib.nDigits u) 0) (w.alloc (.cells Lib.zeros24 288)) hH0 (by rw [Array.size_replicate];exact Lib.lt_pow_nDigits u) hu64 (by rw [Array.size_replicate];omega)
 rw [Array.size_replicate] at hfmt
 have HH0:=Lib.hid hH0
 have HF:=Ba hfmt
 clear hH0 hal hfmt
 have HN:=Ba (Gz u hu1 hu64 _ (Lib.tabIs_alloc htab (.cells Lib.zeros24 288)))
 go_enter Tryz.func272,Tryz.ntmps272
 go_wp2_with fail
 refine (show Calls _ _ _ _ _ from HN.out).mono ?_
 rintro e w' ⟨rfl,rfl⟩
 go_wp2_with fail
 refine (show Calls _ _ _ _ _ from HF.out).mono ?_
 rintro e w' ⟨rfl,k,v',dk,rfl,hF⟩
 have hcv:(convert 55 9 (.slice (some ⟨w.heap.size,0,none⟩) (Lib.nDigits u) 24)).run Tryz.prog ((putRow (fun (b:UInt8)=>Value.int .u8 (b.toNat:Int)) (w.alloc (.cells Lib.zeros24 288)) w.heap.size 0 dk).drewN k)=.ok (I ⟨(Lib.decDigits u).toArray⟩) ((putRow (fun (b:UInt8)=>Value.int .u8 (b.toNat:Int)) (w.alloc (.cells Lib.zeros24 288)) w.heap.size 0 dk).drewN k):=by
  have h:=run_convert_bytes_back (P:=Tryz.prog) ((putRow (fun (b:UInt8)=>Value.int .u8 (b.toNat:Int)) (w.alloc (.cells Lib.zeros24 288)) w.heap.size 0 dk).drewN k) 55 9 5 ⟨w.heap.size,0,none⟩ 24 (Lib.decDigits u) Tryz.underlying55 Tryz.underlying5 Tryz.underlying9 (fun j hj=>by
   rw [Lib.row_is_numeral hF j hj,Lib.add_plain,World.cell?_drewN]
   exact cell?_putRow (fun (b:UInt8)=>Value.int .u8 (b.toNat:Int)) _ w.heap.size 0 _ dk HH0.out (by rw [hF.size,Array.size_replicate]) j (by rw [hF.size];rw [Lib.decDigits_length] at hj;exact hj))
  rw [Lib.decDigits_length] at h
  exact h
 obtain ⟨os,eo⟩:=Lib.fin_at w (.cells Lib.zeros24 288) dk k 0
 have HB:Hid (Below w.heap.size w ((putRow (fun (b:UInt8)=>Value.int .u8 (b.toNat:Int)) (w.alloc (.cells Lib.zeros24 288)) w.heap.size 0 dk).drewN k)):=by
  show Below _ _ _
  rw [eo]
  exact Lib.below_grow _ _ (Jb _) _ _
 clear eo
 go_wp2
 go_ret
 exact ⟨rfl,HB.out⟩
theorem Bkt (u:Nat) (hu64:u<18446744073709551616) (w:World) (htab:Lib.TabIs Tryz.prog w "internal/strconv.uint64pow10" .u64 Lib.pow10Tab) :
  Calls Tryz.prog 255 #[.int .u64 (u:Nat),.int .i64 10] w (Re w (I ⟨(Lib.decDigits u).toArray⟩)):=by
 by_cases h:u<100
 ·exact (Bem u h w).mono fun e w' ⟨he,hw⟩=>⟨he,by rw [hw];exact Jg _ _⟩
 ·have H:=Ba (Bks u (by omega) hu64 w htab)
  go_enter Tryz.func255,Tryz.ntmps255
  go_wp2_with fail
  refine (H.out).mono ?_
  rintro e w1 ⟨rfl,b1⟩
  go_wp2
  go_ret
  exact ⟨rfl,b1⟩
open Go.RowKit Go.Shelf
def z19 (u:Nat):List UInt8:=List.replicate (19 - (Lib.decDigits u).length) 48 ++ Lib.decDigits u
theorem Mz:∀ (k u:Nat),u<10 ^ (k+1)→Lib.nDigits u≤k+1
 | 0,u,h=>by rw [Lib.nDigits_small (by simpa using h)];exact Jb _
 | k+1,u,h=>by
  by_cases hu:u<10
  ·rw [Lib.nDigits_small hu];omega
  ·rw [Lib.nDigits_big hu]
   have:=Mz k (u / 10) (by rw [Nat.pow_succ] at h;exact Nat.div_lt_of_lt_mul (by rw [Nat.mul_comm];exact h))
   omega
theorem Blz:∀ c:Nat,Lib.repeatL (ByteArray.mk #[48]).data.toList c=List.replicate c 48
 | 0=>rfl
 | c+1=>by rw [Lib.repeatL,Blz c,List.replicate_succ];rfl
theorem Bc5 (u:Nat):Lib.byteCells (z19 u)=Lib.strCells ⟨(List.replicate (19 - (Lib.decDigits u).length) (48:UInt8)).toArray⟩ ++ Lib.strCells ⟨(Lib.decDigits u).toArray⟩:=by
 rw [Po,Po]
 unfold z19 Lib.byteCells
 rw [List.map_append]
theorem Bbe {u:Nat} (h:u<10 ^ 19):(z19 u).length=19:=by
 unfold z19
 have:=Mz 18 u h
 rw [Ji,List.length_replicate,Lib.decDigits_length]
 omega
def Ee (w:World):Prop:=Lib.TabIs Tryz.prog w "internal/strconv.uint64pow10" .u64 Lib.pow10Tab
theorem Us (u:Nat) (hu:u<10 ^ 19) (B b:Nat) (bs:List Value) (v:Value) (a:Option Addr) (cap:Nat) (w:World) (hT:Ee w) (hv:Rd w v (M.digs Bb u)) (h:Lib.IsBuilderF 158 5 B b bs w) (hlen:bs.length≤1000000) (hBw:B≤w.heap.size) :
  Calls Tryz.prog 222 #[.pointer (some ⟨b,0,none⟩),v,.slice a 0 cap] w fun e w'=>e=.returned (.tuple #[])∧(Lib.BuilderAtF 158 5 B b (.pointer (some ⟨b,0,none⟩)) (bs ++ Lib.byteCells (z19 u)) w'∧Below B w w'∧Lib.OthersKept 5 (some b) w w'):=by
 have hu64:u<18446744073709551616:=Jl hu (by decide)
 have HF:=Ba (Bkt u hu64 w hT)
 have hn1:=Lib.nDigits_pos u
 have hn2:=Mz 18 u hu
 rw [← Lib.decDigits_length] at hn1 hn2
 obtain ⟨c,hc⟩:∃ c,c=19 - (Lib.decDigits u).length:=⟨_,rfl⟩
 have HRp:=Ba (fun w=>Ra ⟨#[48]⟩ c w (by omega) (show 1*c≤_ by omega))
 rw [Blz] at HRp
 have HC:=Ba (Bc5 u)
 rw [← hc] at HC
 have HW:=Ba (fun (bs:List Value) (s:ByteArray) (w:World) h hl hB=>Sx B b bs s w h hl hB)
 obtain ⟨S,hS⟩:∃ S:ByteArray,S=⟨(Lib.decDigits u).toArray⟩:=⟨_,rfl⟩
 have hSs:S.size=(Lib.decDigits u).length:=by rw [hS];simp [ByteArray.size]
 rw [← hS] at HF HC
 have hcs:(19:Int) - (S.size:Int)=(c:Nat):=by omega
 have hSl:S.size≤19:=by omega
 have hcl:c≤19:=by omega
 clear hS hSs hn1 hn2 hc
 obtain ⟨xs,hxs,hr⟩:∃ xs,(xs=[]∧u=0∨xs=[u])∧Rd w v xs:=by
  by_cases h0:u=0
  ·subst h0;exact ⟨[],Or.inl ⟨rfl,rfl⟩,hv⟩
  ·rw [Bhy (by omega) (by unfold Bb;omega)] at hv;exact ⟨[u],Or.inr rfl,hv⟩
 obtain ⟨av,cv,rfl,-,hcell⟩:=hr
 clear hv hu hT
 go_enter Tryz.func222,Tryz.ntmps222
 go_wp2
 go_loopw [6,19] (fun val i wr=>wr=w∧∃ k z:Nat,k≤xs.length∧i=.int .i64 (k:Nat)∧val=.int .u64 (z:Nat)∧(k=xs.length→z=u)) (fun _ i _=>xs.length - (intOf i).toNat)
 case atStart=>exact ⟨rfl,0,0,Nat.zero_le _,rfl,rfl,fun h=>by rcases hxs with ⟨rfl,h1⟩ | rfl;· exact h1.symm
                                                              ·simp at h⟩
 case round =>
  obtain ⟨rfl,k,z,hk,rfl,rfl,hz⟩:=hrel
  by_cases hlt:k<xs.length
  ·rcases hxs with ⟨rfl,-⟩ | rfl
   ·simp at hlt
   ·have hk0:k=0:=by simp at hlt;omega
    subst hk0
    obtain ⟨b',o',rfl,c0⟩:=hcell 0 (by simp)
    have c0':wr.cell? ⟨b',o',none⟩=some (.int .u64 (u:Nat)):=c0
    clear c0 hcell hz
    go_wp2
    exact ⟨⟨trivial,1,u,by simp,by go_num,rfl,fun _=>rfl⟩,by simp [intOf]⟩
  ·have hkk:k=xs.length:=by omega
   have hzz:=hz hkk
   subst hzz
   clear hz hxs hcell hlt hk
   go_wp2_with fail
   refine (HF.out).mono ?_
   rintro e w1 ⟨rfl,hb1⟩
   go_wp2_with fail
   refine (HRp.out w1).mono ?_
   rintro e w2 ⟨rfl,hb2'⟩
   have hb2:=Ia hb1 hb2'
   have h2:=D3 h hb2
   have hB2:B≤w2.heap.size:=Jf hBw hb2.size
   clear hb1 hb2'
   have hRs:(ByteArray.mk (List.replicate c (48:UInt8)).toArray).size=c:=by simp [ByteArray.size]
   obtain ⟨R,hR⟩:∃ R:ByteArray,R=⟨(List.replicate c (48:UInt8)).toArray⟩:=⟨_,rfl⟩
   rw [← hR] at HC hRs ⊢
   clear hR
   go_wp2_with fail
   refine (HW.out bs R w2 h2 (by omega) hB2).mono ?_
   rintro e w3 ⟨rfl,h3,hb3,k3⟩
   have hB3:B≤w3.heap.size:=Jf hB2 hb3.size
   go_wp2_with fail
   refine (HW.out _ S w3 (Or.inr h3) (by rw [Ji,Lib.strCells,List.length_map];simp;omega) hB3).mono ?_
   rintro e w4 ⟨rfl,h4,hb4,k4⟩
   have HE:=Ba h4
   have HK:=Ba (((Gh hb2 5 (some b)).trans k3).trans k4)
   clear k3 k4
   clear h4 h3 h2
   go_wp2
   refine bodyPost_ret (results_none rfl _ _ _) rfl ?_
   refine ⟨rfl,?_,((hb2.mono hBw).trans hb3).trans hb4,HK.out⟩
   rw [HC.out,← List.append_assoc]
   exact HE.out
open Go.RowKit Go.Shelf
def pw (i:Nat):Nat:=10 ^ (19*2 ^ i)
theorem O1 (i:Nat):0<pw i:=Nat.pow_pos (by omega)
theorem Lz (i:Nat):pw (i+1)=pw i*pw i:=by unfold pw;rw [← Nat.pow_add,Nat.pow_succ];congr 1;omega
def zP:Nat→Nat→List UInt8
 | 0,V=>z19 V
 | p+1,V=>zP p (V / pw p) ++ zP p (V % pw p)
theorem Uo:∀ (p V:Nat),V<pw p→(zP p V).length=19*2 ^ p
 | 0,V,h=>by rw [zP,Bbe (by simpa [pw] using h)]
 | p+1,V,h=>by
  rw [Lz] at h
  rw [zP,Ji,Uo p _ (Nat.div_lt_of_lt_mul h),Uo p _ (Nat.mod_lt _ (O1 p)),Nat.pow_succ]
  omega
def Pws (w:World) (g p:Nat):Prop:=(∃ cs fr,w.heap[g]?=some (.cells cs 64 fr))∧∀ i,i<p→∃ v,w.cell? ⟨g,i,none⟩=some v∧Rd w v (M.digs Bb (pw i))∧Ty w v
theorem Pws.less {w:World} {g p q:Nat} (h:Pws w g p) (hq:q≤p):Pws w g q:=⟨h.1,fun i hi=>h.2 i (by omega)⟩
theorem Ty.below' {w w':World} {v:Value} (h:Ty w v) (hb:Below w.heap.size w w'):Ty w' v:=fun b off n c e=>by
 obtain ⟨cs,fr,hh⟩:=h b off n c e
 exact ⟨cs,fr,Ec hb hh⟩
theorem Pws.b {w w':World} {g p:Nat} (h:Pws w g p) (hb:Below w.heap.size w w'):Pws w' g p:=by
 obtain ⟨⟨cs,fr,hg⟩,h⟩:=h
 refine ⟨⟨cs,fr,Ec hb hg⟩,fun i hi=>?_⟩
 obtain ⟨v,c,r,t⟩:=h i hi
 exact ⟨v,by rw [hb.cell (World.block_lt_of_cell? w _ c)];exact c,r.b hb,t.below' hb⟩
theorem Pws.others {w w':World} {g p b:Nat} (h:Pws w g p) (hk:Lib.OthersKept 5 (some b) w w') (hb:∀ cs fr,w.heap[b]?≠some (.cells cs 170 fr)) (hb':∀ cs fr,w.heap[b]?≠some (.cells cs 64 fr)):Pws w' g p:=by
 obtain ⟨⟨cs,fr,hg⟩,h⟩:=h
 have hgb:some g≠some b:=fun e=>by
  simp only [Option.some.injEq] at e
  subst e
  exact hb' _ _ hg
 have hg':=hk g _ hg hgb (fun c fz h=>by simp at h)
 refine ⟨⟨cs,fr,hg'⟩,fun i hi=>?_⟩
 obtain ⟨v,c,r,t⟩:=h i hi
 refine ⟨v,?_,r.others t hk hb,t.others hk hb⟩
 rw [World.cell?_of_block (w:=w) (a:=⟨g,i,none⟩) (by rw [hg,hg'])]
 exact c
theorem Ee.b {B:Nat} {w w':World} (h:Ee w) (hb:Below B w w') (h3:12<B):Ee w':=by
 unfold Ee Lib.TabIs World.var? at *
 rw [show Tryz.prog.globalNamed "internal/strconv.uint64pow10"=some 12 by kernel_rfl] at *
 simp only [Option.bind_some] at h ⊢
 rw [hb.block 12 h3]
 exact h
theorem Ol {T e:TypeId} {B b:Nat} {bs:List Value} {w:World} (hT:T≠64) (h:Lib.IsBuilderF T e B b bs w):∀ cs fr,w.heap[b]?≠some (.cells cs 64 fr):=by
 intro cs fr hh
 rcases h with ⟨-,v,hb,-⟩ | ⟨-,v,hb,-⟩ <;>
 ·rw [hb] at hh
  simp at hh
  exact hT hh.2.1
def Wd (p:Nat):Prop:=∀ (V:Nat) (_:V<pw p) (B b g cap:Nat) (bs:List Value) (v:Value) (w:World) (_:p≤cap) (_:Ee w) (_:12<B) (_:Rd w v (M.digs Bb V)) (_:Pws w g p) (_:Lib.IsBuilderF 158 5 B b bs w) (_:bs.length+19*2 ^ p≤1000000) (_:B≤w.heap.size),
  Calls Tryz.prog 222 #[.pointer (some ⟨b,0,none⟩),v,.slice (some ⟨g,0,none⟩) p cap] w fun e w'=>e=.returned (.tuple #[])∧(Lib.BuilderAtF 158 5 B b (.pointer (some ⟨b,0,none⟩)) (bs ++ Lib.byteCells (zP p V)) w'∧Below B w w'∧Lib.OthersKept 5 (some b) w w')
theorem Bbh:Wd 0:=fun V hV B b g cap bs v w _ hT h3 hv hp h hl hB =>
 Us V (by simpa [pw] using hV) B b bs v _ cap w hT hv h (by omega) hB
theorem Bhx {n k:Nat} (h:n<10 ^ k):(M.digs Bb n).length≤k:=M.digs_len_of_lt Be (Jl h (Nat.pow_le_pow_left (by decide) k))
theorem Bnj {V p:Nat} (hV:V<pw (p+1)) (hp:p≤5) (v0 v1:Value) (w:World) (r0:Rd w v0 (M.digs Bb V)) (r1:Rd w v1 (M.digs Bb (pw p))) :
  Calls Tryz.prog 173 #[v0,v1] w fun e w'=>∃ q r,e=.returned (.tuple #[q,r,.int .i64 0])∧Rd w' q (M.digs Bb (V / pw p))∧Rd w' r (M.digs Bb (V % pw p))∧Ty w' q∧Ty w' r∧Below w.heap.size w w':=by
 have hk:∀ n,n<pw (p+1)→(M.digs Bb n).length≤4000:=fun n h=>by
  have h2:2 ^ (p+1)≤2 ^ 6:=Nat.pow_le_pow_right (by omega) (by omega)
  exact Jf (Bhx h) (by omega)
 have hpp:pw p<pw (p+1):=by unfold pw;exact Nat.pow_lt_pow_right (by omega) (by rw [Nat.pow_succ];have:=Nat.pow_pos (n:=p) (show 0<2 by omega);omega)
 refine (Pa v0 v1 _ _ w r0 r1 (M.Low.digs Be _) (M.Low.digs Be _) (hk _ hV) (hk _ hpp)).mono ?_
 rw [M.val_digs Be,M.val_digs Be]
 rintro e w' ⟨-,h,hb⟩
 obtain ⟨q,r,rfl,hq,hr,tq,tr⟩:=h (O1 p)
 exact ⟨q,r,rfl,hq,hr,tq,tr,hb⟩
theorem Bi1 (p:Nat) (hp5:p≤5) (ih:Wd p):Wd (p+1):=by
 intro V hV B b g cap bs v w hcap hT h3 hv hP h hl hB
 obtain ⟨pv,hc,hpv,-⟩:=hP.2 p (by omega)
 have HD:=Ba (Bnj hV hp5 v pv w hv hpv)
 have hq:V / pw p<pw p:=Nat.div_lt_of_lt_mul (by rw [← Lz];exact hV)
 have hr:V % pw p<pw p:=Nat.mod_lt _ (O1 p)
 have hz:=Uo p _ hq
 have h2:2 ^ (p+1)=2*2 ^ p:=by rw [Nat.pow_succ,Nat.mul_comm]
 have HL:Hid (bs.length+19*2 ^ p≤1000000∧(bs ++ Lib.byteCells (zP p (V / pw p))).length+19*2 ^ p≤1000000):=by
  show _∧_
  rw [Ji,Lib.byteCells,List.length_map,hz]
  omega
 have HZ:Hid (zP (p+1) V=zP p (V / pw p) ++ zP p (V % pw p)):=rfl
 have H0:=Ba (ih (V / pw p) hq B b g)
 have H1:=Ba (ih (V % pw p) hr B b g)
 have HP:=Ba (hP.less (q:=p) (by omega))
 have HT:=Ba hT
 clear hz h2 hl hq hr ih hP hT
 obtain ⟨av,cv,rfl,-,-⟩:=id hv
 obtain ⟨ap,cp,rfl,-,-⟩:=id hpv
 clear hv hpv
 generalize V / pw p=Q at *
 generalize V % pw p=R at *
 generalize hpp:pw p=PP at *
 generalize (M.digs Bb V).length=LV at *
 generalize (M.digs Bb PP).length=LP at *
 have c1:¬ ((p+1:Nat):Int)=0:=by omega
 go_enter Tryz.func222,Tryz.ntmps222
 go_wp2_with fail
 refine (HD.out).mono ?_
 rintro e w1 ⟨q,r,rfl,rq,rr,tq,tr,hb1⟩
 obtain ⟨aq,cq,rfl,-,-⟩:=id rq
 obtain ⟨ar,cr,rfl,-,-⟩:=id rr
 have i1:=D3 h hb1
 have hB1:B≤w1.heap.size:=Jf hB hb1.size
 have P1:=Ba (HP.out.b hb1)
 have T1:=Ba (HT.out.b (hb1.mono hB) h3)
 clear HD h HP HT hc
 go_wp2_with fail
 refine (H0.out _ bs _ w1 (Jb _) T1.out h3 rq P1.out i1 HL.out.1 hB1).mono ?_
 rintro e w2 ⟨rfl,i2,hb2,k2⟩
 have hB2:B≤w2.heap.size:=Jf hB1 hb2.size
 have rr2:=rr.others tr k2 (Ho (by decide) i1)
 have P2:=Ba (P1.out.others k2 (Ho (by decide) i1) (Ol (by decide) i1))
 have T2:=Ba (T1.out.b hb2 h3)
 clear rr tr rq tq P1 T1 H0
 go_wp2_with fail
 refine (H1.out _ _ _ w2 (Jb _) T2.out h3 rr2 P2.out (Or.inr i2) HL.out.2 hB2).mono ?_
 rintro e w3 ⟨rfl,i3,hb3,k3⟩
 have HI:=Ba i3
 have HB:=Ba (((hb1.mono hB).trans hb2).trans hb3)
 have HK:=Ba (((Gh hb1 5 (some b)).trans k2).trans k3)
 clear i2 i3 hb1 hb2 hb3 k2 k3 i1
 go_wp2
 refine bodyPost_end (results_none rfl _ _ _) rfl ?_
 refine ⟨rfl,?_,HB.out,HK.out⟩
 rw [HZ.out,Lib.byteCells,List.map_append,← List.append_assoc]
 exact HI.out
theorem Bff:∀ p,p≤6→Wd p
 | 0,_=>Bbh
 | p+1,h=>Bi1 p (by omega) (Bff p (by omega))
open Go.RowKit Go.Shelf
theorem Bg3 (va vb:Value) (xs ys:List Nat) (w:World) (ha:Rd w va xs) (hb:Rd w vb ys) (la:M.Low Bb xs) (lb:M.Low Bb ys) (hx:xs.length≤4000) (hy:ys.length≤4000) :
  Calls Tryz.prog 132 #[va,vb] w fun e w'=>∃ v,e=.returned (.tuple #[v,.int .i64 0])∧Rd w' v (M.digs Bb (M.val Bb xs*M.val Bb ys))∧Ty w' v∧Below w.heap.size w w':=by
 have ha0:=ha
 have hb0:=hb
 obtain ⟨a,ca,rfl,hca,-⟩:=ha
 obtain ⟨b,cb,rfl,hcb,-⟩:=hb
 have l1:=M.digs_length_le Be la
 have l2:=M.digs_length_le Be lb
 go_enter Tryz.func132,Tryz.ntmps132
 go_wp2_with fail
 refine (Hx a b xs.length ys.length ca cb _ 0 2 _ (by simp [go_sem]) (by simp [go_sem]) hx hy).mono ?_
 rintro e w1 ⟨rfl,rfl⟩
 have hb1:Below w.heap.size w (w.alloc (.cells #[.slice a xs.length ca,.slice b ys.length cb] 64)):=by go_grown
 have ra:=ha0.b hb1
 have rb:=hb0.b hb1
 go_wp2_with fail
 refine (Dg _ _ xs ra la (by omega)).mono ?_
 rintro e w1 ⟨v1,rfl,r1,rfl⟩
 go_wp2_with fail
 refine (Dg _ _ ys rb lb (by omega)).mono ?_
 rintro e w1 ⟨v2,rfl,r2,rfl⟩
 have h43:=Rt 8000 (by omega) v1 v2 _ _ _ r1 r2 (M.Low.digs Be _) (M.Low.digs Be _) (by omega)
 rw [M.val_digs Be,M.val_digs Be] at h43
 have H43:=Ba h43
 generalize w.alloc (.cells #[.slice a xs.length ca,.slice b ys.length cb] 64)=W at *
 clear h43
 go_wp2_with fail
 refine H43.out.mono ?_
 rintro e w2 ⟨g,zs,rfl,k2,n2,lz,v2',s2,f2⟩
 have rz:=k2.rd0 _ (Jb _)
 have V2:=Ba v2'
 have N2:=Ba n2
 clear v2' n2
 go_wp2_with fail
 have tz:Ty w2 (.slice (some ⟨g,0,none⟩) zs.length zs.length):=fun b off n c e=>by
  simp only [Value.slice.injEq,Option.some.injEq,Addr.mk.injEq] at e
  obtain ⟨⟨rfl,-,-⟩,-,-⟩:=e
  exact ⟨_,_,k2⟩
 refine (Mu _ _ zs rz lz (by rw [N2.out];omega)).mono ?_
 rintro e w3 ⟨v3,rfl,r3,t3,rfl⟩
 go_wp2
 go_ret2
 exact ⟨_,rfl,by rw [← V2.out];exact r3,t3 tz,Ia hb1 f2⟩
open Go.RowKit Go.Shelf
def dtB (V:Nat):List UInt8:=(dt V).map UInt8.ofNat
def pad:Nat→Nat→List UInt8
 | 0,_=>[]
 | k+1,V=>pad k (V / 10) ++ [UInt8.ofNat (48+V % 10)]
theorem Rv:∀ k,pad k 0=List.replicate k 48
 | 0=>rfl
 | k+1=>by rw [pad,Nat.zero_div,Rv k,List.replicate_succ'];rfl
theorem Se:dtB 0=[]:=rfl
theorem Od {V:Nat} (h:0<V):dtB V=dtB (V / 10) ++ [UInt8.ofNat (48+V % 10)]:=by
 unfold dtB
 rw [Sc h,List.map_append]
 rfl
theorem Bai:∀ (k V:Nat),V<10 ^ k→∃ m,pad k V=List.replicate m 48 ++ dtB V
 | 0,V,h=>by
  have:V=0:=by simpa using h
  subst this
  exact ⟨0,rfl⟩
 | k+1,V,h=>by
  by_cases h0:V=0
  ·subst h0
   exact ⟨k+1,by rw [Rv,Se,List.append_nil]⟩
  ·obtain ⟨m,e⟩:=Bai k (V / 10) (by rw [Nat.pow_succ] at h;exact Nat.div_lt_of_lt_mul (by rw [Nat.mul_comm];exact h))
   exact ⟨m,by rw [pad,e,Od (V:=V) (by omega),List.append_assoc]⟩
theorem Bb4:∀ k V,(pad k V).length=k
 | 0,_=>rfl
 | k+1,V=>by rw [pad,Ji,Bb4 k];rfl
theorem Bb5 (j:Nat):∀ (k V:Nat),pad (j+k) V=pad j (V / 10 ^ k) ++ pad k (V % 10 ^ k)
 | 0,V=>by rw [Nat.pow_zero,Nat.div_one,pad,List.append_nil];rfl
 | k+1,V=>by
  rw [← Nat.add_assoc,pad,Bb5 j k (V / 10),pad,List.append_assoc]
  have e1:V / 10 / 10 ^ k=V / 10 ^ (k+1):=by rw [Nat.div_div_eq_div_mul,Nat.pow_succ,Nat.mul_comm]
  have e2:V % 10 ^ (k+1) / 10=V / 10 % 10 ^ k:=by rw [Nat.pow_succ,Nat.mul_comm,Nat.mod_mul_right_div_self]
  have e3:V % 10 ^ (k+1) % 10=V % 10:=by rw [Nat.pow_succ];exact Nat.mod_mul_left_mod ..
  rw [e1,e2,e3]
theorem Bh4:∀ (n V:Nat),V<n→0<V→Lib.decDigits V=dtB V
 | 0,V,h,_=>absurd h (Nat.not_lt_zero _)
 | n+1,V,h,h0=>by
  rw [Lib.decDigits]
  by_cases h1:V<10
  ·rw [dif_pos h1,Od h0,Nat.div_eq_of_lt h1,Nat.mod_eq_of_lt h1,Se];rfl
  ·rw [dif_neg h1,Bh4 n (V / 10) (by omega) (by omega),Od h0]
theorem Biy {V:Nat} (h:V<10 ^ 19):z19 V=pad 19 V:=by
 by_cases h0:V=0
 ·subst h0
  rw [Rv,z19,Lib.decDigits,dif_pos (by omega)]
  rfl
 ·obtain ⟨m,e⟩:=Bai 19 V h
  have l1:=Bb4 19 V
  have l2:=Bbe h
  rw [e] at l1
  rw [e]
  unfold z19 at l2 ⊢
  rw [Bh4 (V+1) V (by omega) (by omega)] at l2 ⊢
  rw [Ji,List.length_replicate] at l1 l2
  rw [show 19 - (dtB V).length=m by omega]
theorem Yx:∀ (p V:Nat),V<pw p→zP p V=pad (19*2 ^ p) V
 | 0,V,h=>by rw [zP,Biy (by simpa [pw] using h)]
 | p+1,V,h=>by
  rw [Lz] at h
  rw [zP,Yx p _ (Nat.div_lt_of_lt_mul h),Yx p _ (Nat.mod_lt _ (O1 p)),show 19*2 ^ (p+1)=19*2 ^ p+19*2 ^ p by rw [Nat.pow_succ];omega,Bb5]
  rfl
theorem Yh:∀ (n V:Nat),V<n→0<V→∃ c l,dtB V=c :: l∧c≠48
 | 0,V,h,_=>absurd h (Nat.not_lt_zero _)
 | n+1,V,h,h0=>by
  by_cases h1:V<10
  ·refine ⟨UInt8.ofNat (48+V),[],?_,?_⟩
   ·rw [Od h0,Nat.div_eq_of_lt h1,Nat.mod_eq_of_lt h1,Se];rfl
   ·intro e
    have:=congrArg UInt8.toNat e
    rw [UInt8.toNat_ofNat_of_lt' (by show 48+V<256;omega)] at this
    have:48+V=48:=this
    omega
  ·obtain ⟨c,l,e,hc⟩:=Yh n (V / 10) (by omega) (by omega)
   exact ⟨c,l ++ [UInt8.ofNat (48+V % 10)],by rw [Od h0,e];rfl,hc⟩
theorem Wn {p V:Nat} (h:V<pw p):Lib.trimLeftB (zP p V) 48=dtB V:=by
 obtain ⟨m,e⟩:=Bai (19*2 ^ p) V h
 rw [Yx p V h,e]
 clear e
 induction m with
 | zero =>
  rw [List.replicate_zero,List.nil_append]
  by_cases h0:V=0
  ·subst h0;rfl
  ·obtain ⟨c,l,e,hc⟩:=Yh (V+1) V (by omega) (by omega)
   rw [e]
   simp [Lib.trimLeftB,hc]
 | succ m ih =>
  rw [List.replicate_succ,List.cons_append]
  simpa [Lib.trimLeftB] using ih
open Go.RowKit Go.Shelf
theorem Ph {w:World} {ops:Array Oper} {rest:List Oper} {o:Oper} {a:Act} {Q:Exit→Act→World→Prop}
  (hg:o.guard=none) (s x:Operand) (hop:o.op=Op.call { callee:=Callee.builtin Builtin.append,args:=#[s,x],argTypes:=#[281,281] })
  (sv:Value) (n:Nat) (vs:List Value) (hs:a.eval s=sv) (B:Nat) (hown:w.ownsRow B 64 1 sv n vs) (hB:B≤w.heap.size) (b:Nat) (hx:a.eval x=.slice (some ⟨b,0,none⟩) 1 1) (p:Value) (hp:p.oneCell'=true) (hc:w.cell? ⟨b,0,none⟩=some p) (hn:n≤1000)
  (hK:∀ v' w',w'.ownsRow B 64 1 v' (n+1) (vs ++ [p])→w.grownBy w' sv.ownBlock→wpList Tryz.prog ops Q rest (a.put o.dst v') w') :
  wpList Tryz.prog ops Q (o :: rest) a w:=by
 obtain ⟨i0,hi,hz0,hz1,hz2⟩:=info_parts (show (Tryz.prog.info? 64).map (fun i=>(i.zero,i.size,i.bytes))=some (some (.slice none 0 0),1,24) by kernel_rfl)
 refine wpList_append_own _ hg s x 281 hop B 64 i0 (.slice none 0 0) 1 24 Tryz.underlying281 hi hz0 hz1 hz2 rfl (by decide) sv n vs hs hown ⟨b,0,none⟩ 1 1 [p] hx (by simp) ?_ ?_ ?_ ?_ hB ?_
 ·intro j u hj
  match j,hj with
  | 0,hj=>simp at hj;subst hj;simpa [Addr.add] using hc
 ·intro u hu;simp at hu;subst hu;exact hp
 ·unfold maxLen;omega
 ·omega
 ·intro v' w1 hown' hgrow hnil
  exact hK v' w1 hown' hgrow
theorem Ub {w:World} {B n:Nat} {sv:Value} {vs:List Value} (h:w.ownsRow B 64 1 sv n vs):∀ g,sv.ownBlock=some g→B≤g∧∃ cs,w.heap[g]?=some (.cells cs 64 (0,0)):=by
 intro g hg
 rcases h.2 with ⟨rfl,-⟩ | ⟨g',cap,cur,rfl,hB,hh,-⟩
 ·simp [Value.ownBlock] at hg
 ·simp [Value.ownBlock] at hg
  subst hg
  exact ⟨hB,_,hh⟩
theorem Rq {w w':World} {v:Value} {xs:List Nat} {row:Option Nat} (h:Rd w v xs) (ht:Ty w v) (hg:w.grownBy w' row) (hr:∀ g,row=some g→∃ cs,w.heap[g]?=some (.cells cs 64 (0,0))):Rd w' v xs∧Ty w' v:=by
 have key:∀ (b:Nat) (cs:Array Value) (fr:Nat × Nat),w.heap[b]?=some (Obj.cells cs 170 fr)→w'.heap[b]?=w.heap[b]?:=fun b cs fr hb=>by
  have hlt:b<w.heap.size:=by
   rcases Nat.lt_or_ge b w.heap.size with h' | h'
   ·exact h'
   ·rw [Array.getElem?_eq_none h'] at hb;cases hb
  refine hg.block b hlt (fun e=>?_)
  obtain ⟨cs',hh⟩:=hr b e.symm
  rw [hb] at hh
  simp at hh
 refine ⟨?_,fun b off n c e=>?_⟩
 ·obtain ⟨a,cap,rfl,hc,h⟩:=h
  refine ⟨a,cap,rfl,hc,fun j hj=>?_⟩
  obtain ⟨b,off,rfl,hcell⟩:=h j hj
  obtain ⟨cs,fr,hh⟩:=ht b off _ _ rfl
  exact ⟨b,off,rfl,by rw [World.cell?_of_block (w:=w) (a:=⟨b,off+j,none⟩) (key b cs fr hh)];exact hcell⟩
 ·obtain ⟨cs,fr,hh⟩:=ht b off n c e
  exact ⟨cs,fr,by rw [key b cs fr hh];exact hh⟩
theorem Kr {w w':World} {B n:Nat} {sv:Value} {vs:List Value} (h:w.ownsRow B 64 1 sv n vs) (hb:Below w.heap.size w w'):w'.ownsRow B 64 1 sv n vs:=by
 refine ⟨h.1,?_⟩
 rcases h.2 with h | ⟨g,cap,cur,e,hB,hh,rest⟩
 ·exact Or.inl h
 ·exact Or.inr ⟨g,cap,cur,e,hB,Ec hb hh,rest⟩
def Pv (w:World) (k:Nat) (vs:List Value):Prop:=∀ i,i<k→∃ v,vs[i]?=some v∧Rd w v (M.digs Bb (pw i))∧Ty w v
theorem Pv.b {w w':World} {k:Nat} {vs:List Value} (h:Pv w k vs) (hb:Below w.heap.size w w'):Pv w' k vs:=fun i hi=>by
 obtain ⟨v,e,r,t⟩:=h i hi
 exact ⟨v,e,r.b hb,t.below' hb⟩
theorem Pv.grown {w w':World} {k:Nat} {vs:List Value} {row:Option Nat} (h:Pv w k vs) (hg:w.grownBy w' row) (hr:∀ g,row=some g→∃ cs,w.heap[g]?=some (.cells cs 64 (0,0))):Pv w' k vs:=fun i hi=>by
 obtain ⟨v,e,r,t⟩:=h i hi
 obtain ⟨r',t'⟩:=Rq r t hg hr
 exact ⟨v,e,r',t'⟩
theorem Pv.more {w:World} {k:Nat} {vs:List Value} {v:Value} (h:Pv w k vs) (hl:vs.length=k) (r:Rd w v (M.digs Bb (pw k))) (t:Ty w v):Pv w (k+1) (vs ++ [v]):=fun i hi=>by
 by_cases e:i=k
 ·subst e
  exact ⟨v,by rw [List.getElem?_append_right (by omega),hl,Nat.sub_self];rfl,r,t⟩
 ·obtain ⟨u,e1,r1,t1⟩:=h i (by omega)
  exact ⟨u,by rw [List.getElem?_append_left (by omega)];exact e1,r1,t1⟩
theorem Bgk {w:World} {B k g cap:Nat} {vs:List Value} (h:w.ownsRow B 64 1 (.slice (some ⟨g,0,none⟩) k cap) k vs) (hv:Pv w k vs):k≤cap∧Pws w g k:=by
 rcases h.2 with ⟨h0,-⟩ | ⟨g',cap',cur,e,hB,hh,hc,-⟩
 ·simp at h0
 ·simp only [Value.slice.injEq,Option.some.injEq,Addr.mk.injEq] at e
  obtain ⟨⟨rfl,-,-⟩,-,rfl⟩:=e
  refine ⟨hc,⟨_,_,hh⟩,fun i hi=>?_⟩
  obtain ⟨v,e1,r,t⟩:=hv i hi
  refine ⟨v,?_,r,t⟩
  have:=World.ownsRow.cells h (g:=g) rfl i v e1
  rwa [Lib.add_plain,Nat.zero_add] at this
theorem Bi5 (a b k:Nat) (h:a*b≤19*2 ^ k):(10 ^ a) ^ b≤pw k:=by
 rw [← Nat.pow_mul]
 exact Nat.pow_le_pow_right (by omega) h
theorem Bm1 {k:Nat} (hk:6≤k):50<(M.digs Bb (pw k)).length:=by
 rcases Nat.lt_or_ge 50 (M.digs Bb (pw k)).length with h | h
 ·exact h
 ·have h1:=M.val_lt (b:=Bb) (by decide) (M.Low.digs Be (pw k))
  rw [M.val_digs Be] at h1
  have h2:Bb ^ (M.digs Bb (pw k)).length≤Bb ^ 50:=Nat.pow_le_pow_right (by decide) h
  have h3:Bb ^ 50≤(10 ^ 20) ^ 50:=Nat.pow_le_pow_left (by decide) 50
  have h5:2 ^ 6≤2 ^ k:=Nat.pow_le_pow_right (by omega) hk
  have h4:=Bi5 20 50 k (by omega)
  generalize pw k=P at *
  omega
open Go.RowKit Go.Shelf
theorem Bby {k:Nat} (hk:k≤7):(M.digs Bb (pw k)).length≤4000:=by
 have h2:2 ^ k≤2 ^ 7:=Nat.pow_le_pow_right (by omega) hk
 have:pw k<10 ^ (19*2 ^ k+1):=by unfold pw;exact Nat.pow_lt_pow_right (by omega) (by omega)
 exact Jf (Bhx this) (by omega)
theorem Wp:[Bfn]=M.digs Bb (pw 0):=by decide
theorem Bl1 {V k:Nat} (h:(M.digs Bb V).length<(M.digs Bb (pw k)).length):V<pw k:=by
 rcases Nat.lt_or_ge V (pw k) with h1 | h1
 ·exact h1
 ·have:=Ke (b:=Bb) Be h1
  omega
theorem Bae (va:Value) (V:Nat) (w:World) (ha:Rd w va (M.digs Bb V)) (hV:(M.digs Bb V).length≤50) :
  Calls Tryz.prog 223 #[va] w fun e w'=>∃ ps k vs,e=.returned ps∧w'.ownsRow w.heap.size 64 1 ps k vs∧Pv w' k vs∧k≤6∧V<pw k∧Below w.heap.size w w':=by
 obtain ⟨a,ca,rfl,-,-⟩:=ha
 go_enter Tryz.func223,Tryz.ntmps223
 go_wp2_with fail
 obtain ⟨w0,hw0⟩:∃ w0,w0=w.alloc (.cells #[.int .u64 10000000000000000000] 170):=⟨_,rfl⟩
 have hb0:Below w.heap.size w w0:=by rw [hw0];exact (Jg _ _).alloc (Jb _) _
 have r0:Rd w0 (.slice (some ⟨w.heap.size,0,none⟩) 1 1) (M.digs Bb (pw 0)):=by rw [← Wp,hw0];exact Yt w rfl Bfn
 have t0:Ty w0 (.slice (some ⟨w.heap.size,0,none⟩) 1 1):=fun b off n c e=>by
  simp only [Value.slice.injEq,Option.some.injEq,Addr.mk.injEq] at e
  obtain ⟨⟨rfl,-,-⟩,-,-⟩:=e
  exact ⟨_,_,by rw [hw0];exact heap_alloc_new w _⟩
 rw [← hw0]
 clear hw0
 generalize hL:(M.digs Bb V).length=L at *
 go_loopw [3,4] (fun ps pv wr=>∃ k vs,wr.ownsRow w.heap.size 64 1 ps k vs∧Pv wr k vs∧Rd wr pv (M.digs Bb (pw k))∧Ty wr pv∧k≤6∧Below w.heap.size w wr) (fun ps _ _=>7 - Nl ps)
 case atStart=>exact ⟨0,[],World.ownsRow_nil _ _ _ _,fun i hi=>absurd hi (Nat.not_lt_zero _),r0,t0,by omega,hb0⟩
 case round =>
  clear r0 t0 hb0
  obtain ⟨k,vs,ho,hv,rp,tp,hk,bb⟩:=hrel
  obtain ⟨ap,cp,rfl,-,-⟩:=id rp
  have hl:vs.length=k:=by have:=ho.1;omega
  by_cases hlt:(M.digs Bb (pw k)).length≤L
  ·have hk3:k≤5:=by
    rcases Nat.lt_or_ge k 6 with h | h
    ·omega
    ·have:=Bm1 h;omega
   have HMu:=Ba (fun w v (r:Rd w v (M.digs Bb (pw k)))=>Bg3 v v _ _ w r r (M.Low.digs Be _) (M.Low.digs Be _) (Bby (by omega)) (Bby (by omega)))
   rw [M.val_digs Be,← Lz] at HMu
   have HSL:Hid (Nl u3=k):=by
    show Nl u3=k
    rcases ho.2 with ⟨h,h0⟩ | ⟨g,cap,cur,h,-⟩
    ·rw [h,h0];rfl
    ·rw [h];rfl
   generalize hN:(M.digs Bb (pw k)).length=N at *
   have hlt':(N:Int)≤(L:Int):=by omega
   obtain ⟨w1,hw1⟩:∃ w1,w1=wr.alloc (.cells #[.slice ap N cp] 64):=⟨_,rfl⟩
   have hb1:Below wr.heap.size wr w1:=by rw [hw1];exact (Jg _ _).alloc (Jb _) _
   have c1:w1.cell? ⟨wr.heap.size,0,none⟩=some (.slice ap N cp):=by rw [hw1];simp
   have o1:=Kr ho hb1
   have v1:=hv.b hb1
   have r1:=rp.b hb1
   have t1:=tp.below' hb1
   have b1:=Ia bb hb1
   have ob:=Ub o1
   clear ho hv rp tp bb
   go_wp2_with (at_builtin;rw [← hw1];refine Ph rfl _ _ rfl u3 k vs rfl w.heap.size o1 b1.size wr.heap.size rfl (.slice ap N cp) rfl c1 (by omega) ?_;intro ps2 w2 o2 hg2)
   obtain ⟨r2,t2⟩:=Rq r1 t1 hg2 (fun g h=>(ob g h).2)
   have v2:=(v1.grown hg2 (fun g h=>(ob g h).2)).more hl r2 t2
   have b2:Below w.heap.size w w2:=b1.grown hg2 b1.size (fun g h=>(ob g h).1)
   clear hw1 c1 o1 v1 r1 t1 b1 ob hb1 hg2
   refine (HMu.out w2 _ r2).mono ?_
   rintro e w3 ⟨v3,rfl,r3,t3,hb3⟩
   obtain ⟨a3,c3,rfl,-,-⟩:=id r3
   have O3:=Ba (Kr o2 hb3)
   have V3:=Ba (v2.b hb3)
   have B3:=Ba (Ia b2 hb3)
   have R3:=Ba r3
   have T3:=Ba t3
   have HS3:Hid (7 - Nl ps2<7 - Nl u3):=by
    show _<_
    rw [HSL.out]
    have:Nl ps2=k+1:=by
     rcases o2.2 with ⟨h,h0⟩ | ⟨g,cap,cur,h,-⟩
     ·omega
     ·rw [h];rfl
    omega
   clear r2 t2 v2 b2 o2 hb3 r3 t3 HMu
   generalize (M.digs Bb (pw (k+1))).length=N3 at *
   go_wp2
   exact ⟨⟨k+1,_,O3.out,V3.out,R3.out,T3.out,by omega,B3.out⟩,HS3.out⟩
  ·have hlt':¬ ((M.digs Bb (pw k)).length:Int)≤(L:Int):=by omega
   have HX:Hid (V<pw k):=Bl1 (by omega)
   have HV:=Ba hv
   have HO:=Ba ho
   clear rp tp hv ho
   generalize (M.digs Bb (pw k)).length=N at *
   go_wp2
   go_ret
   exact ⟨_,rfl,k,vs,HO.out,HV.out,hk,HX.out,bb⟩
open Go.RowKit Go.Shelf
theorem Yf {s:ByteArray} {K:Nat} (h:s.size≤8*K):(M.digs Bb (Bc s)).length≤K:=by
 refine M.digs_len_of_lt Be (Jl (Gd s) ?_)
 rw [show Bb=256 ^ 8 from by decide,← Nat.pow_mul]
 exact Nat.pow_le_pow_right (by omega) h
theorem Bhz {s:ByteArray} (h:s.size≤400):(M.digs Bb (Bc s)).length≤50:=Yf (by omega)
theorem Bny {k V B b B':Nat} {bs vs:List Value} {v ps:Value} {w:World} (hk:k≤6) (hV:V<pw k) (ho:w.ownsRow B' 64 1 ps k vs) (hv:Pv w k vs) (hT:Ee w) (h3:12<B) (hr:Rd w v (M.digs Bb V)) (h:Lib.IsBuilderF 158 5 B b bs w) (hl:bs.length+19*2 ^ k≤1000000) (hB:B≤w.heap.size) :
  Calls Tryz.prog 222 #[.pointer (some ⟨b,0,none⟩),v,ps] w fun e w'=>e=.returned (.tuple #[])∧(Lib.BuilderAtF 158 5 B b (.pointer (some ⟨b,0,none⟩)) (bs ++ Lib.byteCells (zP k V)) w'∧Below B w w'∧Lib.OthersKept 5 (some b) w w'):=by
 rcases id ho.2 with ⟨rfl,rfl⟩ | ⟨g,cap,cur,rfl,-⟩
 ·exact Us V (by simpa [pw] using hV) B b bs v none 0 w hT hr h (by omega) hB
 ·obtain ⟨hc,hp⟩:=Bgk ho hv
  exact Bff k hk V hV B b g cap bs v w hc hT h3 hr hp h hl hB
theorem Ee.lt {w:World} (h:Ee w):12<w.heap.size:=by
 unfold Ee Lib.TabIs World.var? at h
 rw [show Tryz.prog.globalNamed "internal/strconv.uint64pow10"=some 12 by kernel_rfl] at h
 simp only [Option.bind_some] at h
 rcases Nat.lt_or_ge 12 w.heap.size with h' | h'
 ·exact h'
 ·rw [Array.getElem?_eq_none h'] at h;simp at h
theorem Bkw {k:Nat} (hk:k≤6):([]:List Value).length+19*2 ^ k≤1000000:=by
 have:2 ^ k≤2 ^ 6:=Nat.pow_le_pow_right (by omega) hk
 simp
 omega
theorem Bdy (n0:Bool) (s0:ByteArray) (w:World) (hT:Ee w) (o0:Hc n0 s0) (z0:s0.size≤400) (T:List Nat) (hTT:T=dt (Bc s0)) :
  Calls Tryz.prog 189 #[.agg #[Iz n0,I s0]] w (Re w (.tuple #[I (if T=[] then ⟨#[48]⟩ else if n0 then Cs (45 :: T) else Cs T),.int .i64 0])):=by
 have X0:=Ba (Bhz z0)
 obtain ⟨TT,hT2⟩:∃ t,t=(if T=[] then (⟨#[48]⟩:ByteArray) else if n0 then Cs (45 :: T) else Cs T):=⟨_,rfl⟩
 rw [← hT2]
 have HTT:=Ba hT2
 have HT:=Ba hTT
 have HP:=Ba hT
 clear hT2 hTT hT
 go_enter Tryz.func189,Tryz.ntmps189
 go_wp2_with fail
 obtain ⟨w0,hw0,k0,k1,hb0⟩:=Bov w (Iz n0) (I s0)
 rw [← hw0]
 clear hw0
 refine (Xd _ n0 s0 w0 k1 o0 (by omega)).mono ?_
 rintro e w1 ⟨g,v0,rfl,kg,r0,hg,hb⟩
 have m0:=k0.b hb
 have bb:=Ia hb0 hb
 clear k0 k1 o0
 go_wp2
 obtain ⟨w2,hw2⟩:∃ w2,w2=w1.alloc (.cells #[.pointer none,.slice none 0 0] 158):=⟨_,rfl⟩
 have hb2:Below w1.heap.size w1 w2:=by rw [hw2];exact (Jg _ _).alloc (Jb _) _
 have bld:Lib.IsBuilderF 158 5 w1.heap.size w1.heap.size [] w2:=by rw [hw2];exact Ms w1
 have kg2:=kg.b hb2
 have r2:=r0.rd.b hb2
 obtain ⟨c0,c1⟩:=Dc kg2
 have hgl:=kg.lt
 have bb2:=Ia bb hb2
 have m2:=m0.b hb2
 rw [← hw2]
 clear hw2 kg r0
 have H52:=Ba (Bae v0 _ w2.drew (show Rd w2 _ _ from r2) X0.out)
 obtain ⟨a0,p0,rfl,-,-⟩:=id r2
 clear kg2
 have h3:12<w1.heap.size:=Jl HP.out.lt bb.size
 have T2:=Ba (HP.out.b bb2 HP.out.lt)
 generalize hLL:(M.digs Bb (Bc s0)).length=LL at *
 go_region_held3 (fun w'=>w'.cell? ⟨g,1,none⟩=some (.slice a0 LL p0)) (first | exact c1 | exact c3 | exact c4) (first | (go_at_call 223;refine (H52.out).mono ?_;rintro e w3 ⟨ps,k,vs,rfl,ho,hv,hk4,hVk,hb3'⟩;have hb3:Below w2.heap.size w2 w3:=⟨hb3'.os,hb3'.tape,hb3'.output,hb3'.size,hb3'.block⟩;have c3:=Fd hb3 (Jl hgl hb2.size) c1) | (go_at_call 222;refine (Bny (by omega) hVk ho hv (T2.out.b hb3 (Jl h3 hb2.size)) h3 (r2.b hb3) (D3 bld hb3) (Bkw hk4) (Jf hb2.size hb3.size)).mono ?_;rintro e w4 ⟨rfl,bld4,hb4,-⟩;have c4:=Fd hb4 hgl c3))
 have bl:Lib.IsBuilderF 158 5 w1.heap.size w1.heap.size (Lib.byteCells (zP k (Bc s0))) w4:=Or.inr bld4
 have hB4:w1.heap.size≤w4.heap.size:=Jf (Jf hb2.size hb3.size) hb4.size
 have HS:=Ba (Nk _ _ _ w4 bl hB4)
 have hwl:w.heap.size<w1.heap.size:=m0.lt
 have n0c:=Fd (hb3.mono hb2.size |>.trans hb4) hwl (C7 m2)
 have bb4:Below w.heap.size w w4:=(bb2.trans (hb3.mono (Jf bb.size hb2.size))).trans (hb4.mono bb.size)
 have trE:Lib.trimLeftB ((zP k (Bc s0)).toArray).toList 48=dtB (Bc s0):=Wn hVk
 have TrE:=Ba trE
 have hTl:T.length≤1200:=by rw [HT.out];exact Md s0 400 z0
 have hsz:(Cs T).size≤1200:=by rw [Cl];exact hTl
 have HST:Hid (ByteArray.mk (dtB (Bc s0)).toArray=Cs T):=by show _=_;rw [HT.out];rfl
 clear bl bld4 bld c1 c3 c4 r2 H52 hb3' hb4 hb3 m2 trE ho hv hTl
 go_wp2_with fail
 refine (HS.out).mono ?_
 rintro e w5 ⟨rfl,-,hb5⟩
 have n0c:=Fd hb5 hwl n0c
 have bb5:=bb4.trans (hb5.mono bb.size)
 go_wp2_with fail
 refine (Ga _ 48 (by decide) w5).mono ?_
 rintro e w6 ⟨rfl,hw⟩
 subst hw
 rw [TrE.out,HST.out]
 clear HS TrE HST HT
 by_cases ht:T=[]
 ·subst ht
  rw [show Cs []=⟨#[]⟩ from rfl]
  go_wp2
  go_ret2
  exact ⟨by rw [HTT.out];rfl,bb5⟩
 ·have hne:=U4 ht
  have HN:=Ba ht
  clear ht
  cases n0 with
  | false =>
   go_wp2
   go_ret2
   exact ⟨by rw [HTT.out,if_neg HN.out];rfl,bb5⟩
  | true =>
   go_wp2
   go_ret2
   exact ⟨by rw [HTT.out,if_neg HN.out,if_pos trivial,Fu 45 T];rfl,bb5⟩
open Go.RowKit Go.Shelf
theorem Boj (i:Nat):pw i≤Bb ^ 2 ^ i:=by
 unfold pw
 rw [Nat.pow_mul]
 exact Nat.pow_le_pow_left (by decide) _
theorem Bk0 {n i:Nat} (h:n<pw i):(M.digs Bb n).length≤2 ^ i:=M.digs_len_of_lt Be (Jl h (Boj i))
theorem Bkz {V p:Nat} (hV:V<pw (p+1)) (hp:p≤9) (v0 v1:Value) (w:World) (r0:Rd w v0 (M.digs Bb V)) (r1:Rd w v1 (M.digs Bb (pw p))) :
  Calls Tryz.prog 173 #[v0,v1] w fun e w'=>∃ q r,e=.returned (.tuple #[q,r,.int .i64 0])∧Rd w' q (M.digs Bb (V / pw p))∧Rd w' r (M.digs Bb (V % pw p))∧Ty w' q∧Ty w' r∧Below w.heap.size w w':=by
 have hk:∀ n,n<pw (p+1)→(M.digs Bb n).length≤4000:=fun n h=>by
  have h2:2 ^ (p+1)≤2 ^ 10:=Nat.pow_le_pow_right (by omega) (by omega)
  exact Jf (Bk0 h) (by omega)
 have hpp:pw p<pw (p+1):=by unfold pw;exact Nat.pow_lt_pow_right (by omega) (by rw [Nat.pow_succ];have:=Nat.pow_pos (n:=p) (show 0<2 by omega);omega)
 refine (Pa v0 v1 _ _ w r0 r1 (M.Low.digs Be _) (M.Low.digs Be _) (hk _ hV) (hk _ hpp)).mono ?_
 rw [M.val_digs Be,M.val_digs Be]
 rintro e w' ⟨-,h,hb⟩
 obtain ⟨q,r,rfl,hq,hr,tq,tr⟩:=h (O1 p)
 exact ⟨q,r,rfl,hq,hr,tq,tr,hb⟩
theorem Bfe (p:Nat) (hp5:p≤9) (ih:Wd p):Wd (p+1):=by
 intro V hV B b g cap bs v w hcap hT h3 hv hP h hl hB
 obtain ⟨pv,hc,hpv,-⟩:=hP.2 p (by omega)
 have HD:=Ba (Bkz hV hp5 v pv w hv hpv)
 have hq:V / pw p<pw p:=Nat.div_lt_of_lt_mul (by rw [← Lz];exact hV)
 have hr:V % pw p<pw p:=Nat.mod_lt _ (O1 p)
 have hz:=Uo p _ hq
 have h2:2 ^ (p+1)=2*2 ^ p:=by rw [Nat.pow_succ,Nat.mul_comm]
 have HL:Hid (bs.length+19*2 ^ p≤1000000∧(bs ++ Lib.byteCells (zP p (V / pw p))).length+19*2 ^ p≤1000000):=by
  show _∧_
  rw [Ji,Lib.byteCells,List.length_map,hz]
  omega
 have HZ:Hid (zP (p+1) V=zP p (V / pw p) ++ zP p (V % pw p)):=rfl
 have H0:=Ba (ih (V / pw p) hq B b g)
 have H1:=Ba (ih (V % pw p) hr B b g)
 have HP:=Ba (hP.less (q:=p) (by omega))
 have HT:=Ba hT
 clear hz h2 hl hq hr ih hP hT
 obtain ⟨av,cv,rfl,-,-⟩:=id hv
 obtain ⟨ap,cp,rfl,-,-⟩:=id hpv
 clear hv hpv
 generalize V / pw p=Q at *
 generalize V % pw p=R at *
 generalize hpp:pw p=PP at *
 generalize (M.digs Bb V).length=LV at *
 generalize (M.digs Bb PP).length=LP at *
 have c1:¬ ((p+1:Nat):Int)=0:=by omega
 go_enter Tryz.func222,Tryz.ntmps222
 go_wp2_with fail
 refine (HD.out).mono ?_
 rintro e w1 ⟨q,r,rfl,rq,rr,tq,tr,hb1⟩
 obtain ⟨aq,cq,rfl,-,-⟩:=id rq
 obtain ⟨ar,cr,rfl,-,-⟩:=id rr
 have i1:=D3 h hb1
 have hB1:B≤w1.heap.size:=Jf hB hb1.size
 have P1:=Ba (HP.out.b hb1)
 have T1:=Ba (HT.out.b (hb1.mono hB) h3)
 clear HD h HP HT hc
 go_wp2_with fail
 refine (H0.out _ bs _ w1 (Jb _) T1.out h3 rq P1.out i1 HL.out.1 hB1).mono ?_
 rintro e w2 ⟨rfl,i2,hb2,k2⟩
 have hB2:B≤w2.heap.size:=Jf hB1 hb2.size
 have rr2:=rr.others tr k2 (Ho (by decide) i1)
 have P2:=Ba (P1.out.others k2 (Ho (by decide) i1) (Ol (by decide) i1))
 have T2:=Ba (T1.out.b hb2 h3)
 clear rr tr rq tq P1 T1 H0
 go_wp2_with fail
 refine (H1.out _ _ _ w2 (Jb _) T2.out h3 rr2 P2.out (Or.inr i2) HL.out.2 hB2).mono ?_
 rintro e w3 ⟨rfl,i3,hb3,k3⟩
 have HI:=Ba i3
 have HB:=Ba (((hb1.mono hB).trans hb2).trans hb3)
 have HK:=Ba (((Gh hb1 5 (some b)).trans k2).trans k3)
 clear i2 i3 hb1 hb2 hb3 k2 k3 i1
 go_wp2
 refine bodyPost_end (results_none rfl _ _ _) rfl ?_
 refine ⟨rfl,?_,HB.out,HK.out⟩
 rw [HZ.out,Lib.byteCells,List.map_append,← List.append_assoc]
 exact HI.out
theorem Bbj:∀ p,p≤10→Wd p
 | 0,_=>Bbh
 | p+1,h=>Bfe p (by omega) (Bbj p (by omega))
theorem Xn {k:Nat} (hk:k≤11):(M.digs Bb (pw k)).length≤4000:=by
 have h2:2 ^ k≤2 ^ 11:=Nat.pow_le_pow_right (by omega) hk
 have h3:pw k<Bb ^ (2 ^ k+1):=by
  refine Nat.lt_of_le_of_lt (Boj k) ?_
  exact Nat.pow_lt_pow_right (by decide) (by omega)
 exact Jf (M.digs_len_of_lt Be h3) (by omega)
theorem Bjm {k:Nat} (h:10≤k):1000<(M.digs Bb (pw k)).length:=by
 obtain ⟨n,hn⟩:∃ n:Nat,n=8:=⟨8,rfl⟩
 obtain ⟨T,hT⟩:∃ T:Nat,T=10 ^ 19:=⟨_,rfl⟩
 have h0:Bb ^ 125≤T ^ 128:=by rw [hT];unfold Bb;decide +kernel
 have h1:Bb ^ (125*n)≤T ^ (128*n):=by rw [Nat.pow_mul,Nat.pow_mul];exact Nat.pow_le_pow_left h0 n
 have h2:2 ^ 10≤2 ^ k:=Nat.pow_le_pow_right (by omega) h
 have e2:(2:Nat) ^ 10=1024:=rfl
 have h3:pw k=T ^ 2 ^ k:=by rw [hT];unfold pw;exact Nat.pow_mul 10 19 (2 ^ k)
 have h4:T ^ (128*n)≤T ^ 2 ^ k:=Nat.pow_le_pow_right (by rw [hT];decide) (by omega)
 rcases Nat.lt_or_ge 1000 (M.digs Bb (pw k)).length with h5 | h5
 ·exact h5
 ·have h6:pw k<Bb ^ (M.digs Bb (pw k)).length:=by
   have:=M.val_lt (by decide) (M.Low.digs Be (pw k))
   rwa [M.val_digs Be] at this
  have h7:Bb ^ (M.digs Bb (pw k)).length≤Bb ^ (125*n):=Nat.pow_le_pow_right (show 0<Bb by decide) (by omega)
  rw [← h3] at h4
  omega
theorem Xs (va:Value) (V:Nat) (w:World) (ha:Rd w va (M.digs Bb V)) (hV:(M.digs Bb V).length≤1000) :
  Calls Tryz.prog 223 #[va] w fun e w'=>∃ ps k vs,e=.returned ps∧w'.ownsRow w.heap.size 64 1 ps k vs∧Pv w' k vs∧k≤10∧V<pw k∧Below w.heap.size w w':=by
 obtain ⟨a,ca,rfl,-,-⟩:=ha
 go_enter Tryz.func223,Tryz.ntmps223
 go_wp2_with fail
 obtain ⟨w0,hw0⟩:∃ w0,w0=w.alloc (.cells #[.int .u64 10000000000000000000] 170):=⟨_,rfl⟩
 have hb0:Below w.heap.size w w0:=by rw [hw0];exact (Jg _ _).alloc (Jb _) _
 have r0:Rd w0 (.slice (some ⟨w.heap.size,0,none⟩) 1 1) (M.digs Bb (pw 0)):=by rw [← Wp,hw0];exact Yt w rfl Bfn
 have t0:Ty w0 (.slice (some ⟨w.heap.size,0,none⟩) 1 1):=fun b off n c e=>by
  simp only [Value.slice.injEq,Option.some.injEq,Addr.mk.injEq] at e
  obtain ⟨⟨rfl,-,-⟩,-,-⟩:=e
  exact ⟨_,_,by rw [hw0];exact heap_alloc_new w _⟩
 rw [← hw0]
 clear hw0
 generalize hL:(M.digs Bb V).length=L at *
 go_loopw [3,4] (fun ps pv wr=>∃ k vs,wr.ownsRow w.heap.size 64 1 ps k vs∧Pv wr k vs∧Rd wr pv (M.digs Bb (pw k))∧Ty wr pv∧k≤10∧Below w.heap.size w wr) (fun ps _ _=>11 - Nl ps)
 case atStart=>exact ⟨0,[],World.ownsRow_nil _ _ _ _,fun i hi=>absurd hi (Nat.not_lt_zero _),r0,t0,by omega,hb0⟩
 case round =>
  clear r0 t0 hb0
  obtain ⟨k,vs,ho,hv,rp,tp,hk,bb⟩:=hrel
  obtain ⟨ap,cp,rfl,-,-⟩:=id rp
  have hl:vs.length=k:=by have:=ho.1;omega
  by_cases hlt:(M.digs Bb (pw k)).length≤L
  ·have hk3:k≤9:=by
    rcases Nat.lt_or_ge k 10 with h | h
    ·omega
    ·have:=Bjm h;omega
   have HMu:=Ba (fun w v (r:Rd w v (M.digs Bb (pw k)))=>Bg3 v v _ _ w r r (M.Low.digs Be _) (M.Low.digs Be _) (Xn (by omega)) (Xn (by omega)))
   rw [M.val_digs Be,← Lz] at HMu
   have HSL:Hid (Nl u3=k):=by
    show Nl u3=k
    rcases ho.2 with ⟨h,h0⟩ | ⟨g,cap,cur,h,-⟩
    ·rw [h,h0];rfl
    ·rw [h];rfl
   generalize hN:(M.digs Bb (pw k)).length=N at *
   have hlt':(N:Int)≤(L:Int):=by omega
   obtain ⟨w1,hw1⟩:∃ w1,w1=wr.alloc (.cells #[.slice ap N cp] 64):=⟨_,rfl⟩
   have hb1:Below wr.heap.size wr w1:=by rw [hw1];exact (Jg _ _).alloc (Jb _) _
   have c1:w1.cell? ⟨wr.heap.size,0,none⟩=some (.slice ap N cp):=by rw [hw1];simp
   have o1:=Kr ho hb1
   have v1:=hv.b hb1
   have r1:=rp.b hb1
   have t1:=tp.below' hb1
   have b1:=Ia bb hb1
   have ob:=Ub o1
   clear ho hv rp tp bb
   go_wp2_with (at_builtin;rw [← hw1];refine Ph rfl _ _ rfl u3 k vs rfl w.heap.size o1 b1.size wr.heap.size rfl (.slice ap N cp) rfl c1 (by omega) ?_;intro ps2 w2 o2 hg2)
   obtain ⟨r2,t2⟩:=Rq r1 t1 hg2 (fun g h=>(ob g h).2)
   have v2:=(v1.grown hg2 (fun g h=>(ob g h).2)).more hl r2 t2
   have b2:Below w.heap.size w w2:=b1.grown hg2 b1.size (fun g h=>(ob g h).1)
   clear hw1 c1 o1 v1 r1 t1 b1 ob hb1 hg2
   refine (HMu.out w2 _ r2).mono ?_
   rintro e w3 ⟨v3,rfl,r3,t3,hb3⟩
   obtain ⟨a3,c3,rfl,-,-⟩:=id r3
   have O3:=Ba (Kr o2 hb3)
   have V3:=Ba (v2.b hb3)
   have B3:=Ba (Ia b2 hb3)
   have R3:=Ba r3
   have T3:=Ba t3
   have HS3:Hid (11 - Nl ps2<11 - Nl u3):=by
    show _<_
    rw [HSL.out]
    have:Nl ps2=k+1:=by
     rcases o2.2 with ⟨h,h0⟩ | ⟨g,cap,cur,h,-⟩
     ·omega
     ·rw [h];rfl
    omega
   clear r2 t2 v2 b2 o2 hb3 r3 t3 HMu
   generalize (M.digs Bb (pw (k+1))).length=N3 at *
   go_wp2
   exact ⟨⟨k+1,_,O3.out,V3.out,R3.out,T3.out,by omega,B3.out⟩,HS3.out⟩
  ·have hlt':¬ ((M.digs Bb (pw k)).length:Int)≤(L:Int):=by omega
   have HX:Hid (V<pw k):=Bl1 (by omega)
   have HV:=Ba hv
   have HO:=Ba ho
   clear rp tp hv ho
   generalize (M.digs Bb (pw k)).length=N at *
   go_wp2
   go_ret
   exact ⟨_,rfl,k,vs,HO.out,HV.out,hk,HX.out,bb⟩
theorem Bmf {k V B b B':Nat} {bs vs:List Value} {v ps:Value} {w:World} (hk:k≤10) (hV:V<pw k) (ho:w.ownsRow B' 64 1 ps k vs) (hv:Pv w k vs) (hT:Ee w) (h3:12<B) (hr:Rd w v (M.digs Bb V)) (h:Lib.IsBuilderF 158 5 B b bs w) (hl:bs.length+19*2 ^ k≤1000000) (hB:B≤w.heap.size) :
  Calls Tryz.prog 222 #[.pointer (some ⟨b,0,none⟩),v,ps] w fun e w'=>e=.returned (.tuple #[])∧(Lib.BuilderAtF 158 5 B b (.pointer (some ⟨b,0,none⟩)) (bs ++ Lib.byteCells (zP k V)) w'∧Below B w w'∧Lib.OthersKept 5 (some b) w w'):=by
 rcases id ho.2 with ⟨rfl,rfl⟩ | ⟨g,cap,cur,rfl,-⟩
 ·exact Us V (by simpa [pw] using hV) B b bs v none 0 w hT hr h (by omega) hB
 ·obtain ⟨hc,hp⟩:=Bgk ho hv
  exact Bbj k hk V hV B b g cap bs v w hc hT h3 hr hp h hl hB
theorem Bhv {k:Nat} (hk:k≤10):([]:List Value).length+19*2 ^ k≤1000000:=by
 have:2 ^ k≤2 ^ 10:=Nat.pow_le_pow_right (by omega) hk
 simp
 omega
theorem Bac (n0:Bool) (s0:ByteArray) (w:World) (hT:Ee w) (o0:Hc n0 s0) (z0:s0.size≤8000) (T:List Nat) (hTT:T=dt (Bc s0)) :
  Calls Tryz.prog 189 #[.agg #[Iz n0,I s0]] w (Re w (.tuple #[I (if T=[] then ⟨#[48]⟩ else if n0 then Cs (45 :: T) else Cs T),.int .i64 0])):=by
 have X0:=Ba (Yf (K:=1000) z0)
 obtain ⟨TT,hT2⟩:∃ t,t=(if T=[] then (⟨#[48]⟩:ByteArray) else if n0 then Cs (45 :: T) else Cs T):=⟨_,rfl⟩
 rw [← hT2]
 have HTT:=Ba hT2
 have HT:=Ba hTT
 have HP:=Ba hT
 clear hT2 hTT hT
 go_enter Tryz.func189,Tryz.ntmps189
 go_wp2_with fail
 obtain ⟨w0,hw0,k0,k1,hb0⟩:=Bov w (Iz n0) (I s0)
 rw [← hw0]
 clear hw0
 refine (Xd _ n0 s0 w0 k1 o0 (by omega)).mono ?_
 rintro e w1 ⟨g,v0,rfl,kg,r0,hg,hb⟩
 have m0:=k0.b hb
 have bb:=Ia hb0 hb
 clear k0 k1 o0
 go_wp2
 obtain ⟨w2,hw2⟩:∃ w2,w2=w1.alloc (.cells #[.pointer none,.slice none 0 0] 158):=⟨_,rfl⟩
 have hb2:Below w1.heap.size w1 w2:=by rw [hw2];exact (Jg _ _).alloc (Jb _) _
 have bld:Lib.IsBuilderF 158 5 w1.heap.size w1.heap.size [] w2:=by rw [hw2];exact Ms w1
 have kg2:=kg.b hb2
 have r2:=r0.rd.b hb2
 obtain ⟨c0,c1⟩:=Dc kg2
 have hgl:=kg.lt
 have bb2:=Ia bb hb2
 have m2:=m0.b hb2
 rw [← hw2]
 clear hw2 kg r0
 have H52:=Ba (Xs v0 _ w2.drew (show Rd w2 _ _ from r2) X0.out)
 obtain ⟨a0,p0,rfl,-,-⟩:=id r2
 clear kg2
 have h3:12<w1.heap.size:=Jl HP.out.lt bb.size
 have T2:=Ba (HP.out.b bb2 HP.out.lt)
 generalize hLL:(M.digs Bb (Bc s0)).length=LL at *
 go_region_held3 (fun w'=>w'.cell? ⟨g,1,none⟩=some (.slice a0 LL p0)) (first | exact c1 | exact c3 | exact c4) (first | (go_at_call 223;refine (H52.out).mono ?_;rintro e w3 ⟨ps,k,vs,rfl,ho,hv,hk4,hVk,hb3'⟩;have hb3:Below w2.heap.size w2 w3:=⟨hb3'.os,hb3'.tape,hb3'.output,hb3'.size,hb3'.block⟩;have c3:=Fd hb3 (Jl hgl hb2.size) c1) | (go_at_call 222;refine (Bmf (by omega) hVk ho hv (T2.out.b hb3 (Jl h3 hb2.size)) h3 (r2.b hb3) (D3 bld hb3) (Bhv hk4) (Jf hb2.size hb3.size)).mono ?_;rintro e w4 ⟨rfl,bld4,hb4,-⟩;have c4:=Fd hb4 hgl c3))
 have bl:Lib.IsBuilderF 158 5 w1.heap.size w1.heap.size (Lib.byteCells (zP k (Bc s0))) w4:=Or.inr bld4
 have hB4:w1.heap.size≤w4.heap.size:=Jf (Jf hb2.size hb3.size) hb4.size
 have HS:=Ba (Nk _ _ _ w4 bl hB4)
 have hwl:w.heap.size<w1.heap.size:=m0.lt
 have n0c:=Fd (hb3.mono hb2.size |>.trans hb4) hwl (C7 m2)
 have bb4:Below w.heap.size w w4:=(bb2.trans (hb3.mono (Jf bb.size hb2.size))).trans (hb4.mono bb.size)
 have trE:Lib.trimLeftB ((zP k (Bc s0)).toArray).toList 48=dtB (Bc s0):=Wn hVk
 have TrE:=Ba trE
 have hTl:T.length≤24000:=by rw [HT.out];exact Md s0 8000 z0
 have hsz:(Cs T).size≤24000:=by rw [Cl];exact hTl
 have HST:Hid (ByteArray.mk (dtB (Bc s0)).toArray=Cs T):=by show _=_;rw [HT.out];rfl
 clear bl bld4 bld c1 c3 c4 r2 H52 hb3' hb4 hb3 m2 trE ho hv hTl
 go_wp2_with fail
 refine (HS.out).mono ?_
 rintro e w5 ⟨rfl,-,hb5⟩
 have n0c:=Fd hb5 hwl n0c
 have bb5:=bb4.trans (hb5.mono bb.size)
 go_wp2_with fail
 refine (Ga _ 48 (by decide) w5).mono ?_
 rintro e w6 ⟨rfl,hw⟩
 subst hw
 rw [TrE.out,HST.out]
 clear HS TrE HST HT
 by_cases ht:T=[]
 ·subst ht
  rw [show Cs []=⟨#[]⟩ from rfl]
  go_wp2
  go_ret2
  exact ⟨by rw [HTT.out];rfl,bb5⟩
 ·have hne:=U4 ht
  have HN:=Ba ht
  clear ht
  cases n0 with
  | false =>
   go_wp2
   go_ret2
   exact ⟨by rw [HTT.out,if_neg HN.out];rfl,bb5⟩
  | true =>
   go_wp2
   go_ret2
   exact ⟨by rw [HTT.out,if_neg HN.out,if_pos trivial,Fu 45 T];rfl,bb5⟩
end Go.Proofs.YtnplifkgeeicjaaGreatDoor
