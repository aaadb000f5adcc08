import Derived.Test.YtnplifkgeeicjaaGreatDoorV10
import Derived.Test.YtnplifkgeeicjaaGreatDoorV15
set_option maxRecDepth 100000
set_option maxHeartbeats 2000000
namespace Go.Proofs.YtnplifkgeeicjaaGreatDoor
open Go.RowKit
def Bj (s:ByteArray):List Nat:=s.data.toList.map UInt8.toNat
def Bc (s:ByteArray):Nat:=M.val 256 (Bj s).reverse
theorem Bt (s:ByteArray):(Bj s).length=s.size:=by simp [Bj]
theorem Fp (s:ByteArray):M.Low 256 (Bj s):=by
 intro x hx
 simp only [Bj,List.mem_map] at hx
 obtain ⟨u,_,rfl⟩:=hx
 exact u.toNat_lt
theorem Ff {b:Nat} {xs:List Nat} (h:M.Low b xs):M.Low b xs.reverse:=fun x hx=>h x (by simpa using hx)
theorem Gd (s:ByteArray):Bc s<256 ^ s.size:=by
 have:=M.val_lt (by omega) (Ff (Fp s))
 rwa [List.length_reverse,Bt] at this
theorem Ck (s:ByteArray) (j:Nat) (h:j<s.size):(s[j]).toNat=lm (Bj s) j:=by
 have h':j<s.data.size:=h
 simp only [lm,Bj,Jh,List.getElem?_map,Array.getElem?_toList]
 rw [Array.getElem?_eq_getElem h']
 rfl
theorem Ok (s:ByteArray) (j:Nat) (h:j<s.size):(s.data.toList.getD j 0).toNat=lm (Bj s) j:=by
 have h':j<s.data.size:=h
 simp only [lm,Bj,Jh,List.getElem?_map,Array.getElem?_toList]
 rw [Array.getElem?_eq_getElem h']
 rfl
theorem Mx (x y k P:Nat) (hP:P=2 ^ k) (hk:k≤56) (hx:x<P) (hy:y<256) :
  bits .or .u64 (x:Int) (IntKind.u64.wrap (IntKind.u64.wrap (y:Int)*(P:Int)))=((x+y*P:Nat):Int):=by
 have hP1:2 ^ k≤2 ^ 56:=Nat.pow_le_pow_right (by omega) hk
 have hyP:y*P≤255*P:=Jo _ (by omega)
 have h56:(2:Nat) ^ 56=72057594037927936:=by rfl
 rw [Cz y (by omega),← Int.natCast_mul,Cz (y*P) (by rw [h56] at hP1;omega)]
 rw [bits_or_u64_nat _ _ (by rw [h56] at hP1;omega) (by rw [h56] at hP1;omega)]
 congr 1
 rw [hP] at hx ⊢
 rw [← Nat.shiftLeft_eq,Nat.or_comm,← Nat.shiftLeft_add_eq_or_of_lt hx,Nat.add_comm]
theorem Bot (s:ByteArray) (h:s.size=8):Bc s=lm (Bj s) 7+lm (Bj s) 6*256+lm (Bj s) 5*65536+lm (Bj s) 4*16777216+lm (Bj s) 3*4294967296+lm (Bj s) 2*1099511627776+lm (Bj s) 1*281474976710656+lm (Bj s) 0*72057594037927936:=by
 have hl:=Bt s
 rw [h] at hl
 unfold Bc
 match hb:Bj s,hl with
 | [a0,a1,a2,a3,a4,a5,a6,a7],_ =>
  simp only [List.reverse_cons,List.reverse_nil,List.nil_append,List.cons_append,M.val_cons,M.val_nil,lm,List.getD_cons_zero,List.getD_cons_succ]
  omega
theorem Bhc (s:ByteArray) (h:s.size=8) (w:World):Calls Tryz.prog 179 #[I s] w (Re w (.int .u64 (Bc s:Nat))):=by
 have hlo:=fun j=>Ci (by omega) (Fp s) j
 have b0:=hlo 0;have b1:=hlo 1;have b2:=hlo 2;have b3:=hlo 3;have b4:=hlo 4;have b5:=hlo 5;have b6:=hlo 6;have b7:=hlo 7
 have E:=Ba (Bot s h)
 have a0:=Ck s 0 (by omega);have a1:=Ck s 1 (by omega);have a2:=Ck s 2 (by omega);have a3:=Ck s 3 (by omega)
 have a4:=Ck s 4 (by omega);have a5:=Ck s 5 (by omega);have a6:=Ck s 6 (by omega);have a7:=Ck s 7 (by omega)
 generalize lm (Bj s) 0=x0 at *
 generalize lm (Bj s) 1=x1 at *
 generalize lm (Bj s) 2=x2 at *
 generalize lm (Bj s) 3=x3 at *
 generalize lm (Bj s) 4=x4 at *
 generalize lm (Bj s) 5=x5 at *
 generalize lm (Bj s) 6=x6 at *
 generalize lm (Bj s) 7=x7 at *
 have w7:IntKind.u64.wrap (x7:Int)=(x7:Int):=Cz x7 (by omega)
 have o1:=Mx x7 x6 8 256 rfl (by omega) (by omega) b6
 have o2:=Mx (x7+x6*256) x5 16 65536 rfl (by omega) (by omega) b5
 have o3:=Mx (x7+x6*256+x5*65536) x4 24 16777216 rfl (by omega) (by omega) b4
 have o4:=Mx (x7+x6*256+x5*65536+x4*16777216) x3 32 4294967296 rfl (by omega) (by omega) b3
 have o5:=Mx (x7+x6*256+x5*65536+x4*16777216+x3*4294967296) x2 40 1099511627776 rfl (by omega) (by omega) b2
 have o6:=Mx (x7+x6*256+x5*65536+x4*16777216+x3*4294967296+x2*1099511627776) x1 48 281474976710656 rfl (by omega) (by omega) b1
 have o7:=Mx (x7+x6*256+x5*65536+x4*16777216+x3*4294967296+x2*1099511627776+x1*281474976710656) x0 56 72057594037927936 rfl (by omega) (by omega) b0
 have O:=Ba (show bits .or .u64 (bits .or .u64 (bits .or .u64 (bits .or .u64 (bits .or .u64 (bits .or .u64 (bits .or .u64 (IntKind.u64.wrap (x7:Int)) (IntKind.u64.wrap (IntKind.u64.wrap (x6:Int)*256))) (IntKind.u64.wrap (IntKind.u64.wrap (x5:Int)*65536))) (IntKind.u64.wrap (IntKind.u64.wrap (x4:Int)*16777216))) (IntKind.u64.wrap (IntKind.u64.wrap (x3:Int)*4294967296))) (IntKind.u64.wrap (IntKind.u64.wrap (x2:Int)*1099511627776))) (IntKind.u64.wrap (IntKind.u64.wrap (x1:Int)*281474976710656))) (IntKind.u64.wrap (IntKind.u64.wrap (x0:Int)*72057594037927936))=((Bc s:Nat):Int) from by
  rw [w7]
  refine Eq.trans ?_ (o7.trans (by rw [E.out]))
  refine congrArg (fun t=>bits .or .u64 t _) ?_
  refine Eq.trans ?_ o6
  refine congrArg (fun t=>bits .or .u64 t _) ?_
  refine Eq.trans ?_ o5
  refine congrArg (fun t=>bits .or .u64 t _) ?_
  refine Eq.trans ?_ o4
  refine congrArg (fun t=>bits .or .u64 t _) ?_
  refine Eq.trans ?_ o3
  refine congrArg (fun t=>bits .or .u64 t _) ?_
  refine Eq.trans ?_ o2
  exact congrArg (fun t=>bits .or .u64 t _) o1)
 clear o1 o2 o3 o4 o5 o6 o7 w7 b0 b1 b2 b3 b4 b5 b6 b7 hlo E
 have A:Hid (∀ (h0:0<s.size) (h1:1<s.size) (h2:2<s.size) (h3:3<s.size) (h4:4<s.size) (h5:5<s.size) (h6:6<s.size) (h7:7<s.size),(s[0]).toNat=x0∧(s[1]).toNat=x1∧(s[2]).toNat=x2∧(s[3]).toNat=x3∧(s[4]).toNat=x4∧(s[5]).toNat=x5∧(s[6]).toNat=x6∧(s[7]).toNat=x7):=fun _ _ _ _ _ _ _ _=>⟨a0,a1,a2,a3,a4,a5,a6,a7⟩
 clear a0 a1 a2 a3 a4 a5 a6 a7
 go_enter Tryz.func179,Tryz.ntmps179
 go_wp2
 go_quiet (fail)
 go_wp2
 go_ret
 obtain ⟨a0,a1,a2,a3,a4,a5,a6,a7⟩:=A.out (by omega) (by omega) (by omega) (by omega) (by omega) (by omega) (by omega) (by omega)
 refine ⟨?_,below_drewN (Jg _ _) _⟩
 refine congrArg (fun t=>Ending.returned (Value.int .u64 t)) ?_
 rw [← O.out,← a0,← a1,← a2,← a3,← a4,← a5,← a6,← a7]
def Ba9 (s:ByteArray) (k c:Nat):Prop:=c=M.val 256 ((Bj s).take k).reverse
theorem Ba9.step {s:ByteArray} {k c:Nat} (hk:k<s.size) (h:Ba9 s k c):Ba9 s (k+1) (256*c+lm (Bj s) k):=by
 unfold Ba9 at *
 rw [List.take_succ_eq_append_getElem (by rw [Bt];exact hk),List.reverse_append,List.reverse_singleton,List.singleton_append,M.val_cons,← h]
 have:lm (Bj s) k=(Bj s)[k]'(by rw [Bt];exact hk):=by
  unfold lm
  rw [Jh,List.getElem?_eq_getElem (by rw [Bt];exact hk)];rfl
 omega
theorem Ba9.lt {s:ByteArray} {k c:Nat} (h:Ba9 s k c):c<256 ^ k:=by
 rw [h]
 exact M.val_lt_pow (by omega) (Ff ((Fp s).take k)) (by simp;omega)
theorem Kv (s:ByteArray) (h:s.size≤8) (w:World):Calls Tryz.prog 179 #[I s] w (Re w (.int .u64 (Bc s:Nat))):=by
 by_cases h8:s.size=8
 ·exact Bhc s h8 w
 have h9:s.size<8:=by omega
 have hcv:=Lib.run_convert_string_bytes (P:=Tryz.prog) w 22 55 5 s Tryz.underlying22 Tryz.underlying55 Tryz.underlying5
 have hcell:∀ j,j<s.size→(Lib.bytesWorld w 5 s).cell? ⟨w.heap.size,j,none⟩=some (.int .u8 (lm (Bj s) j:Nat)):=fun j hj=>by rw [Lib.bytesWorld_cell w 5 s j hj,Ok s j hj]
 have hb:=Ig w 5 s
 have HC:=Ba hcell
 clear hcell
 generalize Lib.bytesWorld w 5 s=w1 at *
 have hd8:((s.size:Int) == 8)=false:=by simp;omega
 go_enter Tryz.func179,Tryz.ntmps179
 go_wp2
 go_loop [3,50] (fun c i=>∃ (k cc:Nat),k≤s.size∧i=.int .i64 k∧c=.int .u64 cc∧Ba9 s k cc) (fun _ i=>s.size - (intOf i).toNat)
 case atStart=>exact ⟨0,0,by omega,rfl,rfl,rfl⟩
 case round =>
  obtain ⟨k,cc,hk,rfl,rfl,hat⟩:=hrel
  by_cases hlt:k<s.size
  ·have HST:=Ba (hat.step hlt)
   have hcl:=hat.lt
   have hx:=Ci (by omega) (Fp s) k
   have q1:=HC.out k hlt
   have hc48:cc<256 ^ 7:=Jl hcl (Nat.pow_le_pow_right (by omega) (by omega))
   have h7:(256:Nat) ^ 7=72057594037927936:=by rfl
   rw [h7] at hc48
   generalize lm (Bj s) k=x at *
   have w1:IntKind.u64.wrap ((cc:Int)*256)=((cc*2 ^ 8:Nat):Int):=by
    rw [show (cc:Int)*256=((cc*256:Nat):Int) by rw [Int.natCast_mul];rfl,Cz _ (by omega)]
   have w2:IntKind.u64.wrap (x:Int)=(x:Int):=Cz x (by omega)
   have o1:=Bgu cc x 8 hx (by omega) (by omega)
   generalize hM:((cc*2 ^ 8:Nat):Int)=M8 at *
   clear hat hcl
   go_wp2
   exact ⟨⟨k+1,256*cc+x,by omega,by go_num,by rw [show ((256*cc+x:Nat):Int)=((cc*2 ^ 8+x:Nat):Int) by omega,Int.natCast_add,hM],HST.out⟩,by simp [intOf];omega⟩
  ·have hke:k=s.size:=by omega
   have HF:Hid (cc=Bc s):=by
    show cc=_
    rw [hat,hke,Bc,List.take_of_length_le (by rw [Bt];exact Jb _)]
   clear hke hat
   go_wp2
   go_ret
   exact ⟨by rw [← HF.out];rfl,hb⟩
theorem Gn (s:ByteArray) (a b:Nat):Bj (s.extract a b)=((Bj s).take b).drop a:=by
 unfold Bj
 rw [ByteArray.data_extract,Array.toList_extract,List.extract_eq_take_drop,List.map_take,List.map_drop,List.drop_take]
theorem Qx (k:Nat):Bb ^ k=256 ^ (8*k):=by
 rw [Nat.pow_mul];rfl
theorem Bl4 (s:ByteArray) (k lo:Nat) (h:8*k≤s.size) (hlo:lo=s.size - 8*k - 8):Bc (s.extract lo (s.size - 8*k))=M.val 256 (((Bj s).reverse.drop (8*k)).take 8):=by
 unfold Bc
 rw [Gn,List.drop_reverse,Bt,List.take_reverse]
 congr 2
 rw [List.length_take,Bt,Nat.min_eq_left (by omega),hlo]
def Yr (s:ByteArray) (zs:List Nat) (k:Nat):Prop:=zs.length=k∧M.Low Bb zs∧M.val Bb zs=M.val 256 ((Bj s).reverse.take (8*k))
theorem Yr.step {s:ByteArray} {zs:List Nat} {k:Nat} (h:Yr s zs k) (hk:8*k≤s.size):Yr s (zs ++ [M.val 256 (((Bj s).reverse.drop (8*k)).take 8)]) (k+1):=by
 obtain ⟨h1,h2,h3⟩:=h
 have hl:M.Low 256 (Bj s).reverse:=Ff (Fp s)
 refine ⟨by simp [h1],h2.snoc ?_,?_⟩
 ·exact M.val_lt_pow (k:=8) (by omega) ((hl.drop _).take 8) (by simp;omega)
 ·rw [M.val_snoc,h1,h3,Qx,show 8*(k+1)=8*k+8 by omega,List.take_add,M.val_append]
  congr 3
  rw [List.length_take,List.length_reverse,Bt]
  omega
theorem Qj {s:ByteArray} {zs:List Nat} {n:Nat} (h:Yr s zs n) (hn:n=(s.size+7) / 8) (h0:0<s.size→lm (Bj s) 0≠0):zs=M.digs Bb (Bc s):=by
 obtain ⟨h1,h2,h3⟩:=h
 rw [List.take_of_length_le (by rw [List.length_reverse,Bt];omega)] at h3
 have ht:M.Trim zs:=by
  intro k hk he
  have hs:0<s.size:=by omega
  have hlt:M.val Bb zs<Bb ^ k:=by
   have e:=M.val_take_succ Bb zs k
   rw [M.val_take_all _ _ _ (by omega),he,Nat.mul_zero,Nat.add_zero] at e
   rw [e]
   exact M.val_lt_pow Bm (h2.take k) (by simp;omega)
  have hge:256 ^ ((Bj s).reverse.length - 1)≤M.val 256 (Bj s).reverse:=by
   refine M.pow_le_val _ ?_ ?_
   ·intro m hm
    rw [List.length_reverse] at hm
    have:(Bj s).reverse.getD m 0=lm (Bj s) 0:=by
     unfold lm
     rw [Jh,Jh,List.getElem?_reverse (by omega),hm]
     congr 2
     omega
    rw [this]
    exact h0 hs
   ·intro e
    have:=congrArg List.length e
    rw [List.length_reverse,Bt] at this
    rw [List.length_nil] at this
    omega
  rw [List.length_reverse,Bt,← h3] at hge
  rw [Qx] at hlt
  have:256 ^ (8*k)≤256 ^ (s.size - 1):=Nat.pow_le_pow_right (by omega) (by omega)
  omega
 have:=M.eq_digs Be h2 ht
 rw [h3] at this
 exact this
theorem Baj (s:ByteArray) (w:World) (hm:s.size≤32000) (h0:0<s.size→lm (Bj s) 0≠0) :
  Calls Tryz.prog 130 #[I s] w fun e w'=>∃ v,e=.returned (.tuple #[v,.int .i64 0])∧Rd w' v (M.digs Bb (Bc s))∧Below w.heap.size w w':=by
 obtain ⟨n,hn⟩:∃ n,n=(s.size+7) / 8:=⟨_,rfl⟩
 have i1:(((s.size:Int)+8 - 1) / 8)=(n:Int):=by omega
 have i2:n≤4000:=by omega
 have HN:=Ba hn
 have H0:=Ba h0
 have fz:decide ((s.size:Int) > 0)=true→∀ h:0<s.size,¬ ((s[0]).toNat:Int)=0:=fun _ h=>by
  rw [Ck s 0 h]
  have:=h0 h
  omega
 clear hn h0
 have main:∀ w2,Cm w2 w.heap.size (List.replicate n 0)→Below w.heap.size w w2→True:=fun _ _ _=>trivial
 clear main
 by_cases hs:0<s.size
 ·have g1:¬ ((s[0]).toNat:Int)=0:=fz (by simp;omega) hs
  have g2:¬ s[0]=0:=fun h=>g1 (by rw [h];rfl)
  clear fz
  go_enter Tryz.func130,Tryz.ntmps130
  go_wp2_with (at_make;refine Cn rfl _ _ rfl _ n rfl rfl (by omega) (by omega) ?_;intro w2 hblk hbel)
  go_loopw [26] (fun i wr=>∃ (k:Nat) (zs:List Nat),k≤n∧i=.int .i64 k∧Yr s zs k∧Cm wr w.heap.size (zs ++ List.replicate (n - k) 0)∧Below w.heap.size w wr) (fun i _=>n - (intOf i).toNat)
  case atStart=>exact ⟨0,[],by omega,rfl,⟨rfl,M.Low.nil _,by simp [M.val]⟩,by simpa using hblk,hbel⟩
  case round =>
   obtain ⟨k,zs,hk,rfl,hat,hblk',hbel'⟩:=hrel
   have hzl:zs.length=k:=hat.1
   by_cases hlt:k<n
   ·have h8:8*k≤s.size:=by have:=HN.out;omega
    have HST:=Ba (hat.step h8)
    have hpc:∀ lo,lo=s.size - 8*k - 8→Bc (s.extract lo (s.size - 8*k))=M.val 256 (((Bj s).reverse.drop (8*k)).take 8):=fun lo hlo=>Bl4 s k lo h8 hlo
    have HPC:=Ba hpc
    have hset:∀ x,∀ w4,Cm w4 w.heap.size (zs ++ List.replicate (n - k) 0)→Cm (w4.setCell ⟨w.heap.size,k,none⟩ (.int .u64 (x:Nat))) w.heap.size ((zs ++ [x]) ++ List.replicate (n - (k+1)) 0):=fun x w4 hb=>by
     have h:=hb.set k x
     rw [show n - k=(n - (k+1))+1 by omega] at h
     have e:=M.set_append_replicate zs (n - (k+1)) x
     rw [hzl] at e
     rwa [e] at h
    have HSET:=Ba hset
    have ik:(k:Int)<(n:Int):=by omega
    have hsz:1≤s.size - 8*k:=by have:=HN.out;omega
    have ZL:=Ba hzl
    clear hat hpc hset hzl i1
    by_cases hend:8≤s.size - 8*k
    ·have j4:max ((s.size:Int) - 8*(k:Int) - 8) 0=(s.size:Int) - 8*(k:Int) - 8:=by omega
     have j5:((s.size:Int) - 8*(k:Int) - 8).toNat=s.size - 8*k - 8:=by omega
     have j6:((s.size:Int) - 8*(k:Int)).toNat=s.size - 8*k:=by omega
     have hsl:∀ wx:World,(Instr.slice 22 (I s) (some (.int .i64 ((s.size:Int) - 8*(k:Int) - 8))) (some (.int .i64 ((s.size:Int) - 8*(k:Int)))) none).run Tryz.prog wx=.ok (I (s.extract (s.size - 8*k - 8) (s.size - 8*k))) wx:=fun wx=>by
      rw [run_slice_string (P:=Tryz.prog) wx 22 s .i64 .i64 _ _ Tryz.underlying22 (by omega) (by omega) (by omega),j5,j6]
     have H30:=Ba (fun w0=>Kv (s.extract (s.size - 8*k - 8) (s.size - 8*k)) (by rw [ByteArray.size_extract];omega) w0)
     clear j5 j6
     go_wp2_with fail
     refine (H30.out _).mono ?_
     rintro e w4 ⟨rfl,b4⟩
     rw [HPC.out _ rfl]
     have hblk4:=hblk'.b b4
     have hbel4:=Ia hbel' b4
     have HB4:=Ba (HSET.out (M.val 256 (((Bj s).reverse.drop (8*k)).take 8)) w4 hblk4)
     have hc1:=hblk4.cell (j:=k) (by rw [Ji,List.length_replicate,ZL.out];omega)
     have hf1:=hblk4.o k
     generalize M.val 256 (((Bj s).reverse.drop (8*k)).take 8)=y at *
     clear hsl H30 HPC HSET hblk4 j4
     go_wp2
     exact ⟨⟨k+1,_,by omega,by go_num,HST.out,HB4.out,hbel4.setCell (Jb _) _⟩,by simp [intOf];omega⟩
    ·have j4:max ((s.size:Int) - 8*(k:Int) - 8) 0=0:=by omega
     have j6:((s.size:Int) - 8*(k:Int)).toNat=s.size - 8*k:=by omega
     have hsl:∀ wx:World,(Instr.slice 22 (I s) (some (.int .i64 0)) (some (.int .i64 ((s.size:Int) - 8*(k:Int)))) none).run Tryz.prog wx=.ok (I (s.extract 0 (s.size - 8*k))) wx:=fun wx=>by
      rw [run_slice_string (P:=Tryz.prog) wx 22 s .i64 .i64 _ _ Tryz.underlying22 (by omega) (by omega) (by omega),j6];rfl
     have H30:=Ba (fun w0=>Kv (s.extract 0 (s.size - 8*k)) (by rw [ByteArray.size_extract];omega) w0)
     have HL0:Hid (0=s.size - 8*k - 8):=by show _=_;omega
     clear j6
     go_wp2_with fail
     refine (H30.out _).mono ?_
     rintro e w4 ⟨rfl,b4⟩
     rw [HPC.out _ HL0.out]
     have hblk4:=hblk'.b b4
     have hbel4:=Ia hbel' b4
     have HB4:=Ba (HSET.out (M.val 256 (((Bj s).reverse.drop (8*k)).take 8)) w4 hblk4)
     have hc1:=hblk4.cell (j:=k) (by rw [Ji,List.length_replicate,ZL.out];omega)
     have hf1:=hblk4.o k
     generalize M.val 256 (((Bj s).reverse.drop (8*k)).take 8)=y at *
     clear hsl H30 HPC HSET hblk4 j4
     go_wp2
     exact ⟨⟨k+1,_,by omega,by go_num,HST.out,HB4.out,hbel4.setCell (Jb _) _⟩,by simp [intOf];omega⟩
   ·have hke:k=n:=by omega
    subst hke
    have HF:=Ba (Qj hat HN.out H0.out)
    rw [Nat.sub_self,List.replicate_zero,List.append_nil] at hblk'
    have hrd:Rd wr (.slice (some ⟨w.heap.size,0,none⟩) k k) zs:=by
     have:=hblk'.rd0 k (by omega)
     rwa [hzl] at this
    clear hat
    go_wp2
    go_ret2
    exact ⟨_,rfl,by rw [← HF.out];exact hrd,hbel'⟩
 ·clear fz
  have hs0:s.size=0:=by omega
  have hs1:¬ (0:Int)<(s.size:Int):=by omega
  clear hs0
  go_enter Tryz.func130,Tryz.ntmps130
  go_wp2_with (at_make;refine Cn rfl _ _ rfl _ n rfl rfl (by omega) (by omega) ?_;intro w2 hblk hbel)
  go_loopw [26] (fun i wr=>∃ (k:Nat) (zs:List Nat),k≤n∧i=.int .i64 k∧Yr s zs k∧Cm wr w.heap.size (zs ++ List.replicate (n - k) 0)∧Below w.heap.size w wr) (fun i _=>n - (intOf i).toNat)
  case atStart=>exact ⟨0,[],by omega,rfl,⟨rfl,M.Low.nil _,by simp [M.val]⟩,by simpa using hblk,hbel⟩
  case round =>
   obtain ⟨k,zs,hk,rfl,hat,hblk',hbel'⟩:=hrel
   have hzl:zs.length=k:=hat.1
   by_cases hlt:k<n
   ·exfalso;have:=HN.out;omega
   ·have hke:k=n:=by omega
    subst hke
    have HF:=Ba (Qj hat HN.out H0.out)
    rw [Nat.sub_self,List.replicate_zero,List.append_nil] at hblk'
    have hrd:Rd wr (.slice (some ⟨w.heap.size,0,none⟩) k k) zs:=by
     have:=hblk'.rd0 k (by omega)
     rwa [hzl] at this
    clear hat
    go_wp2
    go_ret2
    exact ⟨_,rfl,by rw [← HF.out];exact hrd,hbel'⟩
theorem Dv {s:ByteArray} (hs:0<s.size):¬ s.toList=[]:=by
 rw [ByteArray.toList_eq]
 intro h
 have:=congrArg List.length h
 rw [Array.length_toList] at this
 have h2:s.data.size=s.size:=rfl
 rw [h2,List.length_nil] at this
 omega
theorem Mc (s:ByteArray) (w:World) (h0:0<s.size→lm (Bj s) 0≠0) :
  Calls Tryz.prog 182 #[I s] w fun e w'=>e=.returned (Iz true)∧w'=w:=by
 by_cases hs:0<s.size
 ·have g1:¬ ((s[0]).toNat:Int)=0:=by rw [Ck s 0 hs];have:=h0 hs;omega
  have g2:¬ s[0]=0:=fun h=>g1 (by rw [h];rfl)
  have g4:=Dv hs
  have g5:s.toList.isEmpty=false:=by simpa using g4
  clear h0
  go_enter Tryz.func182,Tryz.ntmps182
  go_wp2
  go_ret
  refine ⟨?_,rfl⟩
  refine congrArg (fun t=>Ending.returned (Value.bool t)) ?_
  simp
  omega
 ·have g3:s=ByteArray.empty:=ByteArray.size_eq_zero_iff.1 (by omega)
  subst g3
  go_enter Tryz.func182,Tryz.ntmps182
  go_wp2
  go_ret
  exact ⟨rfl,rfl⟩
theorem Ya (s:ByteArray) (w:World) (hs:0<s.size) (h0:lm (Bj s) 0=0) :
  Calls Tryz.prog 182 #[I s] w fun e w'=>e=.returned (Iz false)∧w'=w:=by
 have g1:((s[0]).toNat:Int)=0:=by rw [Ck s 0 hs,h0];rfl
 have g3:(s[0]).toNat=0:=by omega
 have g2:s[0]=0:=UInt8.toNat.inj g3
 have g4:=Dv hs
 have g5:s.toList.isEmpty=false:=by simpa using g4
 go_enter Tryz.func182,Tryz.ntmps182
 go_wp2
 go_ret
 refine ⟨?_,rfl⟩
 refine congrArg (fun t=>Ending.returned (Value.bool t)) ?_
 simp
/-! ### Digits -/
def Bis (s:ByteArray) (zs:List Nat) (n k:Nat):Prop:=zs.length=n∧M.Low Bp zs∧M.val Bp zs=M.val 256 ((Bj s).reverse.take k)
theorem Bcn {s:ByteArray} {zs:List Nat} {n m t P:Nat} (h:Bis s zs n (4*m+t)) (hP:P=256 ^ t):lm zs m<P:=by
 obtain ⟨h1,h2,h3⟩:=h
 have e:M.val Bp zs<256 ^ (4*m+t):=by
  rw [h3]
  exact M.val_lt_pow (by omega) ((Ff (Fp s)).take _) (by simp;omega)
 have d:=R.digit Ca h2 m
 have e2:M.val Bp zs / Bp ^ m<P:=by
  rw [Nat.div_lt_iff_lt_mul (Nat.pow_pos Ca),hP]
  rw [Nat.pow_add,Nat.pow_mul,Nat.mul_comm] at e
  exact e
 have e3:=Nat.mod_le (M.val Bp zs / Bp ^ m) Bp
 unfold lm
 omega
theorem Bis.step {s:ByteArray} {zs:List Nat} {n m t P:Nat} (h:Bis s zs n (4*m+t)) (ht:t<4) (hP:P=256 ^ t) (hm:m<n) (hk:4*m+t<s.size) (y:Nat) (hy:y=lm zs m+lm (Bj s) (s.size - 1 - (4*m+t))*P) :
  Bis s (zs.set m y) n (4*m+t+1)∧y<Bp:=by
 have hr:=Bcn h hP
 obtain ⟨h1,h2,h3⟩:=h
 have hx:=Ci (by omega) (Fp s) (s.size - 1 - (4*m+t))
 have hyl:y<Bp:=by
  have hP2:256*P≤Bp:=by
   rw [hP,Nat.mul_comm,← Nat.pow_succ]
   exact Nat.pow_le_pow_right (j:=4) (by omega) (by omega)
  have:lm (Bj s) (s.size - 1 - (4*m+t))*P≤255*P:=Jo _ (by omega)
  omega
 refine ⟨⟨by rw [List.length_set];exact h1,R.low_set h2 m y hyl,?_⟩,hyl⟩
 have hv:=R.val_set (b:=Bp) zs m (lm (Bj s) (s.size - 1 - (4*m+t))*P) (by omega)
 rw [hy]
 show M.val Bp (zs.set m (zs.getD m 0+_))=_
 rw [hv,h3,M.val_take_succ]
 have e1:(Bj s).reverse.getD (4*m+t) 0=lm (Bj s) (s.size - 1 - (4*m+t)):=by
  unfold lm
  rw [Jh,Jh,List.getElem?_reverse (by rw [Bt];exact hk),Bt]
 rw [e1]
 congr 1
 rw [hP,Nat.mul_comm (lm _ _),← Nat.mul_assoc,Nat.pow_add,Nat.pow_mul]
 rfl
theorem Sj (s:ByteArray) (w:World) (hm:s.size≤100000) :
  Calls Tryz.prog 113 #[I s] w fun e w'=>∃ v,e=.returned v∧Rd w' v (M.digs Bp (Bc s))∧Below w.heap.size w w':=by
 obtain ⟨n,hn⟩:∃ n,n=(s.size+3) / 4:=⟨_,rfl⟩
 have i1:(((s.size:Int)+3) / 4)=(n:Int):=by omega
 have i2:n≤100000:=by omega
 have HN:=Ba hn
 clear hn
 go_enter Tryz.func113,Tryz.ntmps113
 go_wp2_with (at_make;refine Cn rfl _ _ rfl _ n rfl rfl (by omega) (by omega) ?_;intro w2 hblk hbel)
 go_loopw [4] (fun i wr=>∃ (k:Nat) (zs:List Nat),k≤s.size∧i=.int .i64 k∧Bis s zs n k∧Cm wr w.heap.size zs∧Below w.heap.size w wr) (fun i _=>s.size - (intOf i).toNat)
 case atStart=>exact ⟨0,List.replicate n 0,by omega,rfl,⟨by simp,M.Low.replicate _ _ Ca,by simp [M.val,M.val_replicate]⟩,hblk,hbel⟩
 case round =>
  obtain ⟨k,zs,hk,rfl,hat,hblk',hbel'⟩:=hrel
  have hzl:zs.length=n:=hat.1
  by_cases hlt:k<s.size
  ·obtain ⟨m,hmm⟩:∃ m,m=k / 4:=⟨_,rfl⟩
   obtain ⟨t,ht⟩:∃ t,t=k % 4:=⟨_,rfl⟩
   have hkm:k=4*m+t:=by omega
   have ht4:t<4:=by omega
   have hmn:m<n:=by have:=HN.out;omega
   obtain ⟨P,hP⟩:∃ P,P=256 ^ t:=⟨_,rfl⟩
   have hP4:t=0∧P=1∨t=1∧P=256∨t=2∧P=65536∨t=3∧P=16777216:=by
    have:t=0∨t=1∨t=2∨t=3:=by omega
    rcases this with rfl | rfl | rfl | rfl <;> simp [hP]
   obtain ⟨p,hp⟩:∃ p,p=s.size - 1 - k:=⟨_,rfl⟩
   have hpl:p<s.size:=by omega
   have hat2:=hat
   rw [hkm] at hat2
   have hr:=Bcn hat2 hP
   obtain ⟨st,hyl⟩:=hat2.step ht4 hP hmn (by omega) _ rfl
   rw [← hkm,← hp] at st hyl
   have hx:=Ci (by omega) (Fp s) p
   have a1:=Ck s p hpl
   obtain ⟨x,hxx⟩:∃ x,x=lm (Bj s) p:=⟨_,rfl⟩
   rw [← hxx] at st hyl hx a1
   have f1:(k:Int) / 4=(m:Int):=by omega
   have f2:(k:Int) % 4=(t:Int):=by omega
   have f3:(s.size:Int) - 1 - (k:Int)=(p:Int):=by omega
   have g1:=hblk'.cell (j:=m) (by rw [hzl];exact hmn)
   have g2:=hblk'.o m
   have hset:=hblk'.set m (lm zs m+x*P)
   have HSET:=Ba hset
   have ST:=Ba st
   have hmn':(m:Int)<(n:Int):=by omega
   have hyl':lm zs m+x*P<4294967296:=hyl
   clear hset st hat hat2 hmm ht hkm hp hxx hyl hP hblk hbel i1
   generalize lm zs m=d at *
   obtain ⟨y,hy⟩:∃ y,y=d+x*P:=⟨_,rfl⟩
   rw [← hy] at HSET ST hyl'
   rcases hP4 with ⟨rfl,rfl⟩ | ⟨rfl,rfl⟩ | ⟨rfl,rfl⟩ | ⟨rfl,rfl⟩
   ·have f2:(k:Int) % 4=0:=f2
    have yc:(d:Int)+(x:Int)=(y:Int):=by omega
    have w1:IntKind.u64.wrap (x:Int)=(x:Int):=Cz x (by omega)
    have w2:IntKind.u64.wrap ((x:Int))=(x:Int):=by rw [IntKind.wrap_u64];omega
    have w3:IntKind.u64.wrap (y:Int)=(y:Int):=Cz y (by omega)
    clear hy
    go_wp2
    go_region
    go_wp2
    exact ⟨⟨k+1,_,by omega,by go_num,ST.out,HSET.out.drew,(hbel'.setCell (Jb _) _).drew⟩,by simp [intOf];omega⟩
   ·have f2:(k:Int) % 4=1:=f2
    have yc:(d:Int)+(x:Int)*256=(y:Int):=by omega
    have w1:IntKind.u64.wrap (x:Int)=(x:Int):=Cz x (by omega)
    have w2:IntKind.u64.wrap ((x:Int)*256)=(x:Int)*256:=by rw [IntKind.wrap_u64];omega
    have w3:IntKind.u64.wrap (y:Int)=(y:Int):=Cz y (by omega)
    clear hy
    go_wp2
    go_region
    go_wp2
    exact ⟨⟨k+1,_,by omega,by go_num,ST.out,HSET.out.drew,(hbel'.setCell (Jb _) _).drew⟩,by simp [intOf];omega⟩
   ·have f2:(k:Int) % 4=2:=f2
    have yc:(d:Int)+(x:Int)*65536=(y:Int):=by omega
    have w1:IntKind.u64.wrap (x:Int)=(x:Int):=Cz x (by omega)
    have w2:IntKind.u64.wrap ((x:Int)*65536)=(x:Int)*65536:=by rw [IntKind.wrap_u64];omega
    have w3:IntKind.u64.wrap (y:Int)=(y:Int):=Cz y (by omega)
    clear hy
    go_wp2
    go_region
    go_wp2
    exact ⟨⟨k+1,_,by omega,by go_num,ST.out,HSET.out.drew,(hbel'.setCell (Jb _) _).drew⟩,by simp [intOf];omega⟩
   ·have f2:(k:Int) % 4=3:=f2
    have yc:(d:Int)+(x:Int)*16777216=(y:Int):=by omega
    have w1:IntKind.u64.wrap (x:Int)=(x:Int):=Cz x (by omega)
    have w2:IntKind.u64.wrap ((x:Int)*16777216)=(x:Int)*16777216:=by rw [IntKind.wrap_u64];omega
    have w3:IntKind.u64.wrap (y:Int)=(y:Int):=Cz y (by omega)
    clear hy
    go_wp2
    go_region
    go_wp2
    exact ⟨⟨k+1,_,by omega,by go_num,ST.out,HSET.out.drew,(hbel'.setCell (Jb _) _).drew⟩,by simp [intOf];omega⟩
  ·have hke:k=s.size:=by omega
   obtain ⟨h1,h2,h3⟩:=hat
   rw [List.take_of_length_le (by rw [List.length_reverse,Bt];omega)] at h3
   have HF:=Ba (show M.val Bp zs=Bc s from h3)
   have hrd:Rd wr (.slice (some ⟨w.heap.size,0,none⟩) n n) zs:=by
    have:=hblk'.rd0 n (by omega)
    rwa [hzl] at this
   clear h3 hke
   go_wp2_with fail
   refine (Fj Bp Bl _ _ zs hrd h2 (by omega)).mono ?_
   rintro e w' ⟨v',rfl,hv',rfl⟩
   go_wp2
   go_ret
   exact ⟨_,rfl,by rw [← HF.out];exact hv',hbel'⟩
end Go.Proofs.YtnplifkgeeicjaaGreatDoor
