import Derived.Laws.BytesArg
import Derived.Shelf.Bytes.SlSmallAll
import Derived.Test.YtnplifkgeeicjaaGreatDoorV16
import Derived.Test.YtnplifkgeeicjaaGreatDoorV18
namespace Go.Proofs.YtnplifkgeeicjaaGreatDoor
open Go.RowKit
def Eb (ys:List Nat):Array Value:=(ys.map fun x=>Value.int .u8 (x:Nat)).toArray
def Nb (w:World) (g:Nat) (ys:List Nat):Prop:=w.heap[g]?=some (.cells (Eb ys) 5 (0,0))
theorem Nb.cell {w:World} {g:Nat} {ys:List Nat} (h:Nb w g ys) {j:Nat} (hj:j<ys.length):w.cell? ⟨g,j,none⟩=some (.int .u8 (lm ys j:Nat)):=by
 unfold Nb at h
 simp [World.cell?,h,Eb,lm,hj]
theorem Nb.o {w:World} {g:Nat} {ys:List Nat} (h:Nb w g ys) (j:Nat):w.frozen? ⟨g,j,none⟩=false:=by
 unfold Nb at h
 simp [World.frozen?,h]
theorem Nb.set {w:World} {g:Nat} {ys:List Nat} (h:Nb w g ys) (j x:Nat):Nb (w.setCell ⟨g,j,none⟩ (.int .u8 (x:Nat))) g (ys.set j x):=by
 unfold Nb at h ⊢
 simp [World.setCell,Array.getElem?_modify,h,Eb]
theorem Bjh (l n:Nat) (hl:l≤n) (hn:n≤100000000) (w:World) :
  (Instr.makeSlice 55 (.int .i64 l) (.int .i64 n)).run Tryz.prog w=.ok (.slice (some ⟨w.heap.size,0,none⟩) l n) (w.alloc (.cells (Eb (List.replicate n 0)) 5)):=by
 obtain ⟨i0,hi,hz0,hz1,hz2⟩:=info_parts (show (Tryz.prog.info? 5).map (fun i=>(i.zero,i.size,i.bytes))=some (some (.int .u8 0),1,1) by kernel_rfl)
 have h:=run_make (P:=Tryz.prog) w 55 5 i0 (.int .u8 0) Tryz.underlying55 hi hz0 .i64 .i64 l n (by omega) (by omega) (by rw [hz2];omega) (by omega)
 rw [h,hz1]
 have e:madeCells (Value.cells (.int .u8 0)) (Int.toNat n*1)=Eb (List.replicate n 0):=by
  apply Array.toList_inj.1
  simp only [Value.cells,toList_madeCells_one]
  simp [Eb]
 rw [e];simp
theorem Bij (w:World) (ys:List Nat):Nb (w.alloc (.cells (Eb ys) 5)) w.heap.size ys:=heap_alloc_new w _
theorem Wj {w:World} {ops:Array Oper} {rest:List Oper} {o:Oper} {a:Act} {Q:Exit→Act→World→Prop}
  (hg:o.guard=none) (l c:Operand) (hop:o.op=Op.makeSlice 55 l c) (L C:Int) (m n:Nat) (hl:a.eval l=.int .i64 L) (hc:a.eval c=.int .i64 C) (hL:L=(m:Int)) (hC:C=(n:Int)) (hmn:m≤n) (hn:n≤100000000)
  (hK:∀ w1,Nb w1 w.heap.size (List.replicate n 0)→Below w.heap.size w w1→wpList Tryz.prog ops Q rest (a.put o.dst (.slice (some ⟨w.heap.size,0,none⟩) m n)) w1) :
  wpList Tryz.prog ops Q (o :: rest) a w:=by
 refine wpList_plain hg fun K hK'=>?_
 subst hL hC
 have hrun:=Bjh m n hmn hn w
 unfold Oper.wp
 simp [execOp,hop,hl,hc,hrun,Result.andThen]
 exact hK' _ _ (hK _ (Bij w _) ((Jg _ _).alloc (Jb _) _))
theorem Y5 {w:World} {ops:Array Oper} {rest:List Oper} {o:Oper} {a:Act} {Q:Exit→Act→World→Prop}
  (hg:o.guard=none) (l c:Operand) (hop:o.op=Op.makeSlice 55 l c) (L:Int) (n:Nat) (hl:a.eval l=.int .i64 L) (hc:a.eval c=.int .i64 L) (hL:L=(n:Int)) (hn:n≤100000000)
  (hK:∀ w1,Nb w1 w.heap.size (List.replicate n 0)→Below w.heap.size w w1→wpList Tryz.prog ops Q rest (a.put o.dst (.slice (some ⟨w.heap.size,0,none⟩) n n)) w1) :
  wpList Tryz.prog ops Q (o :: rest) a w:=Wj hg l c hop L L n n hl hc hL hL (Jb _) hn hK
def Cs (bs:List Nat):ByteArray:=⟨(bs.map UInt8.ofNat).toArray⟩
def Bw (n:Nat):ByteArray:=Cs (M.digs 256 n).reverse
theorem Bbn (bs:List Nat):strOfNums (bs.map fun x:Nat=>(x:Int))=Cs bs:=by
 simp [strOfNums,Cs]
theorem Bje (w:World) (g off n cap:Nat) (bs:List Nat) (h:Nb w g bs) (hn:off+n=bs.length) :
  (convert 55 22 (.slice (some ⟨g,off,none⟩) n cap)).run Tryz.prog w=.ok (I (Cs (bs.drop off))) w:=by
 rw [← Bbn]
 refine run_convert_bytes_arg w 55 5 Tryz.underlying55 Tryz.underlying5 g off n cap _ (by simp;omega) ?_ 22 Tryz.underlying22
 intro i hi
 rw [h.cell (by omega)]
 have hd:off+i<bs.length:=by omega
 have hl:((bs.drop off).map fun x:Nat=>(x:Int)).getD i 0=(lm bs (off+i):Int):=by
  simp [lm,List.getD_eq_getElem?_getD,List.getElem?_drop,hd]
 rw [hl]
theorem Blj {V m t:Nat} (ht:t<4):V / 256 ^ (4*m+t) % 256=V / Bp ^ m % Bp / 256 ^ t % 256:=by
 have e1:256 ^ (4*m+t)=Bp ^ m*256 ^ t:=by rw [Nat.pow_add,Nat.pow_mul];rfl
 rw [e1,← Nat.div_div_eq_div_mul]
 generalize V / Bp ^ m=W
 have e2:Bp=256 ^ t*256 ^ (4 - t):=by rw [← Nat.pow_add,show t+(4 - t)=4 by omega];rfl
 have e3:256 ^ (4 - t)=256*256 ^ (3 - t):=by rw [show 4 - t=(3 - t)+1 by omega,Nat.pow_succ,Nat.mul_comm]
 have e4:W % Bp / 256 ^ t=W / 256 ^ t % 256 ^ (4 - t):=by rw [e2,Nat.mod_mul_right_div_self]
 rw [e4,e3,Nat.mod_mul_right_mod]
def Bit (V:Nat) (done:List Nat) (k:Nat):Prop:=done.length=k∧M.Low 256 done∧M.val 256 done.reverse=V % 256 ^ k
theorem Bit.step {V:Nat} {done:List Nat} {k y:Nat} (h:Bit V done k) (hy:y=V / 256 ^ k % 256):Bit V (y :: done) (k+1):=by
 obtain ⟨h1,h2,h3⟩:=h
 refine ⟨by simp [h1],M.Low.cons (by rw [hy];exact Nat.mod_lt _ (by omega)) h2,?_⟩
 rw [List.reverse_cons,M.val_snoc,List.length_reverse,h1,h3,hy,Nat.mod_pow_succ]
theorem O9 {bs:List Nat} {V k:Nat} (hl:M.Low 256 bs) (hv:M.val 256 bs.reverse=V) (hk:k≤bs.length) (hz:∀ j,j<k→lm bs j=0) (ht:k<bs.length→lm bs k≠0):bs.drop k=(M.digs 256 V).reverse:=by
 have e:bs.reverse.take (bs.length - k)=M.digs 256 V:=by
  rw [← hv]
  refine M.take_eq_digs (by omega) (Ff hl) (by simp) ?_ ?_
  ·intro j hj
   by_cases hjl:j<bs.length
   ·rw [Jh,List.getElem?_reverse hjl]
    have:=hz (bs.length - 1 - j) (by omega)
    unfold lm at this
    rwa [Jh] at this
   ·rw [Jh,List.getElem?_eq_none (by simp;omega)];rfl
  ·intro j hj
   have:=ht (by omega)
   rw [Jh,List.getElem?_reverse (by omega),show bs.length - 1 - j=k by omega]
   unfold lm at this
   rwa [Jh] at this
 rw [← e,List.take_reverse,List.reverse_reverse]
 congr 1
 omega
set_option maxRecDepth 100000 in
set_option maxHeartbeats 2000000 in
theorem W7 (va:Value) (xs:List Nat) (w:World) (ha:Rd w va xs) (la:M.Low Bp xs) (hx:xs.length≤100000) :
  Calls Tryz.prog 114 #[va] w (Re w (I (Bw (M.val Bp xs)))):=by
 obtain ⟨V,hV⟩:∃ V,V=M.val Bp xs:=⟨_,rfl⟩
 rw [← hV]
 obtain ⟨n,hn⟩:∃ n,n=(M.digs Bp V).length:=⟨_,rfl⟩
 have hn1:n≤100000:=by
  have:=M.digs_length_le Bl la
  rw [← hV,← hn] at this
  omega
 have hVn:V<256 ^ (4*n):=by
  have:=M.val_lt Ca (M.Low.digs Bl V)
  rw [M.val_digs Bl,← hn] at this
  rw [Nat.pow_mul];exact this
 have HVN:=Ba hVn
 have HV:=Ba hV
 have HN:=Ba hn
 clear hVn hV hn
 go_enter Tryz.func114,Tryz.ntmps114
 go_wp2_with fail
 refine (Fj Bp Bl _ _ xs ha la (by omega)).mono ?_
 rintro e w1 ⟨v1,rfl,r1,hw⟩
 have hw:=hw.symm
 subst hw
 rw [← HV.out] at r1
 have r10:=r1
 obtain ⟨a,ca,rfl,-,-⟩:=r1
 rw [← HN.out] at r10 ⊢
 go_wp2_with (at_make;refine Y5 rfl _ _ rfl _ (4*n) rfl rfl (by omega) (by omega) ?_;intro w2 hblk hbel)
 go_loopw [4] (fun i wr=>∃ (k:Nat) (done:List Nat),k≤4*n∧i=.int .i64 k∧Bit V done k∧Nb wr w.heap.size (List.replicate (4*n - k) 0 ++ done)∧Below w.heap.size w wr) (fun i _=>4*n - (intOf i).toNat)
 case atStart=>exact ⟨0,[],by omega,rfl,⟨rfl,M.Low.nil _,by simp [M.val,Nat.mod_one]⟩,by simpa using hblk,hbel⟩
 case round =>
  clear hblk hbel
  obtain ⟨k,done,hk,rfl,hat,hblk,hbel⟩:=hrel
  by_cases hlt:k<4*n
  ·obtain ⟨m,hmm⟩:∃ m,m=k / 4:=⟨_,rfl⟩
   obtain ⟨t,ht⟩:∃ t,t=k % 4:=⟨_,rfl⟩
   have hkm:k=4*m+t:=by omega
   have ht4:t<4:=by omega
   have hmn:m<n:=by omega
   obtain ⟨P,hP⟩:∃ P,P=256 ^ t:=⟨_,rfl⟩
   have hP4:t=0∧P=1∨t=1∧P=256∨t=2∧P=65536∨t=3∧P=16777216:=by
    have:t=0∨t=1∨t=2∨t=3:=by omega
    rcases this with rfl | rfl | rfl | rfl <;> simp [hP]
   obtain ⟨p,hp⟩:∃ p,p=4*n - 1 - k:=⟨_,rfl⟩
   have hpl:p<4*n:=by omega
   obtain ⟨ab,ao,rfl,qa⟩:=r10.at hbel (j:=m) (by rw [← HN.out];exact hmn)
   have hxm:=Ci Ca (M.Low.digs Bl V) m
   have hdig:lm (M.digs Bp V) m=V / Bp ^ m % Bp:=by
    have:=R.digit Ca (M.Low.digs Bl V) m
    rw [M.val_digs Bl] at this
    exact this.symm
   obtain ⟨x,hxx⟩:∃ x,x=lm (M.digs Bp V) m:=⟨_,rfl⟩
   rw [← hxx] at hdig qa hxm
   obtain ⟨y,hy⟩:∃ y,y=x / P % 256:=⟨_,rfl⟩
   have hyV:y=V / 256 ^ k % 256:=by rw [hkm,Blj ht4,← hdig,hy,hP]
   have ST:=Ba (hat.step hyV)
   have hset:=hblk.set p y
   rw [show 4*n - k=p+1 by omega,Qg] at hset
   have HSET:=Ba hset
   have g1:=hblk.cell (j:=p) (by rw [Ji,List.length_replicate,hat.1];omega)
   have g2:=hblk.o p
   have f1:(k:Int) / 4=(m:Int):=by omega
   have f2:(k:Int) % 4=(t:Int):=by omega
   have f3:4*(n:Int) - 1 - (k:Int)=(p:Int):=by omega
   have hp1:(p:Int)<4*(n:Int):=by omega
   have hmn':(m:Int)<(n:Int):=by omega
   have HP2:Hid (p=4*n - (k+1)):=by show _=_;omega
   have hx32:x<4294967296:=hxm
   clear hset hat hmm ht hkm hp hxx hyV hP hblk hdig hxm
   rcases hP4 with ⟨rfl,rfl⟩ | ⟨rfl,rfl⟩ | ⟨rfl,rfl⟩ | ⟨rfl,rfl⟩
   ·have f2:(k:Int) % 4=0:=f2
    have yc:IntKind.u8.wrap ((x:Int))=(y:Int):=by rw [IntKind.wrap_u8];omega
    clear hy
    go_wp2
    exact ⟨⟨k+1,_,by omega,by go_num,ST.out,(by rw [← HP2.out];exact HSET.out),hbel.setCell (Jb _) _⟩,by simp [intOf];omega⟩
   ·have f2:(k:Int) % 4=1:=f2
    have yc:IntKind.u8.wrap ((x:Int) / 256)=(y:Int):=by rw [IntKind.wrap_u8];omega
    clear hy
    go_wp2
    exact ⟨⟨k+1,_,by omega,by go_num,ST.out,(by rw [← HP2.out];exact HSET.out),hbel.setCell (Jb _) _⟩,by simp [intOf];omega⟩
   ·have f2:(k:Int) % 4=2:=f2
    have yc:IntKind.u8.wrap ((x:Int) / 65536)=(y:Int):=by rw [IntKind.wrap_u8];omega
    clear hy
    go_wp2
    exact ⟨⟨k+1,_,by omega,by go_num,ST.out,(by rw [← HP2.out];exact HSET.out),hbel.setCell (Jb _) _⟩,by simp [intOf];omega⟩
   ·have f2:(k:Int) % 4=3:=f2
    have yc:IntKind.u8.wrap ((x:Int) / 16777216)=(y:Int):=by rw [IntKind.wrap_u8];omega
    clear hy
    go_wp2
    exact ⟨⟨k+1,_,by omega,by go_num,ST.out,(by rw [← HP2.out];exact HSET.out),hbel.setCell (Jb _) _⟩,by simp [intOf];omega⟩
  ·have hke:k=4*n:=by omega
   obtain ⟨h1,h2,h3⟩:=hat
   rw [hke,Nat.mod_eq_of_lt HVN.out] at h3
   rw [hke,Nat.sub_self,List.replicate_zero,List.nil_append] at hblk
   have hl4:done.length=4*n:=by omega
   have H3:=Ba h3
   clear h3 hke h1
   go_wp2
   go_loop [5] (fun i=>∃ z:Nat,z≤4*n∧i=.int .i64 z∧∀ j,j<z→lm done j=0) (fun i=>4*n - (intOf i).toNat)
   case atStart=>exact ⟨0,by omega,rfl,fun j hj=>by omega⟩
   case round =>
    obtain ⟨z,hz,rfl,hzz⟩:=hrel
    have HZ:=Ba hzz
    have FIN:Hid ((z<4*n→lm done z≠0)→Cs (done.drop z)=Bw V):=fun h=>by
     unfold Bw
     rw [O9 h2 H3.out (by omega) HZ.out (by rw [hl4];exact h)]
    clear hzz
    have hzi:(z:Int)≤4*(n:Int):=by omega
    by_cases hzn:z<4*n
    ·have q1:=hblk.cell (j:=z) (by omega)
     have hzn':(z:Int)<4*(n:Int):=by omega
     by_cases h0:lm done z=0
     ·rw [h0] at q1
      go_wp2
      go_round
      case rel=>exact ⟨z+1,by omega,by go_num,fun j hj=>by
       by_cases e:j=z
       ·subst e;exact h0
       ·exact HZ.out j (by omega)⟩
      case measure=>simp [intOf];omega
     ·have hcv:=Bje wr w.heap.size z (4*n - z) (4*n - z) done hblk (by omega)
      rw [FIN.out (fun _=>h0)] at hcv
      have i3:¬ 4*n=z:=by omega
      have h0':¬ (lm done z:Int)=0:=by omega
      go_wp2
      go_ret
      exact ⟨rfl,hbel⟩
    ·have hze:z=4*n:=by omega
     have hcv:∀ p c,(convert 55 22 (.slice p 0 c)).run Tryz.prog wr=.ok (I ByteArray.empty) wr:=fun p c=>run_convert_bytes_zero wr 55 5 Tryz.underlying55 Tryz.underlying5 p c 22 Tryz.underlying22
     have hE:ByteArray.empty=Bw V:=by
      rw [← FIN.out (fun h=>by omega),List.drop_of_length_le (by omega)];rfl
     have HE:=Ba hE
     subst hze
     clear hE FIN HZ
     go_wp2
     go_ret
     exact ⟨by rw [← HE.out];rfl,hbel⟩
def OkS (s:ByteArray):Prop:=0<s.size→lm (Bj s) 0≠0
theorem K0:∀ {bs:List Nat},M.Low 256 bs→(bs.map UInt8.ofNat).map UInt8.toNat=bs
 | [],_=>rfl
 | x :: bs,h=>by
  have hx:x<256:=h.head
  rw [List.map_cons,List.map_cons,K0 h.tail,UInt8.toNat_ofNat',Nat.mod_eq_of_lt hx]
theorem Pg {bs:List Nat} (h:M.Low 256 bs):Bj (Cs bs)=bs:=by
 show ((bs.map UInt8.ofNat).toArray.toList).map UInt8.toNat=bs
 exact K0 h
theorem K1:∀ (l:List UInt8),(l.map UInt8.toNat).map UInt8.ofNat=l
 | []=>rfl
 | x :: l=>by rw [List.map_cons,List.map_cons,K1 l,UInt8.ofNat_toNat]
theorem Tm (s:ByteArray):Cs (Bj s)=s:=by
 unfold Cs Bj
 rw [K1]
theorem Bna (n:Nat):M.Low 256 (M.digs 256 n).reverse:=Ff (M.Low.digs (by omega) n)
theorem M6 (n:Nat):Bj (Bw n)=(M.digs 256 n).reverse:=Pg (Bna n)
theorem Cx (n:Nat):Bc (Bw n)=n:=by
 unfold Bc
 rw [M6,List.reverse_reverse,M.val_digs (by omega)]
theorem Mw (n:Nat):(Bw n).size=(M.digs 256 n).length:=by rw [← Bt,M6,List.length_reverse]
theorem Dp {s:ByteArray} (h:OkS s):Bw (Bc s)=s:=by
 have e:=O9 (bs:=Bj s) (V:=Bc s) (k:=0) (Fp s) rfl (Nat.zero_le _) (fun j hj=>by omega) (fun hl=>h (by rwa [Bt] at hl))
 rw [List.drop_zero] at e
 unfold Bw
 rw [← e,Tm]
theorem O7 (n:Nat):OkS (Bw n):=by
 intro hs
 rw [Mw] at hs
 rw [M6]
 have ht:=M.trim_digs (b:=256) (by omega) n ((M.digs 256 n).length - 1) (by omega)
 unfold lm
 rw [Jh,List.getElem?_reverse (by omega),← Jh,Nat.sub_zero]
 exact ht
theorem Wx {n k:Nat} (h:n<256 ^ k):(Bw n).size≤k:=by rw [Mw];exact M.digs_len_of_lt (by omega) h
theorem Rb:Bw 0=ByteArray.empty:=rfl
theorem Tl {n:Nat} (h:0<n):0<(Bw n).size:=by
 rw [Mw]
 refine Nat.pos_of_ne_zero fun h0=>?_
 have:=M.val_digs (b:=256) (by omega) n
 rw [List.length_eq_zero_iff.1 h0,M.val_nil] at this
 omega
theorem Hj {s:ByteArray} (h:s.size=0):Bc s=0:=by
 have:=Gd s
 rw [h] at this
 omega
theorem Dw {s:ByteArray} (h:OkS s) (hs:0<s.size):0<Bc s:=by
 refine Nat.pos_of_ne_zero fun h0=>?_
 have:=Dp h
 rw [h0,Rb] at this
 rw [← this] at hs
 simp at hs
def zV (neg:Bool) (s:ByteArray):Value:=.agg #[Iz neg,I s]
def Eg (neg:Bool) (s:ByteArray):Int:=if neg then -(Bc s:Int) else (Bc s:Int)
def zI (z:Int):Value:=zV (decide (z<0)) (Bw z.natAbs)
def Hc (neg:Bool) (s:ByteArray):Prop:=OkS s∧(neg=true→0<s.size)
def Oi (neg:Bool) (s:ByteArray):Nat:=if 32000<s.size then 5 else if (s.size=0∧neg=true)∨(0<s.size∧lm (Bj s) 0=0) then 1 else 0
theorem C8 (neg:Bool) (s:ByteArray):(Eg neg s).natAbs=Bc s:=by cases neg <;> simp [Eg]
theorem Bbc {neg:Bool} {s:ByteArray} (h:Hc neg s):zV neg s=zI (Eg neg s):=by
 unfold zI
 rw [C8,Dp h.1]
 congr 1
 cases neg with
 | false=>symm;simp [Eg]
 | true =>
  have:=Dw h.1 (h.2 rfl)
  symm;simp [Eg];omega
theorem G8 {neg:Bool} {s:ByteArray} (hs:s.size≤32000):Oi neg s=0↔Hc neg s:=by
 unfold Oi Hc OkS
 rw [if_neg (by omega)]
 by_cases h:(s.size=0∧neg=true)∨(0<s.size∧lm (Bj s) 0=0)
 ·rw [if_pos h]
  constructor
  ·intro h;omega
  ·intro ⟨h1,h2⟩
   rcases h with ⟨a,b⟩ | ⟨a,b⟩
   ·have:=h2 b;omega
   ·exact absurd b (h1 a)
 ·rw [if_neg h]
  refine ⟨fun _=>⟨fun a b=>h (Or.inr ⟨a,b⟩),fun b=>Nat.pos_of_ne_zero fun a=>h (Or.inl ⟨a,b⟩)⟩,fun _=>rfl⟩
theorem Bgv (z:Int):Hc (decide (z<0)) (Bw z.natAbs):=by
 refine ⟨O7 _,fun h=>Tl ?_⟩
 have:z<0:=by simpa using h
 omega
theorem Be9 (z:Int):Eg (decide (z<0)) (Bw z.natAbs)=z:=by
 unfold Eg
 rw [Cx]
 by_cases h:z<0
 ·simp [h];omega
 ·simp [h];omega
end Go.Proofs.YtnplifkgeeicjaaGreatDoor
