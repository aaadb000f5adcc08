import Derived.Test.YtnplifkgeeicjaaGreatDoorV11
import Derived.Test.YtnplifkgeeicjaaGreatDoorV22
import Derived.Test.YtnplifkgeeicjaaGreatDoorV24
set_option maxRecDepth 100000
set_option maxHeartbeats 4000000
namespace Go.Proofs.YtnplifkgeeicjaaGreatDoor
open Go.RowKit
def Bk (w:World) (g:Nat) (ys:List Nat) (t:TypeId):Prop:=w.heap[g]?=some (.cells (Dj ys) t (0,0))
theorem Bk.lt {w:World} {g:Nat} {ys:List Nat} {t:TypeId} (h:Bk w g ys t):g<w.heap.size:=by
 unfold Bk at h
 by_cases hg:g<w.heap.size
 ·exact hg
 ·rw [Array.getElem?_eq_none (by omega)] at h;cases h
theorem Bk.cell {w:World} {g:Nat} {ys:List Nat} {t:TypeId} (h:Bk w g ys t) {j:Nat} (hj:j<ys.length):w.cell? ⟨g,j,none⟩=some (.int .u64 (lm ys j:Nat)):=by
 unfold Bk at h
 simp [World.cell?,h,Dj,lm,hj]
theorem Bk.o {w:World} {g:Nat} {ys:List Nat} {t:TypeId} (h:Bk w g ys t) (j:Nat):w.frozen? ⟨g,j,none⟩=false:=by
 unfold Bk at h
 simp [World.frozen?,h]
theorem Bk.set {w:World} {g:Nat} {ys:List Nat} {t:TypeId} (h:Bk w g ys t) (j x:Nat):Bk (w.setCell ⟨g,j,none⟩ (.int .u64 (x:Nat))) g (ys.set j x) t:=by
 unfold Bk at h ⊢
 simp [World.setCell,Array.getElem?_modify,h,Dj]
theorem Bk.t {w:World} {g g':Nat} {ys:List Nat} {t:TypeId} (h:Bk w g ys t) (hn:g≠g') (j:Nat) (v:Value):Bk (w.setCell ⟨g',j,none⟩ v) g ys t:=by
 unfold Bk at h ⊢
 rw [Below.heap_setCell _ _ _ _ (by exact hn)];exact h
theorem Bk.b {w w':World} {g:Nat} {ys:List Nat} {t:TypeId} (h:Bk w g ys t) (hb:Below w.heap.size w w'):Bk w' g ys t:=by
 have:=h.lt
 unfold Bk at h ⊢
 rw [hb.block g this];exact h
theorem Bk.only {w w':World} {g g':Nat} {ys:List Nat} {t:TypeId} (h:Bk w g ys t) (k:Bu g' w w') (hn:g≠g'):Bk w' g ys t:=by
 unfold Bk at *;rw [k.block g hn];exact h
theorem Bk.rd {w:World} {g:Nat} {ys q:List Nat} {t:TypeId} (h:Bk w g (ys ++ q) t) (cap:Nat) (hc:ys.length≤cap):Rd w (.slice (some ⟨g,0,none⟩) ys.length cap) ys:=by
 refine ⟨_,cap,rfl,hc,fun j hj=>⟨g,0,rfl,?_⟩⟩
 rw [Nat.zero_add,h.cell (by simp;omega)]
 unfold lm
 rw [Jh,Jh,List.getElem?_append_left hj]
def Mv (x f m:Nat):Nat:=Dk (Dy x f) m 0
def tHi (x f m:Nat):Nat:=D9 x f+Ev (Dy x f) m 0
theorem U1 {x f m:Nat} (hx:x<Bb) (hf:f<Bb) (hm:m<Bb):tHi x f m<Bb∧Mv x f m<Bb∧Mv x f m+Bb*tHi x f m=x*f+m:=by
 have hp:x*f≤18446744073709551615*18446744073709551615:=Nat.mul_le_mul (by unfold Bb at hx;omega) (by unfold Bb at hf;omega)
 unfold tHi Mv D9 Dy Dk Ev
 unfold Bb at *
 generalize x*f=P at *
 refine ⟨by omega,by omega,by omega⟩
theorem Lr (x f m:Nat) (hx:x<Bb) (hf:f<Bb) (hm:m<Bb) (w:World) :
  Calls Tryz.prog 237 #[.int .u64 (x:Nat),.int .u64 (f:Nat),.int .u64 (m:Nat)] w fun e w'=>e=.returned (.tuple #[.int .u64 (Mv x f m:Nat),.int .u64 (tHi x f m:Nat)])∧w'=w:=by
 have f1:=(U1 hx hf hm).1
 unfold Bb at f1
 unfold tHi at f1
 go_enter Tryz.func237,Tryz.ntmps237
 go_wp2_with fail
 refine (Gs x f hx hf _).mono ?_
 rintro e w' ⟨rfl,rfl⟩
 go_wp2_with (first | simp only [Qu (Dy x f) m])
 go_ret2
 exact ⟨by simp only [Mv,tHi,Int.natCast_add];rfl,rfl⟩
def Bim (s d:List Nat) (k c:Nat):Prop:=d.length=k∧M.Low Bb d∧c≤1∧M.val Bb d+M.val Bb (s.take k)=Bb ^ k*c
theorem Bim.step {s d:List Nat} {k c:Nat} (ls:M.Low Bb s) (h:Bim s d k c):Bim s (d ++ [Ct 0 (lm s k) c]) (k+1) (Ea 0 (lm s k) c):=by
 obtain ⟨h1,h2,h3,h4⟩:=h
 have hl:=Ci Bm ls k
 have f1:Ct 0 (lm s k) c<Bb:=by unfold Ct Bb;omega
 have f2:Ea 0 (lm s k) c≤1:=by unfold Ea;split <;> omega
 have f3:Ct 0 (lm s k) c+lm s k+c=Bb*Ea 0 (lm s k) c:=by
  unfold Ct Ea
  unfold Bb at *
  split <;> omega
 refine ⟨by simp [h1],h2.snoc f1,f2,?_⟩
 rw [M.val_snoc,h1,M.val_take_succ,Nat.pow_succ]
 have e:Bb ^ k*(Ct 0 (lm s k) c+lm s k+c)=Bb ^ k*(Bb*Ea 0 (lm s k) c):=by rw [f3]
 simp only [Nat.mul_add,← Nat.mul_assoc] at e
 show _+(_+Bb ^ k*lm s k)=_
 omega
theorem Bfv (y c:Nat) (hc:c≤1) (w:World):(callFunc 178 #[.int .u64 0,.int .u64 (y:Nat),.int .u64 (c:Nat)]).run Tryz.prog w =
  .ok (.value (.tuple #[.int .u64 (Ct 0 y c:Nat),.int .u64 (Ea 0 y c:Nat)])) w:=Q9 0 y c hc w
theorem Et (g:Nat) (t:TypeId) (s q:List Nat) (cap:Nat) (w:World) (hb:Bk w g (s ++ q) t) (ls:M.Low Bb s) (hm:s.length≤1000000) (h0:M.val Bb s≠0) :
  Calls Tryz.prog 238 #[.slice (some ⟨g,0,none⟩) s.length cap] w fun e w'=>∃ (s':List Nat),e=.returned (.tuple #[])∧Bk w' g (s' ++ q) t∧s'.length=s.length∧M.Low Bb s' ∧
   M.val Bb s'+M.val Bb s=Bb ^ s.length∧Bu g w w':=by
 have H0:Hid (M.val Bb s≠0):=h0
 clear h0
 go_enter Tryz.func238,Tryz.ntmps238
 go_wp2
 go_loopw [2,7] (fun c i wr=>∃ (k cc:Nat) (d:List Nat),k≤s.length∧i=.int .i64 k∧c=.int .u64 cc∧Bim s d k cc∧Bk wr g ([] ++ d ++ s.drop k ++ q) t∧Bu g w wr) (fun _ i _=>s.length - (intOf i).toNat)
 case atStart=>exact ⟨0,0,[],by omega,rfl,rfl,⟨rfl,M.Low.nil _,by omega,by simp [M.val]⟩,by simpa using hb,Bu.refl _ _⟩
 case round =>
  obtain ⟨k,cc,d,hk,rfl,rfl,hat,hblk,hon⟩:=hrel
  have hdl:d.length=k:=hat.1
  have hcc:cc≤1:=hat.2.2.1
  by_cases hlt:k<s.length
  ·rw [Eo s k hlt] at hblk
   have hc1:=hblk.cell (j:=k) (by simp;omega)
   have hf1:=hblk.o k
   have em:=Gi [] d (s.drop (k+1)) q (lm s k)
   rw [List.length_nil,Nat.zero_add,hdl] at em
   rw [em] at hc1
   have hset:=hblk.set k (Ct 0 (lm s k) cc)
   have es:=En [] d (s.drop (k+1)) q (lm s k) (Ct 0 (lm s k) cc)
   rw [List.length_nil,Nat.zero_add,hdl] at es
   rw [es] at hset
   have HST:Hid (Bim s (d ++ [Ct 0 (lm s k) cc]) (k+1) (Ea 0 (lm s k) cc)):=hat.step ls
   have HB:=Ba hset
   have hks:(k:Int)<s.length:=by omega
   clear hset es em
   go_wp2_with (simp only [Bfv (lm s k) cc hcc])
   exact ⟨⟨k+1,_,_,by omega,by go_num,rfl,HST.out,HB.out,hon.setCell _ _⟩,by simp [intOf];omega⟩
  ·have hke:k=s.length:=by omega
   rw [List.drop_of_length_le (by omega),List.append_nil,List.nil_append] at hblk
   obtain ⟨h1,h2,h3,h4⟩:=hat
   rw [M.val_take_all _ _ _ (by omega),hke] at h4
   have h4':M.val Bb d+M.val Bb s=Bb ^ s.length:=by
    have:=H0.out
    rcases (show cc=0∨cc=1 by omega) with e | e
    ·rw [e,Nat.mul_zero] at h4;omega
    ·rwa [e,Nat.mul_one] at h4
   have H4:=Ba h4'
   have HD:Hid (d.length=s.length):=by rw [← hke];exact h1
   clear h4 h4' h1 hke hdl
   go_wp2
   go_end0
   exact ⟨d,rfl,hblk,HD.out,h2,H4.out,hon⟩
open Go.RowKit
namespace M
theorem lead {b t z P L x0 x1 x2:Nat} (hb:b=t*z) (ht:0<t) (hz0:0<z) (hP:0<P) (hL:L<P):(L+P*x0+P*b*x1+P*b*b*x2)*t / (P*b)=x0 / z+x1*t+b*(x2*t):=by
 have hz:P*b=t*(P*z):=by rw [hb];grind
 have e:(L+P*x0+P*b*x1+P*b*b*x2)*t=(L+P*x0)*t+P*b*(x1*t+b*(x2*t)):=by grind
 have hb0:0<P*b:=by rw [hz];exact Nat.mul_pos ht (Nat.mul_pos hP hz0)
 rw [e,Nat.add_mul_div_left _ _ hb0]
 have e2:(L+P*x0)*t / (P*b)=x0 / z:=by
  rw [hz,Nat.mul_comm _ t,Nat.mul_div_mul_left _ _ ht,← Nat.div_div_eq_div_mul,Nat.add_mul_div_left _ _ hP,Nat.div_eq_of_lt hL,Nat.zero_add]
 rw [e2]
 omega
end M
theorem or_swap (c x s:Nat) (hs:s≤63) (hx:x<Bb) (hc:c<2 ^ s):bits .or .u64 ((S8 x s:Nat):Int) (c:Int)=((Zh c x s:Nat):Int):=by
 obtain ⟨-,-,-,f4,hc'⟩:=Gb hs hx hc
 have hlow:S8 x s<18446744073709551616:=Nat.mod_lt _ (by omega)
 rw [← f4,bits_or_u64_nat _ _ hc' hlow,bits_or_u64_nat _ _ hlow hc',Nat.or_comm]
theorem post_a2 {fn:Func} {p:Tmp} {R:Ending→World→Prop} {a:Act} {w:World} {g:Nat} {x y:Value} (h:fn.results=#[.cell p 303]) (hp:a.tmps.getD p undef=.pointer (some ⟨g,0,none⟩)) (hd:a.defers=[])
  (hc:Bi w g [x,y] 303) (hR:R (.returned (.agg #[x,y])) w):bodyPost Tryz.prog fn R .ret a w:=by
 refine ⟨hd,.agg #[x,y],?_,hR⟩
 exact results_cell_row (P:=Tryz.prog) h _ w g 303 #[x,y] (0,0) _ hp hc Tryz.underlying303 rfl (by kernel_rfl)
def lmZ (xs:List Nat) (i:Int):Nat:=if i<0 then 0 else lm xs i.toNat
theorem at_any (i:Int) (w:World) (v:Value) (xs:List Nat) (p:Addr) (hp:w.cell? p=some v) (hv:Rd w v xs) :
  Calls Tryz.prog 263 #[.int .i64 i,.pointer (some p)] w fun e w'=>e=.returned (.int .u64 (lmZ xs i:Nat))∧w'=w:=by
 obtain ⟨a,cap,rfl,hcap,hc⟩:=hv
 by_cases h0:i<0
 ·have HL:Hid (lmZ xs i=0):=by show _=_;unfold lmZ;rw [if_pos h0]
  clear hc
  go_enter Tryz.func263,Tryz.ntmps263
  go_wp2
  go_ret
  exact ⟨by rw [HL.out];rfl,rfl⟩
 ·obtain ⟨k,rfl⟩:=Int.eq_ofNat_of_zero_le (show 0≤i by omega)
  by_cases hk:k<xs.length
  ·obtain ⟨b,off,rfl,hcell⟩:=hc k hk
   have HL:Hid (lmZ xs (k:Int)=lm xs k):=by show _=_;unfold lmZ;rw [if_neg h0];rfl
   clear hc
   go_enter Tryz.func263,Tryz.ntmps263
   go_wp2
   go_ret
   exact ⟨by rw [HL.out];rfl,rfl⟩
  ·have HL:Hid (lmZ xs (k:Int)=0):=by show _=_;unfold lmZ;rw [if_neg h0];exact Ek (by simpa using hk)
   clear hc
   go_enter Tryz.func263,Tryz.ntmps263
   go_wp2
   go_ret
   exact ⟨by rw [HL.out];rfl,rfl⟩
theorem leading_walk (a:Option Addr) (cap:Nat) (xs:List Nat) (n:Int) (s x0 x1 x2:Nat) (w:World) (hv:Rd w (.slice a xs.length cap) xs) (hn0:0≤n) (hn1:n≤1000000) (hs:s≤63)
  (e0:lmZ xs (n - 3)=x0) (e1:lmZ xs (n - 2)=x1) (e2:lmZ xs (n - 1)=x2) (l0:x0<Bb) (l1:x1<Bb) (l2:x2<Bb) :
  Calls Tryz.prog 234 #[.slice a xs.length cap,.int .i64 n,.int .i64 (s:Nat)] w (Re w (.agg #[.int .u64 (Zh (Ka x0 s) x1 s:Nat),.int .u64 (Zh (Ka x1 s) x2 s:Nat)])):=by
 have hmf:∀ (fn:Fn) (first cap:Array Value) (w:World),(Instr.makeFunc fn first cap).run Tryz.prog w=.ok (.func fn first cap) w:=fun _ _ _ _=>rfl
 obtain ⟨w1,hw1⟩:∃ w1,w1=(w.alloc (.cells #[.slice a xs.length cap] 64)).alloc (.cells #[.int .u64 0,.int .u64 0] 303):=⟨_,rfl⟩
 have k:Bi w1 w.heap.size [.slice a xs.length cap] 64:=by rw [hw1];exact (Bi.new w _ _).alloc _
 have k1:Bi w1 (w.heap.size+1) [.int .u64 0,.int .u64 0] 303:=by
  rw [hw1]
  have:=Bi.new (w.alloc (.cells #[.slice a xs.length cap] 64)) [.int .u64 0,.int .u64 0] 303
  simpa using this
 have bb:Below w.heap.size w w1:=by rw [hw1];go_grown
 have HA:=Ba (fun i=>at_any i _ _ xs ⟨w.heap.size,0,none⟩ (k.cell 0) (hv.b bb))
 have el:∀ x:Nat,IntKind.u64.wrap ((x:Int)*2 ^ s)=((S8 x s:Nat):Int):=fun x=>by rw [← De,Nf];rfl
 have eh:∀ x:Nat,((x:Int) / 2 ^ (64 - s))=((Ka x s:Nat):Int):=fun x=>by rw [← Fo];rfl
 have o1:=or_swap (Ka x0 s) x1 s hs l1 (Gb (c:=0) hs l0 (Nat.pow_pos (by omega))).2.1
 have o2:=or_swap (Ka x1 s) x2 s hs l2 (Gb (c:=0) hs l1 (Nat.pow_pos (by omega))).2.1
 have E0:=Ba e0
 have E1:=Ba e1
 have E2:=Ba e2
 have hs1:(s:Int)≤63:=by omega
 clear k hv e0 e1 e2 l0 l1 l2
 go_enter Tryz.func234,Tryz.ntmps234
 go_wp2_with fail
 rw [← hw1]
 clear hw1
 refine (HA.out (n - 3)).mono ?_
 rintro e w2 ⟨rfl,rfl⟩
 rw [E0.out]
 go_wp2_with fail
 refine (HA.out (n - 2)).mono ?_
 rintro e w3 ⟨rfl,rfl⟩
 rw [E1.out]
 go_wp2_with fail
 refine (HA.out (n - 1)).mono ?_
 rintro e w4 ⟨rfl,rfl⟩
 rw [E2.out]
 have c0:=k1.cell 0
 have c1:=k1.cell 1
 have f0:=k1.o 0
 have f1:=k1.o 1
 simp only [Jn,Jm] at c0 c1
 clear HA E0 E1 E2
 go_wp2
 go_region
 go_wp2
 exact post_a2 (p:=6) (by kernel_rfl) rfl rfl ((k1.set 0 _).set 1 _).drew ⟨rfl,((bb.setCell (by simp) _).setCell (by simp) _).drew⟩
theorem lmZ_nat (xs:List Nat) (k:Nat):lmZ xs (k:Int)=lm xs k:=by unfold lmZ;rw [if_neg (by omega)];rfl
theorem leading_any (a:Option Addr) (cap:Nat) (xs:List Nat) (n s:Nat) (w:World) (hv:Rd w (.slice a xs.length cap) xs) (lx:M.Low Bb xs) (hl:xs.length≤n) (hn:2≤n) (hn1:n≤1000000) (hs:s≤63) (hx:lm xs (n - 1)*2 ^ s<Bb) :
  Calls Tryz.prog 234 #[.slice a xs.length cap,.int .i64 (n:Nat),.int .i64 (s:Nat)] w fun e w'=>∃ p q:Nat,e=.returned (.agg #[.int .u64 (p:Nat),.int .u64 (q:Nat)])∧p<Bb∧q<Bb ∧
   p+Bb*q=M.val Bb xs*2 ^ s / Bb ^ (n - 2)∧Below w.heap.size w w':=by
 obtain ⟨x1,e1⟩:∃ x,lmZ xs ((n:Int) - 2)=x:=⟨_,rfl⟩
 obtain ⟨x2,e2⟩:∃ x,lmZ xs ((n:Int) - 1)=x:=⟨_,rfl⟩
 obtain ⟨x0,e0⟩:∃ x,lmZ xs ((n:Int) - 3)=x:=⟨_,rfl⟩
 have E1:x1=lm xs (n - 2):=by rw [← e1,show (n:Int) - 2=((n - 2:Nat):Int) by omega,lmZ_nat]
 have E2:x2=lm xs (n - 1):=by rw [← e2,show (n:Int) - 1=((n - 1:Nat):Int) by omega,lmZ_nat]
 have l1:x1<Bb:=by rw [E1];exact Ci Bm lx _
 have l2:x2<Bb:=by rw [E2];exact Ci Bm lx _
 have l0:x0<Bb:=by
  rw [← e0]
  unfold lmZ
  split
  ·exact Bm
  ·exact Ci Bm lx _
 have hS:0<2 ^ s:=Nat.pow_pos (by omega)
 obtain ⟨-,g2,-,-,-⟩:=Gb (c:=0) hs l0 hS
 obtain ⟨f1,f2,f3,-,-⟩:=Gb hs l1 g2
 obtain ⟨k1,k2,k3,-,-⟩:=Gb hs l2 f2
 have hb:Bb=2 ^ s*2 ^ (64 - s):=by rw [← Nat.pow_add,show s+(64 - s)=64 by omega];rfl
 have hZ:0<2 ^ (64 - s):=Nat.pow_pos (by omega)
 refine (leading_walk a cap xs n s x0 x1 x2 w hv (by omega) (by omega) hs e0 e1 e2 l0 l1 l2).mono ?_
 rintro e w' ⟨rfl,bb⟩
 refine ⟨_,_,rfl,f1,k1,?_,bb⟩
 have z2:Ka x2 s=0:=by
  unfold Ka
  rw [Nat.div_eq_zero_iff]
  right
  rw [← E2,hb,Nat.mul_comm] at hx
  exact Nat.lt_of_mul_lt_mul_left hx
 rw [z2,Nat.mul_zero,Nat.add_zero] at k3
 have key:M.val Bb xs*2 ^ s / Bb ^ (n - 2)=Ka x0 s+x1*2 ^ s+Bb*(x2*2 ^ s):=by
  have v1:=M.val_take_succ Bb xs (n - 2)
  have v2:=M.val_take_succ Bb xs (n - 1)
  rw [show n - 2+1=n - 1 by omega] at v1
  rw [show n - 1+1=n by omega,M.val_take_all _ _ _ hl] at v2
  have vE1:xs.getD (n - 2) 0=x1:=E1.symm
  have vE2:xs.getD (n - 1) 0=x2:=E2.symm
  rw [vE1] at v1
  rw [vE2,v1] at v2
  by_cases h2:n=2
  ·subst h2
   have z0:x0=0:=by rw [← e0];unfold lmZ;rw [if_pos (by omega)]
   have hh:Ka x0 s=0:=by rw [z0];exact Nat.zero_div _
   rw [v2,hh]
   simp only [Nat.sub_self,Nat.pow_zero,Nat.div_one,List.take_zero,M.val_nil,Nat.zero_add,Nat.one_mul,show 2 - 1=1 from rfl,Nat.pow_one]
   rw [Nat.add_mul,Nat.mul_assoc]
  ·have E0:x0=lm xs (n - 3):=by rw [← e0,show (n:Int) - 3=((n - 3:Nat):Int) by omega,lmZ_nat]
   have v0:=M.val_take_succ Bb xs (n - 3)
   rw [show n - 3+1=n - 2 by omega,show xs.getD (n - 3) 0=x0 from E0.symm] at v0
   have lL:M.val Bb (xs.take (n - 3))<Bb ^ (n - 3):=M.val_lt_pow Bm (lx.take _) (by simp;omega)
   rw [v0] at v2
   have p1:Bb ^ (n - 2)=Bb ^ (n - 3)*Bb:=by rw [show n - 2=n - 3+1 by omega,Nat.pow_succ]
   have p2:Bb ^ (n - 1)=Bb ^ (n - 3)*Bb*Bb:=by rw [show n - 1=n - 3+1+1 by omega,Nat.pow_succ,Nat.pow_succ]
   rw [v2,p1,p2]
   exact M.lead hb hS hZ (Nat.pow_pos Bm) lL
 rw [key]
 have:Bb*(Zh (Ka x1 s) x2 s)=Bb*(Ka x1 s+x2*2 ^ s):=by rw [k3]
 rw [this,Nat.mul_add]
 omega
open Go.RowKit
structure Cj (g g':Nat) (w w':World):Prop where
 os:w'.os=w.os
 tape:w'.tape=w.tape
 output:w'.output=w.output
 size:w.heap.size≤w'.heap.size
 block:∀ k,k<w.heap.size→k≠g→k≠g'→w'.heap[k]?=w.heap[k]?
theorem Cj.trans {g g':Nat} {a b c:World} (h:Cj g g' a b) (k:Cj g g' b c):Cj g g' a c :=
 ⟨k.os.trans h.os,k.tape.trans h.tape,k.output.trans h.output,Jf h.size k.size,fun i hl hi hj=>(k.block i (Jl hl h.size) hi hj).trans (h.block i hl hi hj)⟩
theorem Cj.left {g g':Nat} {a b:World} (h:Bu g a b):Cj g g' a b:=⟨h.os,h.tape,h.output,by rw [h.size];exact Jb _,fun i _ hi _=>h.block i hi⟩
theorem Cj.right {g g':Nat} {a b:World} (h:Bu g' a b):Cj g g' a b:=⟨h.os,h.tape,h.output,by rw [h.size];exact Jb _,fun i _ _ hi=>h.block i hi⟩
theorem Cj.of {g g':Nat} {a b:World} (h:Below a.heap.size a b):Cj g g' a b:=⟨h.os,h.tape,h.output,h.size,fun i hl _ _=>h.block i hl⟩
theorem Cj.set0 {g g':Nat} {a w:World} (h:Cj g g' a w) (j:Nat) (u:Value):Cj g g' a (w.setCell ⟨g,j,none⟩ u):=h.trans (Cj.left ((Bu.refl _ _).setCell _ _))
theorem Cj.set1 {g g':Nat} {a w:World} (h:Cj g g' a w) (j:Nat) (u:Value):Cj g g' a (w.setCell ⟨g',j,none⟩ u):=h.trans (Cj.right ((Bu.refl _ _).setCell _ _))
theorem Cj.b {g g' B:Nat} {a w w':World} (h:Below B a w) (k:Cj g g' w w') (hB:B≤w.heap.size) (h0:B≤g) (h1:B≤g'):Below B a w' :=
 ⟨k.os.trans h.os,k.tape.trans h.tape,k.output.trans h.output,Jf h.size k.size,fun i hi=>(k.block i (by omega) (by omega) (by omega)).trans (h.block i hi)⟩
theorem Bi.grew2 {w w':World} {g a b:Nat} {cs:List Value} {t:TypeId} (h:Bi w g cs t) (k:Cj a b w w') (ha:g≠a) (hb:g≠b):Bi w' g cs t:=by
 have:=h.lt
 unfold Bi at h ⊢
 rw [k.block g this ha hb];exact h
def Bio (xs ys d:List Nat) (a b k p m l:Nat):Prop :=
 d.length=k∧M.Low Bb d∧p<Bb∧m<Bb∧l≤1∧M.val Bb d+b*M.val Bb (ys.take k)+Bb ^ k*p=a*M.val Bb (xs.take k)+Bb ^ k*(m+l)
theorem Bi4 {B P V X Y a b x y o lx hx ly hy p m l l':Nat} (h:V+b*Y+P*p=a*X+P*(m+l)) (h1:lx+B*hx=x*a+p) (h2:ly+B*hy=y*b+m) (h3:o+ly+l=lx+B*l') :
  (V+P*o)+b*(Y+P*y)+P*B*hx=a*(X+P*x)+P*B*(hy+l'):=by
 have e1:P*(lx+B*hx)=P*(x*a+p):=by rw [h1]
 have e2:P*(ly+B*hy)=P*(y*b+m):=by rw [h2]
 have e3:P*(o+ly+l)=P*(lx+B*l'):=by rw [h3]
 grind
theorem Bio.step {xs ys d:List Nat} {a b k p m l:Nat} (lx:M.Low Bb xs) (ly:M.Low Bb ys) (ha:a<Bb) (hb:b<Bb) (h:Bio xs ys d a b k p m l) :
  Bio xs ys (d ++ [Ct (Mv (lm xs k) a p) (Mv (lm ys k) b m) l]) a b (k+1) (tHi (lm xs k) a p) (tHi (lm ys k) b m) (Ea (Mv (lm xs k) a p) (Mv (lm ys k) b m) l):=by
 obtain ⟨h1,h2,h3,h4,h5,h6⟩:=h
 obtain ⟨f1,f2,f3⟩:=U1 (Ci Bm lx k) ha h3
 obtain ⟨g1,g2,g3⟩:=U1 (Ci Bm ly k) hb h4
 generalize Mv (lm xs k) a p=u at *
 generalize Mv (lm ys k) b m=v at *
 have k1:Ct u v l<Bb:=by unfold Ct Bb;omega
 have k2:Ea u v l≤1:=by unfold Ea;split <;> omega
 have k3:Ct u v l+v+l=u+Bb*Ea u v l:=by
  unfold Ct Ea
  unfold Bb at *
  split <;> omega
 refine ⟨by simp [h1],h2.snoc k1,f1,g1,k2,?_⟩
 rw [M.val_snoc,h1,M.val_take_succ,M.val_take_succ,Nat.pow_succ]
 exact Bi4 h6 f3 g3 k3
theorem Bfl {P V A C p m l N:Nat} (h:V+C+P*p=A+P*(m+l)) (hV:V<P) (hN:N<P) (hl:l≤1) (hA:A=C+N∨C=A+N) :
  (¬ (p<m∨(p=m∧l≠0))∧V=N)∨((p<m∨(p=m∧l≠0))∧V≠0∧∀ V',V'+V=P→V'=N):=by
 rcases hA with rfl | rfl
 ·left
  have h':V+P*p=N+P*(m+l):=by omega
  have e:p=m+l:=by
   rcases Nat.lt_trichotomy p (m+l) with g | g | g
   ·have:=Nat.mul_le_mul_left P (show p+1≤m+l from g)
    rw [Nat.mul_add,Nat.mul_one] at this
    omega
   ·exact g
   ·have:=Nat.mul_le_mul_left P (show m+l+1≤p from g)
    rw [Nat.mul_add,Nat.mul_one] at this
    omega
  rw [e] at h'
  exact ⟨by omega,by omega⟩
 ·have h':V+N+P*p=P*(m+l):=by omega
  by_cases h0:N=0
  ·left
   subst h0
   have e:p=m+l:=by
    rcases Nat.lt_trichotomy p (m+l) with g | g | g
    ·have:=Nat.mul_le_mul_left P (show p+1≤m+l from g)
     rw [Nat.mul_add,Nat.mul_one] at this
     omega
    ·exact g
    ·have:=Nat.mul_le_mul_left P (show m+l+1≤p from g)
     rw [Nat.mul_add,Nat.mul_one] at this
     omega
   rw [e] at h'
   exact ⟨by omega,by omega⟩
  ·right
   have e:m+l=p+1:=by
    rcases Nat.lt_trichotomy (m+l) (p+1) with g | g | g
    ·have:=Nat.mul_le_mul_left P (show m+l≤p by omega)
     omega
    ·exact g
    ·have:=Nat.mul_le_mul_left P (show p+2≤m+l from g)
     rw [Nat.mul_add] at this
     omega
   rw [e,Nat.mul_add,Nat.mul_one] at h'
   refine ⟨by omega,by omega,fun V' hV'=>by omega⟩
theorem Oz (a b c d g0 g1:Nat) (t:TypeId) (xs ys q0 q1:List Nat) (c0 n1 c1:Nat) (w:World) (h0:Bk w g0 (xs ++ q0) t) (h1:Bk w g1 (ys ++ q1) t) (hg:g0≠g1) (hxy:ys.length=xs.length)
  (ha:a<Bb) (hb:b<Bb) (hc:c<Bb) (hd:d<Bb) (lx:M.Low Bb xs) (ly:M.Low Bb ys) (hc1:xs.length≤c1) (hm:xs.length≤1000000)
  (X' Y':Nat) (eX:a*M.val Bb xs=b*M.val Bb ys+X'∨b*M.val Bb ys=a*M.val Bb xs+X') (eY:c*M.val Bb xs=d*M.val Bb ys+Y'∨d*M.val Bb ys=c*M.val Bb xs+Y')
  (bX:X'<Bb ^ xs.length) (bY:Y'<Bb ^ xs.length) :
  Calls Tryz.prog 207 #[.agg #[.int .u64 (a:Nat),.int .u64 (b:Nat),.int .u64 (c:Nat),.int .u64 (d:Nat)],.slice (some ⟨g0,0,none⟩) xs.length c0,.slice (some ⟨g1,0,none⟩) n1 c1] w fun e w' =>
   ∃ xs' ys':List Nat,e=.returned (.tuple #[])∧Bk w' g0 (xs' ++ q0) t∧Bk w' g1 (ys' ++ q1) t∧xs'.length=xs.length∧ys'.length=xs.length∧M.Low Bb xs'∧M.Low Bb ys'∧M.val Bb xs'=X'∧M.val Bb ys'=Y'∧Cj g0 g1 w w':=by
 have hcc1:(xs.length:Int)≤c1:=by omega
 have EX:=Ba eX
 have EY:=Ba eY
 have BX:=Ba bX
 have BY:=Ba bY
 clear eX eY bX bY
 go_enter Tryz.func207,Tryz.ntmps207
 go_wp2
 have kS:=Bi.new w [.int .u64 (a:Nat),.int .u64 (b:Nat),.int .u64 (c:Nat),.int .u64 (d:Nat)] 276
 have gS:Cj g0 g1 w (w.alloc (.cells #[.int .u64 (a:Nat),.int .u64 (b:Nat),.int .u64 (c:Nat),.int .u64 (d:Nat)] 276)):=Cj.of ((Jg _ _).alloc (Jb _) _)
 have lt0:=h0.lt
 have lt1:=h1.lt
 go_loopw [6,7,8,9,10,11,23] (fun va vb vc vd vl vl' i wr=>∃ (k p m p' m' l l':Nat) (u v:List Nat),k≤xs.length∧i=.int .i64 k∧va=.int .u64 p∧vb=.int .u64 m∧vc=.int .u64 p'∧vd=.int .u64 m'∧vl=.int .u64 l∧vl'=.int .u64 l' ∧
   Bio xs ys u a b k p m l∧Bio xs ys v c d k p' m' l'∧Bk wr g0 ([] ++ u ++ xs.drop k ++ q0) t∧Bk wr g1 ([] ++ v ++ ys.drop k ++ q1) t∧Bi wr w.heap.size [.int .u64 (a:Nat),.int .u64 (b:Nat),.int .u64 (c:Nat),.int .u64 (d:Nat)] 276∧Cj g0 g1 w wr)
  (fun _ _ _ _ _ _ i _=>xs.length - (intOf i).toNat)
 case atStart=>exact ⟨0,0,0,0,0,0,0,[],[],by omega,rfl,rfl,rfl,rfl,rfl,rfl,rfl,⟨rfl,M.Low.nil _,Bm,Bm,by omega,by simp [M.val]⟩,⟨rfl,M.Low.nil _,Bm,Bm,by omega,by simp [M.val]⟩,
   by simpa using h0.b ((Below.refl _ _).alloc (Nat.le_refl _) _),by simpa using h1.b ((Below.refl _ _).alloc (Nat.le_refl _) _),kS,gS⟩
 case round =>
  clear kS gS
  obtain ⟨k,p,m,p',m',l,l',u,v,hk,rfl,rfl,rfl,rfl,rfl,rfl,rfl,at1,at2,k0,k1,kS,gS⟩:=hrel
  have hul:u.length=k:=at1.1
  have hvl:v.length=k:=at2.1
  obtain ⟨-,-,ip,im,il,-⟩:=id at1
  obtain ⟨-,-,ip',im',il',-⟩:=id at2
  by_cases hlt:k<xs.length
  ·rw [Eo xs k hlt] at k0
   rw [Eo ys k (by omega)] at k1
   have x1:=k0.cell (j:=k) (by simp;omega)
   have em:=Gi [] u (xs.drop (k+1)) q0 (lm xs k)
   rw [List.length_nil,Nat.zero_add,hul] at em
   rw [em] at x1
   have y1:=k1.cell (j:=k) (by simp;omega)
   have em:=Gi [] v (ys.drop (k+1)) q1 (lm ys k)
   rw [List.length_nil,Nat.zero_add,hvl] at em
   rw [em] at y1
   have f0:=k0.o k
   have s0:=kS.cell 0
   have s1:=kS.cell 1
   have s2:=kS.cell 2
   have s3:=kS.cell 3
   simp only [Jn,Jm] at s0 s1 s2 s3
   have hks:(k:Int)<xs.length:=by omega
   have hky:(k:Int)<ys.length:=by omega
   have ixl:=Ci Bm lx k
   have iyl:=Ci Bm ly k
   have T1:=Ba (at1.step lx ly ha hb)
   have T2:=Ba (at2.step lx ly hc hd)
   have M1:=Ba (fun w=>Lr (lm xs k) a p ixl ha ip w)
   have M2:=Ba (fun w=>Lr (lm ys k) b m iyl hb im w)
   have M3:=Ba (fun w=>Lr (lm xs k) c p' ixl hc ip' w)
   have M4:=Ba (fun w=>Lr (lm ys k) d m' iyl hd im' w)
   clear ixl iyl at1 at2 em
   go_wp2_with fail
   refine (M1.out _).mono ?_
   rintro e w1 ⟨rfl,rfl⟩
   go_wp2_with fail
   refine (M2.out _).mono ?_
   rintro e w1 ⟨rfl,rfl⟩
   obtain ⟨o,ho⟩:∃ o,o=Ct (Mv (lm xs k) a p) (Mv (lm ys k) b m) l:=⟨_,rfl⟩
   have HS1:=Ba (fun w=>Q9 (Mv (lm xs k) a p) (Mv (lm ys k) b m) l il w)
   obtain ⟨w2,hw2⟩:∃ w2,w2=w1.setCell ⟨g0,k,none⟩ (.int .u64 (o:Nat)):=⟨_,rfl⟩
   have j0:Bk w2 g0 ([] ++ (u ++ [o]) ++ xs.drop (k+1) ++ q0) t:=by
    have hset:=k0.set k o
    have es:=En [] u (xs.drop (k+1)) q0 (lm xs k) o
    rw [List.length_nil,Nat.zero_add,hul] at es
    rw [es,← hw2] at hset
    exact hset
   have j1:Bk w2 g1 ([] ++ v ++ (lm ys k :: ys.drop (k+1)) ++ q1) t:=by rw [hw2];exact k1.t (Ne.symm hg) _ _
   have jS:Bi w2 w.heap.size [.int .u64 (a:Nat),.int .u64 (b:Nat),.int .u64 (c:Nat),.int .u64 (d:Nat)] 276:=by rw [hw2];exact kS.t (by omega) _ _
   have jG:Cj g0 g1 w w2:=by rw [hw2];exact gS.set0 _ _
   have s2':=jS.cell 2
   have s3':=jS.cell 3
   have f1:=j1.o k
   have y2:=j1.cell (j:=k) (by simp;omega)
   simp only [Jn,Jm] at s2' s3'
   rw [hw2,ho] at s2' s3' f1 y2
   go_wp2_with (first | simp only [HS1.out])
   rw [← ho,← hw2]
   rw [← ho,← hw2] at s2' s3' f1 y2
   have j0':=j0
   rw [ho] at j0'
   clear hw2 ho
   clear s0 s1 s2 s3 HS1 k0 k1 kS gS x1 y1 f0
   refine (M3.out _).mono ?_
   rintro e w3 ⟨rfl,rfl⟩
   go_wp2_with fail
   refine (M4.out _).mono ?_
   rintro e w3 ⟨rfl,rfl⟩
   have HS2:=Ba (fun w=>Q9 (Mv (lm xs k) c p') (Mv (lm ys k) d m') l' il' w)
   have z1:Bk (w3.setCell ⟨g1,k,none⟩ (.int .u64 (Ct (Mv (lm xs k) c p') (Mv (lm ys k) d m') l':Nat))) g1 ([] ++ (v ++ [Ct (Mv (lm xs k) c p') (Mv (lm ys k) d m') l']) ++ ys.drop (k+1) ++ q1) t:=by
    have hset:=j1.set k (Ct (Mv (lm xs k) c p') (Mv (lm ys k) d m') l')
    have es:=En [] v (ys.drop (k+1)) q1 (lm ys k) (Ct (Mv (lm xs k) c p') (Mv (lm ys k) d m') l')
    rw [List.length_nil,Nat.zero_add,hvl] at es
    rw [es] at hset
    exact hset
   have Z1:=Ba z1
   have Z0:=Ba (j0'.t hg k (.int .u64 (Ct (Mv (lm xs k) c p') (Mv (lm ys k) d m') l':Nat)))
   have ZS:=Ba (jS.t (show w.heap.size≠g1 by omega) k (.int .u64 (Ct (Mv (lm xs k) c p') (Mv (lm ys k) d m') l':Nat)))
   have ZG:=Ba (jG.set1 k (.int .u64 (Ct (Mv (lm xs k) c p') (Mv (lm ys k) d m') l':Nat)))
   clear z1
   go_wp2_with (first | simp only [HS2.out])
   exact ⟨⟨k+1,_,_,_,_,_,_,_,_,by omega,by go_num,rfl,rfl,rfl,rfl,rfl,rfl,T1.out,T2.out,Z0.out,Z1.out,ZS.out,ZG.out⟩,by simp [intOf];omega⟩
  ·have hke:k=xs.length:=by omega
   rw [List.drop_of_length_le (by omega),List.append_nil,List.nil_append] at k0 k1
   obtain ⟨-,lu,-,-,-,e1⟩:=at1
   obtain ⟨-,lv,-,-,-,e2⟩:=at2
   rw [M.val_take_all _ _ _ (by omega),M.val_take_all _ _ _ (by omega),hke] at e1 e2
   have lu':=M.val_lt Bm lu
   have lv':=M.val_lt Bm lv
   rw [hul,hke] at lu'
   rw [hvl,hke] at lv'
   have F1:=Ba (Bfl e1 lu' BX.out il EX.out)
   have F2:=Ba (Bfl e2 lv' BY.out il' EY.out)
   have HU:Hid (u.length=xs.length):=by show _=_;omega
   have HV:Hid (v.length=xs.length):=by show _=_;omega
   have A1:(p<m)∨(p=m∧l=1)∨(p=m∧l=0)∨(m<p):=by omega
   have A2:(p'<m')∨(p'=m'∧l'=1)∨(p'=m'∧l'=0)∨(m'<p'):=by omega
   clear e1 e2 lu' lv' hke hul hvl ip im il ip' im' il' ha hb hc hd lx ly h0 h1
   rcases A1 with h1 | ⟨rfl,rfl⟩ | ⟨rfl,rfl⟩ | h1
   ·have nz:M.val Bb u≠0∧∀ V',V'+M.val Bb u=Bb ^ xs.length→V'=X':=by
     rcases F1.out with ⟨h,-⟩ | ⟨-,h⟩
     ·exact absurd (by first | exact Or.inl h1 | exact Or.inr ⟨rfl,by omega⟩) h
     ·exact h
    have NZ1:=Ba nz
    have HT1:=Ba (fun wx (hx:Bk wx g0 (u ++ q0) t)=>Et g0 t u q0 c0 wx hx lu (by rw [HU.out];exact hm) nz.1)
    rw [HU.out] at HT1
    clear nz
    go_wp2_with fail
    refine (HT1.out _ k0).mono ?_
    rintro e w5 ⟨u',rfl,k0',lv1,lu',lv3,ov⟩
    replace k1:=k1.only ov (by omega)
    replace gS:=gS.trans (Cj.left ov)
    have V1:=Ba (NZ1.out.2 _ lv3)
    replace HU:Hid (u'.length=xs.length):=lv1
    clear lv3 lv1 HT1 NZ1 k0 lu F1 ov
    have k0:=k0'
    have lu:=lu'
    clear k0' lu'
    rcases A2 with h2 | ⟨rfl,rfl⟩ | ⟨rfl,rfl⟩ | h2
    ·have nz:M.val Bb v≠0∧∀ V',V'+M.val Bb v=Bb ^ xs.length→V'=Y':=by
      rcases F2.out with ⟨h,-⟩ | ⟨-,h⟩
      ·exact absurd (by first | exact Or.inl h2 | exact Or.inr ⟨rfl,by omega⟩) h
      ·exact h
     have NZ:=Ba nz
     have HT2:=Ba (fun wx (hx:Bk wx g1 (v ++ q1) t)=>Et g1 t v q1 c1 wx hx lv (by rw [HV.out];exact hm) nz.1)
     rw [HV.out] at HT2
     clear nz
     go_wp2_with fail
     refine (HT2.out _ k1).mono ?_
     rintro e w5 ⟨v',rfl,k1',lv1,lv2,lv3,ov⟩
     have k0':=k0.only ov (by omega)
     have gS':=gS.trans (Cj.right ov)
     have LV:=Ba (NZ.out.2 _ lv3)
     have LV1:=Ba lv1
     clear lv3 lv1 HT2 NZ
     go_wp2
     go_end0
     exact ⟨_,v',rfl,k0',k1',HU.out,LV1.out,lu,lv2,V1.out,LV.out,gS'⟩
    ·have nz:M.val Bb v≠0∧∀ V',V'+M.val Bb v=Bb ^ xs.length→V'=Y':=by
      rcases F2.out with ⟨h,-⟩ | ⟨-,h⟩
      ·exact absurd (by first | exact Or.inl h2 | exact Or.inr ⟨rfl,by omega⟩) h
      ·exact h
     have NZ:=Ba nz
     have HT2:=Ba (fun wx (hx:Bk wx g1 (v ++ q1) t)=>Et g1 t v q1 c1 wx hx lv (by rw [HV.out];exact hm) nz.1)
     rw [HV.out] at HT2
     clear nz
     go_wp2_with fail
     refine (HT2.out _ k1).mono ?_
     rintro e w5 ⟨v',rfl,k1',lv1,lv2,lv3,ov⟩
     have k0':=k0.only ov (by omega)
     have gS':=gS.trans (Cj.right ov)
     have LV:=Ba (NZ.out.2 _ lv3)
     have LV1:=Ba lv1
     clear lv3 lv1 HT2 NZ
     go_wp2
     go_end0
     exact ⟨_,v',rfl,k0',k1',HU.out,LV1.out,lu,lv2,V1.out,LV.out,gS'⟩
    ·have V2:Hid (M.val Bb v=Y'):=by
      rcases F2.out with ⟨-,h⟩ | ⟨h,-⟩
      ·exact h
      ·exact absurd h (by omega)
     go_wp2_with fail
     go_end0
     first | exact ⟨_,v,rfl,k0,k1,HU.out,HV.out,lu,lv,V1.out,V2.out,gS⟩ | exact ⟨rfl,_,v,k0,k1,HU.out,HV.out,lu,lv,V1.out,V2.out,gS⟩ | exact ⟨rfl,_,k0,v,k1,HU.out,HV.out,lu,lv,V1.out,V2.out,gS⟩
    ·have V2:Hid (M.val Bb v=Y'):=by
      rcases F2.out with ⟨-,h⟩ | ⟨h,-⟩
      ·exact h
      ·exact absurd h (by omega)
     go_wp2_with fail
     go_end0
     first | exact ⟨_,v,rfl,k0,k1,HU.out,HV.out,lu,lv,V1.out,V2.out,gS⟩ | exact ⟨rfl,_,v,k0,k1,HU.out,HV.out,lu,lv,V1.out,V2.out,gS⟩ | exact ⟨rfl,_,k0,v,k1,HU.out,HV.out,lu,lv,V1.out,V2.out,gS⟩
   ·have nz:M.val Bb u≠0∧∀ V',V'+M.val Bb u=Bb ^ xs.length→V'=X':=by
     rcases F1.out with ⟨h,-⟩ | ⟨-,h⟩
     ·exact absurd (by first | exact Or.inl h1 | exact Or.inr ⟨rfl,by omega⟩) h
     ·exact h
    have NZ1:=Ba nz
    have HT1:=Ba (fun wx (hx:Bk wx g0 (u ++ q0) t)=>Et g0 t u q0 c0 wx hx lu (by rw [HU.out];exact hm) nz.1)
    rw [HU.out] at HT1
    clear nz
    go_wp2_with fail
    refine (HT1.out _ k0).mono ?_
    rintro e w5 ⟨u',rfl,k0',lv1,lu',lv3,ov⟩
    replace k1:=k1.only ov (by omega)
    replace gS:=gS.trans (Cj.left ov)
    have V1:=Ba (NZ1.out.2 _ lv3)
    replace HU:Hid (u'.length=xs.length):=lv1
    clear lv3 lv1 HT1 NZ1 k0 lu F1 ov
    have k0:=k0'
    have lu:=lu'
    clear k0' lu'
    rcases A2 with h2 | ⟨rfl,rfl⟩ | ⟨rfl,rfl⟩ | h2
    ·have nz:M.val Bb v≠0∧∀ V',V'+M.val Bb v=Bb ^ xs.length→V'=Y':=by
      rcases F2.out with ⟨h,-⟩ | ⟨-,h⟩
      ·exact absurd (by first | exact Or.inl h2 | exact Or.inr ⟨rfl,by omega⟩) h
      ·exact h
     have NZ:=Ba nz
     have HT2:=Ba (fun wx (hx:Bk wx g1 (v ++ q1) t)=>Et g1 t v q1 c1 wx hx lv (by rw [HV.out];exact hm) nz.1)
     rw [HV.out] at HT2
     clear nz
     go_wp2_with fail
     refine (HT2.out _ k1).mono ?_
     rintro e w5 ⟨v',rfl,k1',lv1,lv2,lv3,ov⟩
     have k0':=k0.only ov (by omega)
     have gS':=gS.trans (Cj.right ov)
     have LV:=Ba (NZ.out.2 _ lv3)
     have LV1:=Ba lv1
     clear lv3 lv1 HT2 NZ
     go_wp2
     go_end0
     exact ⟨_,v',rfl,k0',k1',HU.out,LV1.out,lu,lv2,V1.out,LV.out,gS'⟩
    ·have nz:M.val Bb v≠0∧∀ V',V'+M.val Bb v=Bb ^ xs.length→V'=Y':=by
      rcases F2.out with ⟨h,-⟩ | ⟨-,h⟩
      ·exact absurd (by first | exact Or.inl h2 | exact Or.inr ⟨rfl,by omega⟩) h
      ·exact h
     have NZ:=Ba nz
     have HT2:=Ba (fun wx (hx:Bk wx g1 (v ++ q1) t)=>Et g1 t v q1 c1 wx hx lv (by rw [HV.out];exact hm) nz.1)
     rw [HV.out] at HT2
     clear nz
     go_wp2_with fail
     refine (HT2.out _ k1).mono ?_
     rintro e w5 ⟨v',rfl,k1',lv1,lv2,lv3,ov⟩
     have k0':=k0.only ov (by omega)
     have gS':=gS.trans (Cj.right ov)
     have LV:=Ba (NZ.out.2 _ lv3)
     have LV1:=Ba lv1
     clear lv3 lv1 HT2 NZ
     go_wp2
     go_end0
     exact ⟨_,v',rfl,k0',k1',HU.out,LV1.out,lu,lv2,V1.out,LV.out,gS'⟩
    ·have V2:Hid (M.val Bb v=Y'):=by
      rcases F2.out with ⟨-,h⟩ | ⟨h,-⟩
      ·exact h
      ·exact absurd h (by omega)
     go_wp2_with fail
     go_end0
     first | exact ⟨_,v,rfl,k0,k1,HU.out,HV.out,lu,lv,V1.out,V2.out,gS⟩ | exact ⟨rfl,_,v,k0,k1,HU.out,HV.out,lu,lv,V1.out,V2.out,gS⟩ | exact ⟨rfl,_,k0,v,k1,HU.out,HV.out,lu,lv,V1.out,V2.out,gS⟩
    ·have V2:Hid (M.val Bb v=Y'):=by
      rcases F2.out with ⟨-,h⟩ | ⟨h,-⟩
      ·exact h
      ·exact absurd h (by omega)
     go_wp2_with fail
     go_end0
     first | exact ⟨_,v,rfl,k0,k1,HU.out,HV.out,lu,lv,V1.out,V2.out,gS⟩ | exact ⟨rfl,_,v,k0,k1,HU.out,HV.out,lu,lv,V1.out,V2.out,gS⟩ | exact ⟨rfl,_,k0,v,k1,HU.out,HV.out,lu,lv,V1.out,V2.out,gS⟩
   ·have V1:Hid (M.val Bb u=X'):=by
     rcases F1.out with ⟨-,h⟩ | ⟨h,-⟩
     ·exact h
     ·exact absurd h (by omega)
    clear F1
    rcases A2 with h2 | ⟨rfl,rfl⟩ | ⟨rfl,rfl⟩ | h2
    ·have nz:M.val Bb v≠0∧∀ V',V'+M.val Bb v=Bb ^ xs.length→V'=Y':=by
      rcases F2.out with ⟨h,-⟩ | ⟨-,h⟩
      ·exact absurd (by first | exact Or.inl h2 | exact Or.inr ⟨rfl,by omega⟩) h
      ·exact h
     have NZ:=Ba nz
     have HT2:=Ba (fun wx (hx:Bk wx g1 (v ++ q1) t)=>Et g1 t v q1 c1 wx hx lv (by rw [HV.out];exact hm) nz.1)
     rw [HV.out] at HT2
     clear nz
     go_wp2_with fail
     refine (HT2.out _ k1).mono ?_
     rintro e w5 ⟨v',rfl,k1',lv1,lv2,lv3,ov⟩
     have k0':=k0.only ov (by omega)
     have gS':=gS.trans (Cj.right ov)
     have LV:=Ba (NZ.out.2 _ lv3)
     have LV1:=Ba lv1
     clear lv3 lv1 HT2 NZ
     go_wp2
     go_end0
     exact ⟨_,v',rfl,k0',k1',HU.out,LV1.out,lu,lv2,V1.out,LV.out,gS'⟩
    ·have nz:M.val Bb v≠0∧∀ V',V'+M.val Bb v=Bb ^ xs.length→V'=Y':=by
      rcases F2.out with ⟨h,-⟩ | ⟨-,h⟩
      ·exact absurd (by first | exact Or.inl h2 | exact Or.inr ⟨rfl,by omega⟩) h
      ·exact h
     have NZ:=Ba nz
     have HT2:=Ba (fun wx (hx:Bk wx g1 (v ++ q1) t)=>Et g1 t v q1 c1 wx hx lv (by rw [HV.out];exact hm) nz.1)
     rw [HV.out] at HT2
     clear nz
     go_wp2_with fail
     refine (HT2.out _ k1).mono ?_
     rintro e w5 ⟨v',rfl,k1',lv1,lv2,lv3,ov⟩
     have k0':=k0.only ov (by omega)
     have gS':=gS.trans (Cj.right ov)
     have LV:=Ba (NZ.out.2 _ lv3)
     have LV1:=Ba lv1
     clear lv3 lv1 HT2 NZ
     go_wp2
     go_end0
     exact ⟨_,v',rfl,k0',k1',HU.out,LV1.out,lu,lv2,V1.out,LV.out,gS'⟩
    ·have V2:Hid (M.val Bb v=Y'):=by
      rcases F2.out with ⟨-,h⟩ | ⟨h,-⟩
      ·exact h
      ·exact absurd h (by omega)
     go_wp2_with fail
     go_end0
     first | exact ⟨_,v,rfl,k0,k1,HU.out,HV.out,lu,lv,V1.out,V2.out,gS⟩ | exact ⟨rfl,_,v,k0,k1,HU.out,HV.out,lu,lv,V1.out,V2.out,gS⟩ | exact ⟨rfl,_,k0,v,k1,HU.out,HV.out,lu,lv,V1.out,V2.out,gS⟩
    ·have V2:Hid (M.val Bb v=Y'):=by
      rcases F2.out with ⟨-,h⟩ | ⟨h,-⟩
      ·exact h
      ·exact absurd h (by omega)
     go_wp2_with fail
     go_end0
     first | exact ⟨_,v,rfl,k0,k1,HU.out,HV.out,lu,lv,V1.out,V2.out,gS⟩ | exact ⟨rfl,_,v,k0,k1,HU.out,HV.out,lu,lv,V1.out,V2.out,gS⟩ | exact ⟨rfl,_,k0,v,k1,HU.out,HV.out,lu,lv,V1.out,V2.out,gS⟩
   ·have V1:Hid (M.val Bb u=X'):=by
     rcases F1.out with ⟨-,h⟩ | ⟨h,-⟩
     ·exact h
     ·exact absurd h (by omega)
    clear F1
    rcases A2 with h2 | ⟨rfl,rfl⟩ | ⟨rfl,rfl⟩ | h2
    ·have nz:M.val Bb v≠0∧∀ V',V'+M.val Bb v=Bb ^ xs.length→V'=Y':=by
      rcases F2.out with ⟨h,-⟩ | ⟨-,h⟩
      ·exact absurd (by first | exact Or.inl h2 | exact Or.inr ⟨rfl,by omega⟩) h
      ·exact h
     have NZ:=Ba nz
     have HT2:=Ba (fun wx (hx:Bk wx g1 (v ++ q1) t)=>Et g1 t v q1 c1 wx hx lv (by rw [HV.out];exact hm) nz.1)
     rw [HV.out] at HT2
     clear nz
     go_wp2_with fail
     refine (HT2.out _ k1).mono ?_
     rintro e w5 ⟨v',rfl,k1',lv1,lv2,lv3,ov⟩
     have k0':=k0.only ov (by omega)
     have gS':=gS.trans (Cj.right ov)
     have LV:=Ba (NZ.out.2 _ lv3)
     have LV1:=Ba lv1
     clear lv3 lv1 HT2 NZ
     go_wp2
     go_end0
     exact ⟨_,v',rfl,k0',k1',HU.out,LV1.out,lu,lv2,V1.out,LV.out,gS'⟩
    ·have nz:M.val Bb v≠0∧∀ V',V'+M.val Bb v=Bb ^ xs.length→V'=Y':=by
      rcases F2.out with ⟨h,-⟩ | ⟨-,h⟩
      ·exact absurd (by first | exact Or.inl h2 | exact Or.inr ⟨rfl,by omega⟩) h
      ·exact h
     have NZ:=Ba nz
     have HT2:=Ba (fun wx (hx:Bk wx g1 (v ++ q1) t)=>Et g1 t v q1 c1 wx hx lv (by rw [HV.out];exact hm) nz.1)
     rw [HV.out] at HT2
     clear nz
     go_wp2_with fail
     refine (HT2.out _ k1).mono ?_
     rintro e w5 ⟨v',rfl,k1',lv1,lv2,lv3,ov⟩
     have k0':=k0.only ov (by omega)
     have gS':=gS.trans (Cj.right ov)
     have LV:=Ba (NZ.out.2 _ lv3)
     have LV1:=Ba lv1
     clear lv3 lv1 HT2 NZ
     go_wp2
     go_end0
     exact ⟨_,v',rfl,k0',k1',HU.out,LV1.out,lu,lv2,V1.out,LV.out,gS'⟩
    ·have V2:Hid (M.val Bb v=Y'):=by
      rcases F2.out with ⟨-,h⟩ | ⟨h,-⟩
      ·exact h
      ·exact absurd h (by omega)
     go_wp2_with fail
     go_end0
     first | exact ⟨_,v,rfl,k0,k1,HU.out,HV.out,lu,lv,V1.out,V2.out,gS⟩ | exact ⟨rfl,_,v,k0,k1,HU.out,HV.out,lu,lv,V1.out,V2.out,gS⟩ | exact ⟨rfl,_,k0,v,k1,HU.out,HV.out,lu,lv,V1.out,V2.out,gS⟩
    ·have V2:Hid (M.val Bb v=Y'):=by
      rcases F2.out with ⟨-,h⟩ | ⟨h,-⟩
      ·exact h
      ·exact absurd h (by omega)
     go_wp2_with fail
     go_end0
     first | exact ⟨_,v,rfl,k0,k1,HU.out,HV.out,lu,lv,V1.out,V2.out,gS⟩ | exact ⟨rfl,_,v,k0,k1,HU.out,HV.out,lu,lv,V1.out,V2.out,gS⟩ | exact ⟨rfl,_,k0,v,k1,HU.out,HV.out,lu,lv,V1.out,V2.out,gS⟩
open Go.RowKit
def Bd (z:Int) (k:Nat):Prop:=z.natAbs<256 ^ k
theorem Baf (k:Nat):0<256 ^ k:=Nat.pow_pos (by omega)
theorem Bd.zero (k:Nat):Bd 0 k:=Baf k
theorem Bnr {n:Bool} {s:ByteArray} {k:Nat} (h:s.size≤k):Bd (Eg n s) k:=by
 unfold Bd
 rw [C8]
 exact Jl (Gd s) (Nat.pow_le_pow_right (by omega) h)
theorem Bd.le {x y:Int} {k:Nat} (hy:Bd y k) (h:x.natAbs≤y.natAbs):Bd x k:=Nat.lt_of_le_of_lt h hy
theorem Bd.nat {a b k:Nat} (hb:Bd (b:Int) k) (h:a≤b):Bd (a:Int) k:=hb.le (by simpa using h)
theorem Bd.size {z:Int} {k:Nat} (h:Bd z k):(Bw z.natAbs).size≤k:=Wx h
theorem Bom:∃ (nf:Int→Bool) (sf:Int→ByteArray),(∀ z,zI z=.agg #[Iz (nf z),I (sf z)])∧(∀ z,Hc (nf z) (sf z))∧(∀ z k,Bd z k→(sf z).size≤k)∧(∀ z,Eg (nf z) (sf z)=z)∧(∀ n s,Hc n s→nf (Eg n s)=n∧sf (Eg n s)=s)∧(∀ z,Bc (sf z)=z.natAbs)∧(∀ z,nf z=decide (z<0))∧(∀ z,sf z=Bw z.natAbs) :=
 ⟨fun z=>decide (z<0),fun z=>Bw z.natAbs,fun _=>rfl,Bgv,fun z k h=>h.size,Be9,fun n s h=>by
  have e:=Bbc h
  unfold zI zV at e
  simp only [Value.agg.injEq] at e
  have e':[Value.bool n,I s]=[Iz (decide (Eg n s<0)),I (Bw (Eg n s).natAbs)]:=congrArg Array.toList e
  simp only [List.cons.injEq,Value.bool.injEq,Value.string.injEq] at e'
  exact ⟨e'.1.symm,e'.2.1.symm⟩,fun z=>Cx _,fun _=>rfl,fun _=>rfl⟩
theorem Em:Bw 1=⟨#[1]⟩:=by decide +kernel
theorem Ch:Bc ⟨#[1]⟩=1:=by rw [← Em,Cx]
theorem Bfb:zI 1=.agg #[Iz false,I ⟨#[1]⟩]:=by
 show zV (decide ((1:Int)<0)) (Bw 1)=_
 rw [Em]
 rfl
theorem L8 {s:ByteArray} (hs:OkS s):s=⟨#[1]⟩↔Bc s=1:=by
 constructor
 ·intro h;rw [h,Ch]
 ·intro h;rw [← Dp hs,h,Em]
theorem Bjv {s:ByteArray} (hs:OkS s):s.size=0↔Bc s=0:=by
 constructor
 ·exact Hj
 ·intro h
  refine Nat.eq_zero_of_not_pos fun hp=>?_
  have:=Dw hs hp
  omega
def Yv (n:Bool) (s d:ByteArray):Prop:=Hc n s∧OkS d∧0<Bc d∧Nat.gcd (Bc s) (Bc d)=1
def qOf (n:Bool) (s d:ByteArray):Rat:=mkRat (Eg n s) (Bc d)
def qI (q:Rat):Value:=(D8 (decide (q.num<0)) (Bw q.num.natAbs) (Bw q.den))
theorem Yv.low {n:Bool} {s d:ByteArray} (h:Yv n s d):(qOf n s d).num=Eg n s∧(qOf n s d).den=Bc d :=
 Q.mk_low h.2.2.1 (by rw [C8];exact h.2.2.2)
theorem Yv.parts {n:Bool} {s d:ByteArray} (h:Yv n s d):decide ((qOf n s d).num<0)=n∧Bw (qOf n s d).num.natAbs=s∧Bw (qOf n s d).den=d:=by
 rw [h.low.1,h.low.2,C8,Dp h.1.1,Dp h.2.1]
 refine ⟨?_,rfl,rfl⟩
 cases n with
 | false=>simp [Eg]
 | true =>
  have:=Dw h.1.1 (h.1.2 rfl)
  simp [Eg];omega
theorem Bgw (q:Rat):Yv (decide (q.num<0)) (Bw q.num.natAbs) (Bw q.den):=by
 refine ⟨Bgv _,O7 _,?_,?_⟩
 ·rw [Cx];exact q.den_pos
 ·rw [Cx,Cx];exact q.reduced
theorem Bm0 (q:Rat):qOf (decide (q.num<0)) (Bw q.num.natAbs) (Bw q.den)=q:=by
 unfold qOf
 rw [Be9,Cx,Rat.mkRat_self]
theorem Bbx {q:Rat} {z:Int} {m:Nat} (h:q.num=z∧q.den=m) {n:Bool} {s d:ByteArray} (hz:zI z=.agg #[Iz n,I s]) (hd:d=Bw m):qI q=(D8 n s d):=by
 obtain ⟨rfl,rfl⟩:=h
 subst hd
 have e:(#[Iz (decide (q.num<0)),I (Bw q.num.natAbs)]:Array Value)=#[Iz n,I s]:=by
  have:zI q.num=.agg #[Iz (decide (q.num<0)),I (Bw q.num.natAbs)]:=rfl
  rw [this] at hz
  simpa using hz
 have e':[Value.bool (decide (q.num<0)),I (Bw q.num.natAbs)]=[Iz n,I s]:=congrArg Array.toList e
 simp only [List.cons.injEq,Value.bool.injEq,Value.string.injEq,and_true] at e'
 unfold qI
 rw [e'.1,e'.2]
def Bq (q:Rat) (k:Nat):Prop:=Bd q.num k∧Bd (q.den:Int) k
theorem Bm7:∃ (nf:Rat→Bool) (sf df:Rat→ByteArray),(∀ q,qI q=(D8 (nf q) (sf q) (df q)))∧(∀ q,Yv (nf q) (sf q) (df q))∧(∀ q k,Bq q k→(sf q).size≤k∧(df q).size≤k)∧(∀ q,qOf (nf q) (sf q) (df q)=q)∧(∀ n s d,Yv n s d→nf (qOf n s d)=n∧sf (qOf n s d)=s∧df (qOf n s d)=d) :=
 ⟨fun q=>decide (q.num<0),fun q=>Bw q.num.natAbs,fun q=>Bw q.den,fun _=>rfl,Bgw,fun q k h=>⟨h.1.size,by have:=h.2.size;simpa using this⟩,Bm0,fun n s d h=>h.parts⟩
def Ed (n:Bool) (s d:ByteArray):Nat:=if 8000<s.size∨8000<d.size then 5 else if Oi n s≠0∨d.size=0∨lm (Bj d) 0=0∨Nat.gcd (Bc s) (Bc d)≠1 then 1 else 0
theorem C6 {n:Bool} {s d:ByteArray} (h:Ed n s d=0):Yv n s d∧s.size≤8000∧d.size≤8000:=by
 unfold Ed at h
 by_cases h1:8000<s.size∨8000<d.size
 ·rw [if_pos h1] at h;omega
 ·rw [if_neg h1] at h
  by_cases h2:Oi n s≠0∨d.size=0∨lm (Bj d) 0=0∨Nat.gcd (Bc s) (Bc d)≠1
  ·rw [if_pos h2] at h;omega
  ·have hs:s.size≤8000:=by omega
   have c0:Oi n s=0:=by
    refine Classical.byContradiction fun e=>h2 (Or.inl e)
   have d0:0<d.size:=Nat.pos_of_ne_zero fun e=>h2 (Or.inr (Or.inl e))
   have od:OkS d:=fun _ e=>h2 (Or.inr (Or.inr (Or.inl e)))
   have g1:Nat.gcd (Bc s) (Bc d)=1:=Classical.byContradiction fun e=>h2 (Or.inr (Or.inr (Or.inr e)))
   exact ⟨⟨(G8 (by omega)).1 c0,od,Dw od d0,g1⟩,hs,by omega⟩
theorem Vw {n:Bool} {s d:ByteArray} (h:Yv n s d) (hs:s.size≤8000) (hd:d.size≤8000):Ed n s d=0:=by
 unfold Ed
 rw [if_neg (by omega),if_neg]
 have d0:0<d.size:=Nat.pos_of_ne_zero fun e=>by have:=Hj e;have:=h.2.2.1;omega
 rintro (a | a | a | a)
 ·exact a ((G8 (by omega)).2 h.1)
 ·omega
 ·exact h.2.1 d0 a
 ·exact a h.2.2.2
open Go.RowKit
def Wz (a b c d:Nat):Value:=.agg #[.int .u64 (a:Nat),.int .u64 (b:Nat),.int .u64 (c:Nat),.int .u64 (d:Nat)]
theorem Kq {fn:Func} {p:Tmp} {R:Ending→World→Prop} {a:Act} {w:World} {g:Nat} {x y z u:Value} (h:fn.results=#[.cell p 276]) (hp:a.tmps.getD p undef=.pointer (some ⟨g,0,none⟩)) (hd:a.defers=[])
  (hc:Bi w g [x,y,z,u] 276) (hR:R (.returned (.agg #[x,y,z,u])) w):bodyPost Tryz.prog fn R .ret a w:=by
 refine ⟨hd,.agg #[x,y,z,u],?_,hR⟩
 exact results_cell_row (P:=Tryz.prog) h _ w g 276 #[x,y,z,u] (0,0) _ hp hc Tryz.underlying276 rfl (by kernel_rfl)
theorem Bcj (x y:Nat) (hx:x<Bb) (hyx:y≤x) (w:World) :
  Calls Tryz.prog 235 #[.int .u64 (x:Nat),.int .u64 (y:Nat)] w fun e w'=>∃ a b c d p r:Nat,e=.returned (Wz a b c d)∧M.Few x y a b c d p r∧b<1073741824∧d<1073741824∧Below w.heap.size w w':=by
 unfold Wz
 unfold Bb at hx
 go_enter Tryz.func235,Tryz.ntmps235
 go_wp2
 obtain ⟨w0,hw0⟩:∃ w0,w0=(w.alloc (.cells #[.int .u64 0,.int .u64 0,.int .u64 0,.int .u64 0] 276)).alloc (.cells #[.int .u64 1,.int .u64 0,.int .u64 0,.int .u64 1] 276):=⟨_,rfl⟩
 have k0:Bi w0 w.heap.size [.int .u64 0,.int .u64 0,.int .u64 0,.int .u64 0] 276:=by rw [hw0];exact (Bi.new w _ _).alloc _
 have k1:Bi w0 (w.heap.size+1) [.int .u64 ((1:Nat):Int),.int .u64 ((0:Nat):Int),.int .u64 ((0:Nat):Int),.int .u64 ((1:Nat):Int)] 276:=by
  rw [hw0]
  have:=Bi.new (w.alloc (.cells #[.int .u64 0,.int .u64 0,.int .u64 0,.int .u64 0] 276)) [.int .u64 1,.int .u64 0,.int .u64 0,.int .u64 1] 276
  simpa using this
 have b0:Below w.heap.size w w0:=by rw [hw0];go_grown
 rw [← hw0]
 clear hw0
 go_loopw [0,1] (fun vx vy wr=>∃ a b c d p r:Nat,vx=.int .u64 p∧vy=.int .u64 r∧M.Few x y a b c d p r∧a<1073741824∧b<1073741824∧c<1073741824∧d<1073741824∧p≤x∧r≤p ∧
   Bi wr w.heap.size [.int .u64 0,.int .u64 0,.int .u64 0,.int .u64 0] 276∧Bi wr (w.heap.size+1) [.int .u64 (a:Nat),.int .u64 (b:Nat),.int .u64 (c:Nat),.int .u64 (d:Nat)] 276∧Below w.heap.size w wr)
  (fun _ vy _=>(intOf vy).toNat)
 case atStart=>exact ⟨1,0,0,1,x,y,rfl,rfl,M.Few.zero x y,by omega,by omega,by omega,by omega,by omega,hyx,k0,k1,b0⟩
 case round =>
  clear k0 k1 b0
  obtain ⟨a,b,c,d,p,r,rfl,rfl,few,ha,hb,hc,hd,hp,hr,k0,k1,b0⟩:=hrel
  have e0:=k1.cell 0
  have e1:=k1.cell 1
  have e2:=k1.cell 2
  have e3:=k1.cell 3
  have z0:=k0.cell 0
  have z1:=k0.cell 1
  have z2:=k0.cell 2
  have z3:=k0.cell 3
  have f0:=k0.o 0
  have f1:=k0.o 1
  have f2:=k0.o 2
  have f3:=k0.o 3
  simp only [Jn,Jm] at e0 e1 e2 e3 z0 z1 z2 z3
  have FE:=Ba few
  by_cases h0:r=0
  ·go_wp2
   exact Kq (p:=4) (by kernel_rfl) rfl rfl ((((k0.set 0 _).set 1 _).set 2 _).set 3 _) ⟨a,b,c,d,p,r,rfl,FE.out,hb,hd,(((b0.setCell (by simp) _).setCell (by simp) _).setCell (by simp) _).setCell (by simp) _⟩
  ·obtain ⟨q,hq⟩:∃ q,p / r=q:=⟨_,rfl⟩
   obtain ⟨t,ht⟩:∃ t,p % r=t:=⟨_,rfl⟩
   have iq:IntKind.u64.wrap (Int.tdiv (p:Int) (r:Int))=(q:Nat):=by
    rw [Int.tdiv_eq_ediv_of_nonneg (by omega),← Int.natCast_ediv,hq]
    exact Cz q (by have:=Nat.div_le_self p r;omega)
   have it:Int.tmod (p:Int) (r:Int)=(t:Nat):=by
    rw [Int.tmod_eq_emod_of_nonneg (by omega),← Int.natCast_emod,ht]
   have hdm:p=q*r+t:=by rw [← hq,← ht,Nat.mul_comm];exact (Nat.div_add_mod p r).symm
   have htr:t<r:=by rw [← ht];exact Nat.mod_lt _ (by omega)
   have HD:=Ba hdm
   have hr1:¬ (r:Int)=0:=by omega
   have hr2:((r:Int) != 0)=true:=by simpa using hr1
   clear hq ht hdm few
   have A:=Ba ha
   have B:=Ba hb
   have C:=Ba hc
   have D:=Ba hd
   have P:=Ba hp
   have X:=Ba hx
   have R:=Ba hr
   have T:=Ba htr
   have HYX:=Ba hyx
   clear ha hb hc hd hp hx hr htr hyx h0
   obtain ⟨qc,hqc⟩:∃ z,q*c=z:=⟨_,rfl⟩
   obtain ⟨qd,hqd⟩:∃ z,q*d=z:=⟨_,rfl⟩
   have iqc:(q:Int)*(c:Int)=(qc:Nat):=by rw [← hqc,Int.natCast_mul]
   have iqd:(q:Int)*(d:Int)=(qd:Nat):=by rw [← hqd,Int.natCast_mul]
   have QC:=Ba hqc
   have QD:=Ba hqd
   clear hqc hqd
   have kk:Bi wr (w.heap.size+1) [.int .u64 (a:Nat),.int .u64 (b:Nat),.int .u64 (c:Nat),.int .u64 (d:Nat)] 276:=k1
   clear k1
   generalize hA:(a:Int)=aI at *
   generalize hB:(b:Int)=bI at *
   generalize hC:(c:Int)=cI at *
   generalize hD:(d:Int)=dI at *
   generalize hP:(p:Int)=pI at *
   generalize hR:(r:Int)=rI at *
   generalize hQ:(q:Int)=qI at *
   generalize hT:(t:Int)=tI at *
   generalize hQC:(qc:Int)=qcI at *
   generalize hQD:(qd:Int)=qdI at *
   have HA:=Ba hA
   have HB:=Ba hB
   have HC:=Ba hC
   have HD':=Ba hD
   have HR:=Ba hR
   have HQ:=Ba hQ
   have HT:=Ba hT
   have HQC:=Ba hQC
   have HQD:=Ba hQD
   clear hA hB hC hD hP hR hQ hT hQC hQD
   by_cases hq1:(1073741824:Int)≤qI
   ·go_wp2
    go_region
    go_wp2
    exact Kq (p:=4) (by kernel_rfl) rfl rfl ((((k0.drew.set 0 _).set 1 _).set 2 _).set 3 _) ⟨a,b,c,d,p,r,by rw [HA.out,HB.out,HC.out,HD'.out],FE.out,B.out,D.out,(((b0.drew.setCell (by simp) _).setCell (by simp) _).setCell (by simp) _).setCell (by simp) _⟩
   ·have M1:qcI≤1152921502459363329:=by
     have m:q*c≤1073741823*1073741823:=Nat.mul_le_mul (by have:=HQ.out;omega) (by have:=C.out;omega)
     rw [QC.out] at m
     have:=HQC.out
     omega
    have M2:qdI≤1152921502459363329:=by
     have m:q*d≤1073741823*1073741823:=Nat.mul_le_mul (by have:=HQ.out;omega) (by have:=D.out;omega)
     rw [QD.out] at m
     have:=HQD.out
     omega
    have M3:0≤qcI:=by have:=HQC.out;omega
    have M4:0≤qdI:=by have:=HQD.out;omega
    have A1:aI<1073741824:=by have:=A.out;have:=HA.out;omega
    have A2:0≤aI:=by have:=HA.out;omega
    have B1:bI<1073741824:=by have:=B.out;have:=HB.out;omega
    have B2:0≤bI:=by have:=HB.out;omega
    have D1:dI<1073741824:=by have:=D.out;have:=HD'.out;omega
    have D2:0≤dI:=by have:=HD'.out;omega
    have T1:tI<rI:=by have:=T.out;have:=HT.out;have:=HR.out;omega
    have T2:0≤tI:=by have:=HT.out;omega
    have R1:rI≤18446744073709551615:=by have:=R.out;have:=P.out;have:=X.out;have:=HR.out;omega
    have g0:=kk.o 0
    have g1:=kk.o 1
    have g2:=kk.o 2
    have g3:=kk.o 3
    by_cases hd':1073741824≤bI+qdI
    ·-- a factor too great
     go_wp2
     go_region
     go_wp2
     go_region
     go_wp2
     exact Kq (p:=4) (by kernel_rfl) rfl rfl ((((k0.set 0 _).set 1 _).set 2 _).set 3 _).drew.drew ⟨a,b,c,d,p,r,by rw [HA.out,HB.out,HC.out,HD'.out],FE.out,B.out,D.out,((((b0.setCell (by simp) _).setCell (by simp) _).setCell (by simp) _).setCell (by simp) _).drew.drew⟩
    by_cases ht':tI<2*(bI+qdI)
    ·-- the rest is not sure
     go_wp2
     go_region
     go_wp2
     go_region
     go_wp2
     exact Kq (p:=4) (by kernel_rfl) rfl rfl ((((k0.set 0 _).set 1 _).set 2 _).set 3 _).drew.drew ⟨a,b,c,d,p,r,by rw [HA.out,HB.out,HC.out,HD'.out],FE.out,B.out,D.out,((((b0.setCell (by simp) _).setCell (by simp) _).setCell (by simp) _).setCell (by simp) _).drew.drew⟩
    by_cases hy':rI - tI<2*(dI+(bI+qdI))
    ·-- the quotient is not sure
     go_wp2
     go_region
     go_wp2
     go_region
     go_wp2
     exact Kq (p:=4) (by kernel_rfl) rfl rfl ((((k0.set 0 _).set 1 _).set 2 _).set 3 _).drew.drew ⟨a,b,c,d,p,r,by rw [HA.out,HB.out,HC.out,HD'.out],FE.out,B.out,D.out,((((b0.setCell (by simp) _).setCell (by simp) _).setCell (by simp) _).setCell (by simp) _).drew.drew⟩
    have FS:Hid (M.Few x y c d (a+q*c) (b+q*d) r t):=by
     have e1:=HB.out
     have e2:=HQD.out
     have e3:=HD'.out
     have e4:=HT.out
     have e5:=HR.out
     refine FE.out.step HYX.out HD.out T.out ?_ ?_
     ·rw [QD.out];omega
     ·rw [QD.out];omega
    have N1:Hid (a+q*c<1073741824):=by
     have e1:=HB.out
     have e2:=HQD.out
     show _<_
     have le:a+q*c≤b+q*d∨(a+q*c=1∧b=0):=by
      rcases FE.out with ⟨h1,h2,h3,h4,-⟩ | ⟨-,h2,h3,h4,-⟩
      ·right;rw [h1,h3];exact ⟨by simp,h2⟩
      ·left
       have:=Nat.mul_le_mul_left q h3
       omega
     rw [QD.out] at le
     omega
    have N2:Hid (b+q*d<1073741824):=by
     have e1:=HB.out
     have e2:=HQD.out
     show _<_
     rw [QD.out]
     omega
    go_wp2
    go_region
    go_wp2
    go_region
    go_wp2
    have ec:[Value.int .u64 cI,Value.int .u64 dI,Value.int .u64 (aI+qcI),Value.int .u64 (bI+qdI)]=[Value.int .u64 (c:Nat),Value.int .u64 (d:Nat),Value.int .u64 ((a+q*c:Nat):Int),Value.int .u64 ((b+q*d:Nat):Int)]:=by
     rw [QC.out,QD.out,Int.natCast_add,Int.natCast_add,HA.out,HB.out,HC.out,HD'.out,HQC.out,HQD.out]
    refine ⟨⟨c,d,a+q*c,b+q*d,r,t,by rw [HR.out],by rw [HT.out],FS.out,C.out,D.out,N1.out,N2.out,Jf R.out P.out,Nat.le_of_lt T.out,
     ((((k0.t (by omega) _ _).t (by omega) _ _).t (by omega) _ _).t (by omega) _ _).drew.drew,?_,((((b0.setCell (by simp) _).setCell (by simp) _).setCell (by simp) _).setCell (by simp) _).drew.drew⟩,by simp only [intOf];omega⟩
    rw [← ec]
    exact ((((kk.set 0 _).set 1 _).set 2 _).set 3 _).drew.drew
open Go.RowKit
theorem Bie (w:World) (x0 x1 y0 y1:Value):∃ w0,w0=((((w.alloc (.cells #[x0,x1] 24)).alloc (.cells #[y0,y1] 24)).alloc (.cells #[Iz false,.string { data:=#[] }] 24)).alloc (.cells #[Iz false,.string { data:=#[] }] 24)).alloc (.cells #[x0,x1,y0,y1] 24) ∧
  Bi w0 w.heap.size [x0,x1] 24∧Bi w0 (w.heap.size+1) [y0,y1] 24∧Bi w0 (w.heap.size+1+1) [Iz false,.string { data:=#[] }] 24∧Bi w0 (w.heap.size+1+1+1) [Iz false,.string { data:=#[] }] 24∧Bi w0 (w.heap.size+1+1+1+1) [x0,x1,y0,y1] 24∧Below w.heap.size w w0:=by
 refine ⟨_,rfl,((((Bi.new w [x0,x1] 24).alloc _).alloc _).alloc _).alloc _,?_,?_,?_,?_,by go_grown⟩
 ·have:=(((Bi.new (w.alloc (.cells #[x0,x1] 24)) [y0,y1] 24).alloc (.cells #[Iz false,.string { data:=#[] }] 24)).alloc (.cells #[Iz false,.string { data:=#[] }] 24)).alloc (.cells #[x0,x1,y0,y1] 24)
  simpa using this
 ·have:=((Bi.new ((w.alloc (.cells #[x0,x1] 24)).alloc (.cells #[y0,y1] 24)) [Iz false,.string { data:=#[] }] 24).alloc (.cells #[Iz false,.string { data:=#[] }] 24)).alloc (.cells #[x0,x1,y0,y1] 24)
  simpa using this
 ·have:=(Bi.new (((w.alloc (.cells #[x0,x1] 24)).alloc (.cells #[y0,y1] 24)).alloc (.cells #[Iz false,.string { data:=#[] }] 24)) [Iz false,.string { data:=#[] }] 24).alloc (.cells #[x0,x1,y0,y1] 24)
  simpa using this
 ·have:=Bi.new ((((w.alloc (.cells #[x0,x1] 24)).alloc (.cells #[y0,y1] 24)).alloc (.cells #[Iz false,.string { data:=#[] }] 24)).alloc (.cells #[Iz false,.string { data:=#[] }] 24)) [x0,x1,y0,y1] 24
  simpa using this
theorem Vs (X Y:Nat) (hY:0<Y):(-(X:Int)) / (Y:Int)=(if X % Y=0 then -((X / Y:Nat):Int) else -((X / Y+1:Nat):Int))∧(-(X:Int)) % (Y:Int)=(if X % Y=0 then 0 else ((Y - X % Y:Nat):Int)):=by
 have hd:=Nat.div_add_mod X Y
 have hl:=Nat.mod_lt X hY
 refine (Int.ediv_emod_unique (by omega)).2 ?_
 generalize X / Y=q at *
 generalize X % Y=r at *
 have e:(X:Int)=(Y:Int)*(q:Int)+(r:Int):=by rw [← hd];simp
 by_cases h:r=0
 ·subst h
  simp only [if_true]
  refine ⟨?_,by omega,by omega⟩
  rw [e,Int.mul_neg];simp
 ·rw [if_neg h,if_neg h]
  refine ⟨?_,by omega,by omega⟩
  rw [e,Int.natCast_add,Int.mul_neg,Int.mul_add]
  have:((Y - r:Nat):Int)=(Y:Int) - (r:Int):=by omega
  rw [this]
  simp
  omega
theorem W0 (a b:Bool) (X Y:Nat) (hY:0<Y):Fk a X / Fk b Y=Fk (a != b) (if a=true∧X % Y≠0 then X / Y+1 else X / Y)∧Fk a X % Fk b Y=Fk false (if a=true∧X % Y≠0 then Y - X % Y else X % Y):=by
 have h:=Vs X Y hY
 cases a <;> cases b
 ·simp [Fk]
 ·simp [Fk,Int.ediv_neg]
 ·rw [show Fk true X=-(X:Int) from rfl,show Fk false Y=(Y:Int) from rfl,h.1,h.2]
  by_cases h0:X % Y=0
  ·simp [Fk,h0]
  ·simp [Fk,h0]
 ·rw [show Fk true X=-(X:Int) from rfl,show Fk true Y=-(Y:Int) from rfl,Int.ediv_neg,Int.emod_neg,h.1,h.2]
  by_cases h0:X % Y=0
  ·simp [Fk,h0]
  ·simp [Fk,h0]
open Go.RowKit
theorem Xx (a b c d:Nat) (w:World) :
  Calls Tryz.prog 205 #[Wz a b c d] w (Re w (Iz (decide (b=0)))):=by
 unfold Wz
 have HB:Hid ((((b:Nat):Int) == 0)=decide (b=0)):=by show _=_;rw [Bool.eq_iff_iff];simp
 go_enter Tryz.func205,Tryz.ntmps205
 go_wp2
 go_ret
 exact ⟨by show Ending.returned (Iz ((b:Int) == 0))=_;rw [HB.out],by go_grown⟩
theorem Hs {a b:Nat} (ha:a<1073741824) (hb:b<1073741824):a*b≤1152921502459363329:=Jf (Nat.mul_le_mul (show a≤1073741823 by omega) (show b≤1073741823 by omega)) (by decide)
theorem Be7 (a b c d a' b' c' d':Nat) (w:World) (ha:a<1073741824) (hb:b<1073741824) (hc:c<1073741824) (hd:d<1073741824) (ha':a'<1073741824) (hb':b'<1073741824) (hc':c'<1073741824) (hd':d'<1073741824) :
  Calls Tryz.prog 236 #[Wz a b c d,Wz a' b' c' d'] w (Re w (Wz (a*a'+b*c') (a*b'+b*d') (c*a'+d*c') (c*b'+d*d'))):=by
 unfold Wz
 have p1:=Hs ha ha'
 have p2:=Hs hb hc'
 have p3:=Hs ha hb'
 have p4:=Hs hb hd'
 have p5:=Hs hc ha'
 have p6:=Hs hd hc'
 have p7:=Hs hc hb'
 have p8:=Hs hd hd'
 simp only [Int.natCast_add,Int.natCast_mul]
 have q:∀ x y:Nat,x*y≤1152921502459363329→(x:Int)*(y:Int)≤1152921502459363329∧0≤(x:Int)*(y:Int):=fun x y h=>by rw [← Int.natCast_mul];omega
 replace p1:=q _ _ p1
 replace p2:=q _ _ p2
 replace p3:=q _ _ p3
 replace p4:=q _ _ p4
 replace p5:=q _ _ p5
 replace p6:=q _ _ p6
 replace p7:=q _ _ p7
 replace p8:=q _ _ p8
 clear q ha hb hc hd ha' hb' hc' hd'
 generalize (a:Int)=A at *
 generalize (b:Int)=B at *
 generalize (c:Int)=C at *
 generalize (d:Int)=D at *
 generalize (a':Int)=A' at *
 generalize (b':Int)=B' at *
 generalize (c':Int)=C' at *
 generalize (d':Int)=D' at *
 generalize h1:A*A'=m1 at *
 generalize h2:B*C'=m2 at *
 generalize h3:A*B'=m3 at *
 generalize h4:B*D'=m4 at *
 generalize h5:C*A'=m5 at *
 generalize h6:D*C'=m6 at *
 generalize h7:C*B'=m7 at *
 generalize h8:D*D'=m8 at *
 obtain ⟨p1,r1⟩:=p1
 obtain ⟨p2,r2⟩:=p2
 obtain ⟨p3,r3⟩:=p3
 obtain ⟨p4,r4⟩:=p4
 obtain ⟨p5,r5⟩:=p5
 obtain ⟨p6,r6⟩:=p6
 obtain ⟨p7,r7⟩:=p7
 obtain ⟨p8,r8⟩:=p8
 go_enter Tryz.func236,Tryz.ntmps236
 go_wp2
 refine Kq (p:=4) (g:=w.heap.size+1+1) (by kernel_rfl) rfl rfl (x:=.int .u64 (m1+m2)) (y:=.int .u64 (m3+m4)) (z:=.int .u64 (m5+m6)) (u:=.int .u64 (m7+m8)) ?_ ⟨rfl,by go_grown⟩
 have:=Bi.new ((w.alloc (.cells #[.int .u64 A,.int .u64 B,.int .u64 C,.int .u64 D] 276)).alloc (.cells #[.int .u64 A',.int .u64 B',.int .u64 C',.int .u64 D'] 276)) [.int .u64 (m1+m2),.int .u64 (m3+m4),.int .u64 (m5+m6),.int .u64 (m7+m8)] 276
 simpa using this
open Go.RowKit
theorem Ww {b k x:Nat} (hb:2≤b) (h:x<b ^ k):x+1<b ^ (k+1):=by
 rw [Nat.pow_succ]
 have h1:b ^ k*2≤b ^ k*b:=Nat.mul_le_mul_left _ hb
 generalize b ^ k=p at *
 omega
theorem digs_pos {b n:Nat} (hb:2≤b) (h:n≠0):0<(M.digs b n).length:=by
 refine Nat.pos_of_ne_zero fun h0=>?_
 have:=M.val_digs hb n
 rw [List.length_eq_zero_iff.1 h0,M.val_nil] at this
 omega
theorem digs_zero {b n:Nat} (h:n=0):(M.digs b n).length=0:=by subst h;rfl
theorem Sf {X Y K:Nat} (hY:0<Y) (hK:K≤4000) (hx:X<Bb ^ K) (hy:Y<Bb ^ K) (v0 v1:Value) (wx:World) (r0:Rd wx v0 (M.digs Bb X)) (r1:Rd wx v1 (M.digs Bb Y)) :
  Calls Tryz.prog 173 #[v0,v1] wx fun e w'=>∃ q r,e=.returned (.tuple #[q,r,.int .i64 0])∧Rd w' q (M.digs Bb (X / Y))∧Rd w' r (M.digs Bb (X % Y))∧Below wx.heap.size wx w':=by
 have:=G0 v0 v1 _ _ wx r0 r1 (M.Low.digs Be _) (M.Low.digs Be _) (Jf (M.digs_len_of_lt Be hx) hK) (Jf (M.digs_len_of_lt Be hy) hK)
 rw [M.val_digs Be,M.val_digs Be] at this
 refine this.mono ?_
 rintro e w' ⟨-,h,hb⟩
 obtain ⟨q,r,rfl,hq,hr⟩:=h hY
 exact ⟨q,r,rfl,hq,hr,hb⟩
theorem Hy (neg:Bool) {V K:Nat} (hK:K≤4000) (hV:V<Bb ^ K) (v:Value) (wx:World) (hr:Rd wx v (M.digs Bb V)) :
  Calls Tryz.prog 170 #[.agg #[Iz neg,v]] wx (Re wx (zI (Fk neg V))):=by
 have:=Bfo neg v _ wx hr (M.Low.digs Be _) (Jf (M.digs_len_of_lt Be hV) hK)
 rwa [M.val_digs Be] at this
open Go.RowKit Go.Shelf
def dt (n:Nat):List Nat:=((M.digs 10 n).map (48 + ·)).reverse
theorem Sc {n:Nat} (h:0<n):dt n=dt (n / 10) ++ [48+n % 10]:=by
 unfold dt
 rw [M.digs_pos (by omega) h,List.map_cons,List.reverse_cons]
theorem Bni {n k:Nat} (h:n<256 ^ k):(dt n).length≤3*k:=by
 unfold dt
 rw [List.length_reverse,List.length_map]
 refine M.digs_len_of_lt (by omega) (Jl h ?_)
 rw [Nat.pow_mul]
 exact Nat.pow_le_pow_left (by decide) k
theorem Md (s:ByteArray) (k:Nat) (h:s.size≤k):(dt (Bc s)).length≤3*k:=Bni (Jl (Gd s) (Nat.pow_le_pow_right (by omega) h))
theorem Cl (l:List Nat):(Cs l).size=l.length:=by simp [Cs,ByteArray.size]
theorem Fu (x:Nat) (l:List Nat):Cs (x :: l)=Cs [x] ++ Cs l:=by
 apply ByteArray.ext
 simp [Cs,ByteArray.data_append]
theorem U4 {l:List Nat} (h:l≠[]):(Cs l).toList.isEmpty=false:=by
 cases l with
 | nil=>exact absurd rfl h
 | cons x l=>rw [ByteArray.toList_eq];rfl
open Go.RowKit
theorem Bif (w:World) (m:Nat):∃ w0,w0=(w.alloc (.cells #[Iz false,.string { data:=#[] }] 24)).alloc (.cells #[.int .u64 (m:Nat)] 170) ∧
  Bi w0 w.heap.size [Iz false,.string { data:=#[] }] 24∧Rd w0 (.slice (some ⟨w.heap.size+1,0,none⟩) 1 1) [m]∧Below w.heap.size w w0:=by
 refine ⟨_,rfl,(Bi.new w _ 24).alloc _,Yt _ (by simp) m,by go_grown⟩
open Go.RowKit
theorem Ug (neg:Bool) (va:Value) (xs:List Nat) (w:World) (ha:Rd w va xs) (la:M.Low Bp xs) (hx:xs.length≤100000) :
  Calls Tryz.prog 115 #[Iz neg,va] w (Re w (zI (Fk neg (M.val Bp xs)))):=by
 rw [Bfa]
 have H:=Ba (fun w0 h0=>W7 va xs w0 h0 la hx)
 have HE:=Ba (Pn (M.val Bp xs))
 generalize Bw (M.val Bp xs)=s at *
 have ha0:=ha
 obtain ⟨a,ca,rfl,-,-⟩:=ha
 go_enter Tryz.func115,Tryz.ntmps115
 go_wp2_with fail
 obtain ⟨w0,hw0⟩:∃ w0,w0=w.alloc (.cells #[Iz false,.string { data:=#[] }] 24):=⟨_,rfl⟩
 have k2:Bi w0 w.heap.size [Iz false,.string { data:=#[] }] 24:=by rw [hw0];exact Bi.new w _ _
 have hb0:Below w.heap.size w w0:=by rw [hw0];exact (Jg _ _).alloc (Jb _) _
 rw [← hw0]
 clear hw0
 refine (H.out w0 (ha0.b hb0)).mono ?_
 rintro e w1 ⟨rfl,hb⟩
 have k2':=k2.b hb
 have bb:=Ia hb0 hb
 obtain ⟨c1,c2⟩:=Dc k2'
 have f1:=k2'.o 0
 have f2:=k2'.o 1
 clear H HE
 cases neg
 ·go_wp2
  exact Ei (p:=4) (by kernel_rfl) rfl rfl ((k2'.set 0 _).set 1 _) ⟨rfl,(bb.setCell (by simp) _).setCell (by simp) _⟩
 ·go_wp2
  exact Ei (p:=4) (by kernel_rfl) rfl rfl ((k2'.set 0 _).set 1 _) ⟨rfl,(bb.setCell (by simp) _).setCell (by simp) _⟩
theorem Bdf {m:Nat} (hm:m<Bb) (v:Value) (w:World) (h:Rd w v [m]) :
  Calls Tryz.prog 116 #[v] w fun e w'=>∃ v,e=.returned v∧Rd w' v (M.digs Bp m)∧Below w.heap.size w w':=by
 have:=Bdg v [m] w h (Ez (by simpa using hm)) (by simp)
 rwa [show M.val Bb [m]=m from by simp [M.val_cons,M.val_nil]] at this
theorem Uf (neg:Bool) (m:Nat) (hm:m<Bb) (v:Value) (w:World) (h:Rd w v (M.digs Bp m)) :
  Calls Tryz.prog 115 #[Iz neg,v] w (Re w (zI (Fk neg m))):=by
 have hl:(M.digs Bp m).length≤2:=M.digs_len_of_lt Bl (by rw [show Bp ^ 2=Bb from by rw [Nat.pow_two,Bbb]];exact hm)
 have:=Ug neg v _ w h (M.Low.digs Bl _) (by omega)
 rwa [M.val_digs Bl] at this
theorem U7 (n:Int) (h1:-9223372036854775808≤n) (h2:n<9223372036854775808) (w:World) :
  Calls Tryz.prog 58 #[.int .i64 n] w (Re w (zI n)):=by
 obtain ⟨m,hm⟩:∃ m:Nat,m=n.natAbs:=⟨_,rfl⟩
 have hmB:m<Bb:=by unfold Bb;omega
 have HS:=Ba (fun v w h=>Bdf hmB v w h)
 by_cases hn:n<0
 ·have HM:=Ba (fun v w h=>Uf true m hmB v w h)
  rw [show Fk true m=n from by simp [Fk];omega] at HM
  generalize hR:zI n=R at *
  obtain ⟨za,zb,rfl⟩:∃ a b,R=.agg #[Iz a,I b]:=⟨_,_,hR.symm⟩
  clear hR hmB
  have g1:IntKind.i64.wrap (n+1)=n+1:=by simp only [IntKind.wrap_i64];omega
  have g2:IntKind.i64.wrap (-(n+1))=-(n+1):=by simp only [IntKind.wrap_i64];omega
  have g3:IntKind.u64.wrap (-(n+1))=-(n+1):=by simp only [IntKind.wrap_u64];omega
  have g4:IntKind.u64.wrap (-(n+1)+1)=(m:Int):=by simp only [IntKind.wrap_u64];omega
  clear hm
  go_enter Tryz.func58,Tryz.ntmps58
  go_wp2_with fail
  obtain ⟨w0,hw0,k0,r0,hb0⟩:=Bif w m
  rw [← hw0]
  clear hw0
  refine (HS.out _ w0 r0).mono ?_
  rintro e w1 ⟨v,rfl,rv,hb1⟩
  obtain ⟨av,cv,rfl,-,-⟩:=id rv
  go_wp2_with fail
  refine (HM.out _ w1 rv).mono ?_
  rintro e w2 ⟨rfl,hb2⟩
  have bb2:=Ia hb1 hb2
  have m2:=k0.b bb2
  have bb:=Ia hb0 bb2
  obtain ⟨e0,e1⟩:=Dc m2
  have f0:=m2.o 0
  have f1:=m2.o 1
  go_wp2
  exact Ei (p:=2) (by kernel_rfl) rfl rfl ((m2.set 0 _).set 1 _) ⟨rfl,(bb.setCell (by simp) _).setCell (by simp) _⟩
 ·have g0:n=(m:Int):=by omega
  have HM:=Ba (fun v w h=>Uf false m hmB v w h)
  rw [show Fk false m=n from by simp [Fk];omega] at HM
  generalize hR:zI n=R at *
  obtain ⟨za,zb,rfl⟩:∃ a b,R=.agg #[Iz a,I b]:=⟨_,_,hR.symm⟩
  clear hR hmB hm
  subst g0
  have g1:IntKind.u64.wrap (m:Int)=(m:Int):=by simp only [IntKind.wrap_u64];omega
  go_enter Tryz.func58,Tryz.ntmps58
  go_wp2_with fail
  obtain ⟨w0,hw0,k0,r0,hb0⟩:=Bif w m
  rw [← hw0]
  clear hw0
  refine (HS.out _ w0 r0).mono ?_
  rintro e w1 ⟨v,rfl,rv,hb1⟩
  obtain ⟨av,cv,rfl,-,-⟩:=id rv
  go_wp2_with fail
  refine (HM.out _ w1 rv).mono ?_
  rintro e w2 ⟨rfl,hb2⟩
  have bb2:=Ia hb1 hb2
  have m2:=k0.b bb2
  have bb:=Ia hb0 bb2
  obtain ⟨e0,e1⟩:=Dc m2
  have f0:=m2.o 0
  have f1:=m2.o 1
  go_wp2
  exact Ei (p:=2) (by kernel_rfl) rfl rfl ((m2.set 0 _).set 1 _) ⟨rfl,(bb.setCell (by simp) _).setCell (by simp) _⟩
open Go.RowKit
def Blr (xs zs:List Nat) (k r:Nat):Prop:=zs.length=xs.length - k∧M.Low Bp zs∧r≤1∧2*M.val Bp zs+r=M.val Bp (xs.drop k)
theorem Blr.step {xs zs:List Nat} {k r:Nat} (lx:M.Low Bp xs) (hk:k+1≤xs.length) (h:Blr xs zs (k+1) r):Blr xs ((Bp*r+lm xs k) / 2 :: zs) k ((Bp*r+lm xs k) % 2):=by
 obtain ⟨h1,h2,h3,h4⟩:=h
 have b1:lm xs k<Bp:=Ci Ca lx k
 refine ⟨by simp;omega,?_,by omega,?_⟩
 ·intro x hx
  rcases List.mem_cons.1 hx with rfl | hx
  ·unfold Bp at *;omega
  ·exact h2 x hx
 ·rw [Eo xs k (by omega),M.val_cons,M.val_cons,← h4]
  have e:=Nat.div_add_mod (Bp*r+lm xs k) 2
  rw [Nat.mul_add Bp]
  have e2:Bp*(2*M.val Bp zs)=2*(Bp*M.val Bp zs):=Nat.mul_left_comm _ _ _
  omega
theorem Bdr (va:Value) (xs:List Nat) (w:World) (ha:Rd w va xs) (la:M.Low Bp xs) (hx:xs.length≤100000) :
  Calls Tryz.prog 193 #[va] w fun e w'=>∃ v,e=.returned (.tuple #[v,Iz (decide (M.val Bp xs % 2=1))])∧Rd w' v (M.digs Bp (M.val Bp xs / 2))∧Below w.heap.size w w':=by
 have ha0:=ha
 obtain ⟨a,ca,rfl,hca,-⟩:=ha
 obtain ⟨n,hn⟩:∃ n,n=xs.length:=⟨_,rfl⟩
 rw [← hn] at ha0 hca hx ⊢
 have HN:=Ba hn
 clear hn
 go_enter Tryz.func193,Tryz.ntmps193
 go_wp2_with (at_make;refine Cn rfl _ _ rfl _ n rfl rfl (by omega) (by omega) ?_;intro w2 hblk hbel)
 go_loopw [5,6] (fun r i wr=>∃ (k rr:Nat) (zs:List Nat),k≤n∧i=.int .i64 ((k:Int) - 1)∧r=.int .u64 rr∧Blr xs zs k rr∧Cm wr w.heap.size (List.replicate k 0 ++ zs)∧Below w.heap.size w wr) (fun _ i _=>(intOf i+1).toNat)
 case atStart=>exact ⟨n,0,[],Jb _,rfl,rfl,⟨by rw [HN.out];simp,M.Low.nil _,by omega,by rw [HN.out];simp [M.val]⟩,by simpa using hblk,hbel⟩
 case round =>
  obtain ⟨k,rr,zs,hk,rfl,rfl,hat,hblk',hbel'⟩:=hrel
  match k with
  | 0 =>
   obtain ⟨h1,h2,h3,h4⟩:=hat
   rw [List.drop_zero] at h4
   rw [List.replicate_zero,List.nil_append] at hblk'
   have hzl:zs.length=n:=by rw [h1,HN.out];omega
   have hrd:Rd wr (.slice (some ⟨w.heap.size,0,none⟩) n n) zs:=by
    have:=hblk'.rd0 n (by omega)
    rwa [hzl] at this
   have e1:M.val Bp zs=M.val Bp xs / 2:=by omega
   have e2:((rr:Int) == 1)=decide (M.val Bp xs % 2=1):=by
    rw [Bool.eq_iff_iff]
    simp
    omega
   have E1:=Ba e1
   have E2:=Ba e2
   have hlen:zs.length≤1000000:=by omega
   clear h4 e1 e2 h1 h3 hzl
   go_wp2_with fail
   refine (Fj Bp Bl _ _ zs hrd h2 hlen).mono ?_
   rintro e w' ⟨v',rfl,hv',rfl⟩
   go_wp2
   go_ret2
   exact ⟨_,by rw [← E2.out];rfl,by rw [← E1.out];exact hv',hbel'⟩
  | k+1 =>
   have HST:=Ba (hat.step la (by rw [← HN.out];exact hk))
   have b1:lm xs k<4294967296:=Ci Ca la k
   have hr1:rr≤1:=hat.2.2.1
   have hzl:zs.length=n - (k+1):=by rw [hat.1,HN.out]
   obtain ⟨b1',o1,rfl,q1⟩:=ha0.at hbel' (j:=k) (by rw [← HN.out];omega)
   have hc1:=hblk'.cell (j:=k) (by simp;omega)
   have hf1:=hblk'.o k
   have hset:∀ y,Cm (wr.setCell ⟨w.heap.size,k,none⟩ (.int .u64 (y:Nat))) w.heap.size (List.replicate k 0 ++ y :: zs):=fun y=>by
    have h:=hblk'.set k y
    have e:(List.replicate (k+1) 0 ++ zs).set k y=List.replicate k 0 ++ y :: zs:=by
     rw [List.replicate_succ',List.append_assoc,List.set_append_right _ _ (by simp)]
     simp
    rwa [e] at h
   have HS:=Ba (hset ((Bp*rr+lm xs k) / 2))
   have ik:(k:Int)<n:=by omega
   clear hset hat hzl
   go_wp2
   have e1:((rr:Int)*4294967296+(lm xs k:Int)) % 2=(((Bp*rr+lm xs k) % 2:Nat):Int):=by unfold Bp;omega
   have e2:((rr:Int)*4294967296+(lm xs k:Int)) / 2=(((Bp*rr+lm xs k) / 2:Nat):Int):=by unfold Bp;omega
   rw [e1,e2]
   exact ⟨⟨k,_,_,by omega,rfl,rfl,HST.out,HS.out,hbel'.setCell (Jb _) _⟩,by simp only [intOf];omega⟩
open Go.RowKit Go.Shelf
theorem Bjg (w:World):(Instr.makeSlice 229 (.int .i64 1) (.int .i64 1)).run Tryz.prog w=.ok (.slice (some ⟨w.heap.size,0,none⟩) 1 1) (w.alloc (.cells #[Iz false,.slice none 0 0] 228)):=by
 obtain ⟨i0,hi,hz0,hz1,hz2⟩:=info_parts (show (Tryz.prog.info? 228).map (fun i=>(i.zero,i.size,i.bytes))=some (some (.agg #[Iz false,.slice none 0 0]),2,32) by kernel_rfl)
 have h:=run_make (P:=Tryz.prog) w 229 228 i0 (.agg #[Iz false,.slice none 0 0]) Tryz.underlying229 hi hz0 .i64 .i64 1 1 (by omega) (by omega) (by rw [hz2];omega) (by omega)
 rw [h,hz1]
 have e:madeCells (Value.cells (.agg #[Iz false,.slice none 0 0])) (Int.toNat 1*2)=#[Iz false,.slice none 0 0]:=by
  have:Value.cells (.agg #[Iz false,.slice none 0 0])=#[Iz false,.slice none 0 0]:=by kernel_rfl
  rw [this]
  unfold madeCells
  apply Array.toList_inj.1
  rw [Array.toList_map,Array.toList_range]
  rfl
 rw [e]
 rfl
theorem Rw (n0:Bool) (a:Option Addr) (l c:Nat):∀ (j:Nat) (k:IntKind) (n:Int),[Value.bool n0,.slice a l c][j]?≠some (.int k n):=by
 intro j k n
 match j with
 | 0=>simp
 | 1=>simp
 | j+2=>simp
theorem Xd (B:Nat) (n0:Bool) (s0:ByteArray) (w:World) (hB:Bi w B [Iz n0,I s0] 24) (o0:Hc n0 s0) (z0:s0.size≤32000) :
  Calls Tryz.prog 171 #[.slice (some ⟨B,0,none⟩) 1 1] w fun e w'=>∃ g v0,e=.returned (.tuple #[.slice (some ⟨g,0,none⟩) 1 1,.int .i64 0])∧Bi w' g [Iz n0,v0] 228∧Gj w' v0 (M.digs Bb (Bc s0)) g∧w.heap.size≤g∧Below w.heap.size w w':=by
 have hmk:=Bjg w
 have Z0:=Ba ((G8 z0).2 o0)
 have H0:=Ba o0.1
 clear o0
 go_enter Tryz.func171,Tryz.ntmps171
 go_wp2
 go_loopw [15] (fun i wr=>Below w.heap.size w wr∧((i=.int .i64 0∧Bi wr w.heap.size [Iz false,.slice none 0 0] 228) ∨
   (i=.int .i64 1∧∃ v0,Bi wr w.heap.size [Iz n0,v0] 228∧Gj wr v0 (M.digs Bb (Bc s0)) w.heap.size))) (fun i _=>1 - (intOf i).toNat)
 case atStart=>exact ⟨(Jg _ _).alloc (Jb _) _,Or.inl ⟨rfl,Bi.new w [Iz false,.slice none 0 0] _⟩⟩
 case round =>
  obtain ⟨hbel,hc⟩:=hrel
  have kB:=hB.b hbel
  obtain ⟨b0,b1⟩:=Dc kB
  clear kB
  rcases hc with ⟨rfl,hc⟩ | ⟨rfl,v0,hc,r0⟩
  ·go_wp2_with fail
   obtain ⟨w1,hw1⟩:∃ w1,w1=wr.alloc (.cells #[Iz n0,I s0] 24):=⟨_,rfl⟩
   have hb1:Below wr.heap.size wr w1:=by rw [hw1];exact (Jg _ _).alloc (Jb _) _
   have k1:Bi w1 wr.heap.size [Iz n0,I s0] 24:=by rw [hw1];exact Bi.new wr _ _
   rw [← hw1]
   clear hw1 b0 b1
   refine (Ep n0 s0 w1).mono ?_
   rintro e w2 ⟨rfl,hb2⟩
   rw [Z0.out]
   have k2:=k1.b hb2
   obtain ⟨d0,d1⟩:=Dc k2
   go_wp2_with fail
   refine (Baj s0 w2 z0 H0.out).mono ?_
   rintro e w3 ⟨v,rfl,rv,hb3⟩
   obtain ⟨av,cv,rfl,-,-⟩:=id rv
   have k3':=k2.b hb3
   have d0:=C7 k3'
   have k3:=((hc.b hb1).b hb2).b hb3
   have bb3:=Ia (Ia (Ia hbel hb1) hb2) hb3
   obtain ⟨e0,e1⟩:=Dc k3
   have f0:=k3.o 0
   have f1:=k3.o 1
   have rx:=Gw rv k3 (Rw _ _ _ _)
   have HRX:=Ba ((rx.setX 0 (Iz n0)).setX 1 (.slice av (M.digs Bb (Bc s0)).length cv))
   clear rx
   go_wp2
   exact ⟨⟨(bb3.setCell (Jb _) _).setCell (Jb _) _,Or.inr ⟨by go_num,_,(k3.set 0 _).set 1 _,HRX.out⟩⟩,by simp [intOf]⟩
  ·go_wp2
   go_ret2
   exact ⟨_,v0,rfl,hc,r0,Jb _,hbel⟩
def Bfn:Nat:=10000000000000000000
def Nl:Value→Nat
 | .slice _ n _=>n
 | _=>0
open Go.RowKit
theorem Rr (n:Bool) (s:ByteArray) (w:World) :
  Calls Tryz.prog 181 #[.agg #[Iz n,I s]] w (Re w (.int .i64 (Oi n s:Nat))):=by
 by_cases h1:32000<s.size
 ·have HC:Hid (Oi n s=5):=by show _=_;unfold Oi;rw [if_pos h1]
  go_enter Tryz.func181,Tryz.ntmps181
  go_wp2
  go_ret
  exact ⟨by rw [HC.out];rfl,by go_grown⟩
 ·by_cases hs:0<s.size
  ·have g4:=Dv hs
   have g5:s.toList.isEmpty=false:=by simpa using g4
   by_cases h0:lm (Bj s) 0=0
   ·have HC:Hid (Oi n s=1):=by show _=_;unfold Oi;rw [if_neg h1,if_pos (Or.inr ⟨hs,h0⟩)]
    have HI:=Ba (fun w=>Ya s w hs h0)
    clear h0
    go_enter Tryz.func181,Tryz.ntmps181
    go_wp2_with fail
    refine (HI.out _).mono ?_
    rintro e w1 ⟨rfl,hw⟩
    subst hw
    go_wp2
    go_ret
    exact ⟨by rw [HC.out];rfl,by go_grown⟩
   ·have HC:Hid (Oi n s=0):=by
     show _=_
     unfold Oi
     rw [if_neg h1,if_neg (by rintro (⟨a,_⟩ | ⟨_,b⟩);· omega
                              ·exact h0 b)]
    have HI:=Ba (fun w=>Mc s w (fun _=>h0))
    clear h0
    cases n <;>
    ·go_enter Tryz.func181,Tryz.ntmps181
     go_wp2_with fail
     refine (HI.out _).mono ?_
     rintro e w1 ⟨rfl,hw⟩
     subst hw
     go_wp2
     go_ret
     exact ⟨by rw [HC.out];rfl,by go_grown⟩
  ·have g3:s=ByteArray.empty:=ByteArray.size_eq_zero_iff.1 (by omega)
   subst g3
   have HI:=Ba (fun w=>Mc ByteArray.empty w (fun h=>absurd h hs))
   cases n with
   | true =>
    have HC:Hid (Oi true ByteArray.empty=1):=by show _=_;rfl
    go_enter Tryz.func181,Tryz.ntmps181
    go_wp2_with fail
    refine (HI.out _).mono ?_
    rintro e w1 ⟨rfl,hw⟩
    subst hw
    go_wp2
    go_ret
    exact ⟨by rw [HC.out];rfl,by go_grown⟩
   | false =>
    have HC:Hid (Oi false ByteArray.empty=0):=by show _=_;rfl
    go_enter Tryz.func181,Tryz.ntmps181
    go_wp2_with fail
    refine (HI.out _).mono ?_
    rintro e w1 ⟨rfl,hw⟩
    subst hw
    go_wp2
    go_ret
    exact ⟨by rw [HC.out];rfl,by go_grown⟩
theorem rb2 (w:World) (x0 x1 y0 y1:Value):∃ w0,w0=(w.alloc (.cells #[x0,x1] 24)).alloc (.cells #[y0,y1] 24) ∧
  Bi w0 w.heap.size [x0,x1] 24∧Bi w0 (w.heap.size+1) [y0,y1] 24∧Below w.heap.size w w0:=by
 refine ⟨_,rfl,(Bi.new w [x0,x1] _).alloc _,?_,by go_grown⟩
 have:=Bi.new (w.alloc (.cells #[x0,x1] 24)) [y0,y1] 24
 simpa using this
theorem rb3 (w:World) (x0 x1 y0 y1:Value):∃ w0,w0=((w.alloc (.cells #[x0,x1] 24)).alloc (.cells #[y0,y1] 24)).alloc (.cells #[Iz false,.string { data:=#[] }] 24) ∧
  Bi w0 w.heap.size [x0,x1] 24∧Bi w0 (w.heap.size+1) [y0,y1] 24∧Bi w0 (w.heap.size+1+1) [Iz false,.string { data:=#[] }] 24∧Below w.heap.size w w0:=by
 refine ⟨_,rfl,((Bi.new w [x0,x1] _).alloc _).alloc _,?_,?_,by go_grown⟩
 ·have:=(Bi.new (w.alloc (.cells #[x0,x1] 24)) [y0,y1] 24).alloc (.cells #[Iz false,.string { data:=#[] }] 24)
  simpa using this
 ·have:=Bi.new ((w.alloc (.cells #[x0,x1] 24)).alloc (.cells #[y0,y1] 24)) [Iz false,.string { data:=#[] }] 24
  simpa using this
theorem Blt (k:Nat):Bp ^ k=256 ^ (4*k):=by rw [Nat.pow_mul];rfl
theorem Fc {s:ByteArray} (k:Nat) (h:s.size≤4*k):Bc s<Bp ^ k:=Jl (Gd s) (by rw [Blt];exact Nat.pow_le_pow_right (by omega) h)
theorem Te {V K:Nat} (h:V<Bp ^ K):(M.digs Bp V).length≤K:=M.digs_len_of_lt Bl h
theorem Boe {X Y K:Nat} (hK:K≤50000) (hx:X<Bp ^ K) (hy:Y<Bp ^ K) (v0 v1:Value) (w:World) (r0:Rd w v0 (M.digs Bp X)) (r1:Rd w v1 (M.digs Bp Y)) :
  Calls Tryz.prog 141 #[v0,v1] w fun e w'=>∃ v,e=.returned v∧Rd w' v (M.digs Bp (X+Y))∧Below w.heap.size w w':=by
 have:=Xj v0 v1 _ _ w r0 r1 (M.Low.digs Bl _) (M.Low.digs Bl _) (Jf (Te hx) (by omega)) (Jf (Te hy) (by omega))
 rwa [M.val_digs Bl,M.val_digs Bl] at this
theorem Ke {b X Y:Nat} (hb:2≤b) (h:Y≤X):(M.digs b Y).length≤(M.digs b X).length:=by
 refine M.digs_len_of_lt hb (Nat.lt_of_le_of_lt h ?_)
 have:=M.val_lt (by omega) (M.Low.digs hb X)
 rwa [M.val_digs hb] at this
theorem Nm {X Y K:Nat} (hK:K≤50000) (hx:X<Bp ^ K) (hle:Y≤X) (v0 v1:Value) (w:World) (r0:Rd w v0 (M.digs Bp X)) (r1:Rd w v1 (M.digs Bp Y)) :
  Calls Tryz.prog 143 #[v0,v1] w fun e w'=>∃ v,e=.returned v∧Rd w' v (M.digs Bp (X - Y))∧Below w.heap.size w w':=by
 have:=Bf0 v0 v1 _ _ w r0 r1 (M.Low.digs Bl _) (M.Low.digs Bl _) (Jf (Te hx) (by omega)) (Ke Bl hle) (by rw [M.val_digs Bl,M.val_digs Bl];exact hle)
 rwa [M.val_digs Bl,M.val_digs Bl] at this
theorem Xh {X Y K:Nat} (hK:K≤50000) (hx:X<Bp ^ K) (v0 v1:Value) (w:World) (r0:Rd w v0 (M.digs Bp X)) (r1:Rd w v1 (M.digs Bp Y)) :
  Calls Tryz.prog 142 #[v0,v1] w (Re w (.int .i64 (Er X Y))):=by
 have:=Xi Bp Ca v0 v1 _ _ w r0 r1 (M.Low.digs Bl _) (M.Low.digs Bl _) (M.trim_digs Bl _) (M.trim_digs Bl _) (Jf (Te hx) (by omega))
 rwa [M.val_digs Bl,M.val_digs Bl] at this
theorem Xe {X Y K:Nat} (hK:K≤50000) (hx:X<Bp ^ K) (hy:Y<Bp ^ K) (h0:0<Y) (v0 v1:Value) (w:World) (r0:Rd w v0 (M.digs Bp X)) (r1:Rd w v1 (M.digs Bp Y)) :
  Calls Tryz.prog 112 #[v0,v1] w fun e w'=>∃ q r,e=.returned (.tuple #[q,r])∧Rd w' q (M.digs Bp (X / Y))∧Rd w' r (M.digs Bp (X % Y))∧Below w.heap.size w w':=by
 have:=Bgf v0 v1 _ _ w r0 r1 (M.Low.digs Bl _) (M.Low.digs Bl _) (M.trim_digs Bl _) (digs_pos Bl (by omega)) (Jf (Te hx) (by omega)) (Jf (Te hy) (by omega))
 rwa [M.val_digs Bl,M.val_digs Bl] at this
theorem O8 (neg:Bool) {V K:Nat} (hK:K≤100000) (hV:V<Bp ^ K) (v:Value) (w:World) (h:Rd w v (M.digs Bp V)) :
  Calls Tryz.prog 115 #[Iz neg,v] w (Re w (zI (Fk neg V))):=by
 have:=Ug neg v _ w h (M.Low.digs Bl _) (Jf (Te hV) hK)
 rwa [M.val_digs Bl] at this
end Go.Proofs.YtnplifkgeeicjaaGreatDoor
