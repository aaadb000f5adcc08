import Derived.Lib.Mul64
import Derived.Test.YtnplifkgeeicjaaGreatDoorV06
set_option maxHeartbeats 1000000
namespace Go.Proofs.YtnplifkgeeicjaaGreatDoor
open Go.RowKit
structure Bu (g:Nat) (w w':World):Prop where
 os:w'.os=w.os
 tape:w'.tape=w.tape
 output:w'.output=w.output
 size:w'.heap.size=w.heap.size
 block:∀ k,k≠g→w'.heap[k]?=w.heap[k]?
theorem Bu.refl (g:Nat) (w:World):Bu g w w:=⟨rfl,rfl,rfl,rfl,fun _ _=>rfl⟩
theorem Bu.trans {g:Nat} {a b c:World} (h:Bu g a b) (k:Bu g b c):Bu g a c :=
 ⟨k.os.trans h.os,k.tape.trans h.tape,k.output.trans h.output,k.size.trans h.size,fun i hi=>(k.block i hi).trans (h.block i hi)⟩
theorem Bu.setCell {g:Nat} {a w:World} (h:Bu g a w) (j:Nat) (u:Value):Bu g a (w.setCell ⟨g,j,none⟩ u) :=
 h.trans ⟨rfl,rfl,rfl,by simp [World.setCell],fun k hk=>Below.heap_setCell _ _ _ _ hk⟩
theorem Bu.drew {g:Nat} {a w:World} (h:Bu g a w):Bu g a w.drew:=⟨h.os,h.tape,h.output,h.size,h.block⟩
theorem Bu.b {g B:Nat} {a w w':World} (h:Below B a w) (k:Bu g w w') (hB:B≤g):Below B a w' :=
 h.trans ⟨k.os,k.tape,k.output,by rw [k.size];exact Jb _,fun i hi=>k.block i (by omega)⟩
theorem Bu.blk {g g':Nat} {w w':World} {ys:List Nat} (k:Bu g w w') (h:Cm w g' ys) (hn:g'≠g):Cm w' g' ys:=by
 unfold Cm at *;rw [k.block g' hn];exact h
def Gj (w:World) (v:Value) (xs:List Nat) (g:Nat):Prop :=
 ∃ a cap,v=.slice a xs.length cap∧xs.length≤cap∧∀ j,j<xs.length→∃ b off,a=some ⟨b,off,none⟩∧b≠g∧w.cell? ⟨b,off+j,none⟩=some (.int .u64 (lm xs j:Nat))
theorem Gj.only {w w':World} {v:Value} {xs:List Nat} {g:Nat} (h:Gj w v xs g) (k:Bu g w w'):Gj w' v xs g:=by
 obtain ⟨a,cap,rfl,hc,h⟩:=h
 refine ⟨a,cap,rfl,hc,fun j hj=>?_⟩
 obtain ⟨b,off,rfl,hb,hcell⟩:=h j hj
 exact ⟨b,off,rfl,hb,by rw [World.cell?_of_block (w:=w) (k.block b hb)];exact hcell⟩
theorem Gj.rd {w:World} {v:Value} {xs:List Nat} {g:Nat} (h:Gj w v xs g):Rd w v xs:=by
 obtain ⟨a,cap,rfl,hc,h⟩:=h
 refine ⟨a,cap,rfl,hc,fun j hj=>?_⟩
 obtain ⟨b,off,rfl,_,hcell⟩:=h j hj
 exact ⟨b,off,rfl,hcell⟩
theorem Gj.at {w:World} {a:Option Addr} {n cap g:Nat} {xs:List Nat} (h:Gj w (.slice a n cap) xs g) {j:Nat} (hj:j<xs.length) :
  ∃ b off,a=some ⟨b,off,none⟩∧b≠g∧w.cell? ⟨b,off+j,none⟩=some (.int .u64 (lm xs j:Nat)):=by
 obtain ⟨a',c',e,_,h'⟩:=h
 simp only [Value.slice.injEq] at e
 obtain ⟨rfl,rfl,rfl⟩:=e
 exact h' j hj
theorem Rd.apart {w w':World} {v:Value} {xs:List Nat} {g:Nat} (h:Rd w v xs) (hb:Below w.heap.size w w') (hg:w.heap.size≤g):Gj w' v xs g:=by
 obtain ⟨a,cap,rfl,hc,h⟩:=h
 refine ⟨a,cap,rfl,hc,fun j hj=>?_⟩
 obtain ⟨b,off,rfl,hcell⟩:=h j hj
 have hlt:=World.block_lt_of_cell? w _ hcell
 exact ⟨b,off,rfl,by simp at hlt;omega,by rw [hb.cell hlt];exact hcell⟩
theorem Cm.rdX {w:World} {g g':Nat} {ys:List Nat} (h:Cm w g' ys) (off n cap:Nat) (hn:off+n≤ys.length) (hc:n≤cap) (hg:g'≠g):Gj w (.slice (some ⟨g',off,none⟩) n cap) ((ys.drop off).take n) g:=by
 have e:((ys.drop off).take n).length=n:=by simp;omega
 refine ⟨_,cap,by rw [e],by omega,fun j hj=>⟨g',off,rfl,hg,?_⟩⟩
 rw [e] at hj
 rw [h.cell (by omega),Ma hj]
 simp [lm]
def D9 (x y:Nat):Nat:=x*y / 18446744073709551616
def Dy (x y:Nat):Nat:=x*y % 18446744073709551616
theorem Vh (a:Nat) (ha:a<18446744073709551616):bits .and .u64 (a:Int) 4294967295=((a % 4294967296:Nat):Int):=by
 have h:=bits_and_u64_nat a 4294967295 ha (by omega)
 rw [show a &&& 4294967295=a % 4294967296 from Nat.and_two_pow_sub_one_eq_mod a 32] at h
 exact h
theorem Be4 (a:Nat):(a:Int) / 4294967296=((a / 4294967296:Nat):Int):=by omega
theorem Blh (a b:Nat):(a:Int)*(b:Int)=((a*b:Nat):Int):=(Int.natCast_mul a b).symm
theorem Bli (a b:Nat):(a:Int)+(b:Int)=((a+b:Nat):Int):=(Int.natCast_add a b).symm
theorem Cz (a:Nat) (ha:a<18446744073709551616):IntKind.u64.wrap (a:Int)=(a:Int):=by rw [IntKind.wrap_u64];omega
theorem Nf (a:Nat):IntKind.u64.wrap (a:Int)=((a % 18446744073709551616:Nat):Int):=by rw [IntKind.wrap_u64];omega
theorem Gs (x y:Nat) (hx:x<Bb) (hy:y<Bb) (w:World) :
  Calls Tryz.prog 242 #[.int .u64 (x:Nat),.int .u64 (y:Nat)] w fun e w'=>e=.returned (.tuple #[.int .u64 (D9 x y:Nat),.int .u64 (Dy x y:Nat)])∧w'=w:=by
 unfold Bb at hx hy
 unfold D9 Dy
 obtain ⟨bd,bt,bw,hhi⟩:=Lib.mul64_hi x y hx hy
 have ba:=Lib.half_mul_le (a:=x / 4294967296) (b:=y / 4294967296) (by omega) (by omega)
 have bb:=Lib.half_mul_le (a:=x / 4294967296) (b:=y % 4294967296) (by omega) (by omega)
 have bc:=Lib.half_mul_le (a:=x % 4294967296) (b:=y / 4294967296) (by omega) (by omega)
 have ba':x / 4294967296*(y / 4294967296)<18446744073709551616:=by omega
 have bb':x / 4294967296*(y % 4294967296)<18446744073709551616:=by omega
 have bc':x % 4294967296*(y / 4294967296)<18446744073709551616:=by omega
 have bh1:x / 4294967296*(y / 4294967296)+(x / 4294967296*(y % 4294967296)+x % 4294967296*(y % 4294967296) / 4294967296) / 4294967296<18446744073709551616:=by omega
 have bh:x / 4294967296*(y / 4294967296)+(x / 4294967296*(y % 4294967296)+x % 4294967296*(y % 4294967296) / 4294967296) / 4294967296+((x / 4294967296*(y % 4294967296)+x % 4294967296*(y % 4294967296) / 4294967296) % 4294967296+x % 4294967296*(y / 4294967296)) / 4294967296<18446744073709551616:=by omega
 go_enter Tryz.func242,Tryz.ntmps242
 go_wp2
 simp only [Vh x hx,Vh y hy,Be4,Blh,Bli,Cz _ bd,Cz _ bb',Cz _ bt,Vh _ bt,Cz _ bc',Cz _ bw,Cz _ ba',Cz _ bh1,Cz _ bh,Nf (x*y)]
 rw [hhi]
 go_ret2
 exact ⟨rfl,rfl⟩
theorem Qu (x y:Nat) (w:World):(callFunc 176 #[.int .u64 (x:Nat),.int .u64 (y:Nat),.int .u64 0]).run Tryz.prog w =
  .ok (.value (.tuple #[.int .u64 (Dk x y 0:Nat),.int .u64 (Ev x y 0:Nat)])) w:=Bc0 x y 0 (by omega) w
theorem Bja (x y:Nat) (w:World):(callFunc 178 #[.int .u64 (x:Nat),.int .u64 (y:Nat),.int .u64 0]).run Tryz.prog w =
  .ok (.value (.tuple #[.int .u64 (Ct x y 0:Nat),.int .u64 (Ea x y 0:Nat)])) w:=Q9 x y 0 (by omega) w
theorem En (p d r q:List Nat) (x y:Nat):(p ++ d ++ (x :: r) ++ q).set (p.length+d.length) y=p ++ (d ++ [y]) ++ r ++ q:=by
 rw [List.append_assoc (p ++ d),List.set_append_right _ _ (by simp)]
 simp
theorem Gi (p d r q:List Nat) (x:Nat):lm (p ++ d ++ (x :: r) ++ q) (p.length+d.length)=x:=by
 unfold lm
 rw [List.append_assoc (p ++ d),Jh,List.getElem?_append_right (by simp)]
 simp
theorem Eo (s:List Nat) (k:Nat) (h:k<s.length):s.drop k=lm s k :: s.drop (k+1):=by
 rw [List.drop_eq_getElem_cons h];simp [lm,h]
def atO (x l cc o:Nat):Nat:=Dk o (Dk (Dy x l) cc 0) 0
def atC (x l cc o:Nat):Nat:=D9 x l+Ev (Dy x l) cc 0+Ev o (Dk (Dy x l) cc 0) 0
theorem Yq {x l cc o:Nat} (hx:x<Bb) (hl:l<Bb) (hc:cc<Bb) (ho:o<Bb) :
  D9 x l+Ev (Dy x l) cc 0<Bb∧atC x l cc o<Bb∧atO x l cc o<Bb∧atO x l cc o+Bb*atC x l cc o=x*l+cc+o:=by
 have hp:x*l≤18446744073709551615*18446744073709551615:=Nat.mul_le_mul (by unfold Bb at hx;omega) (by unfold Bb at hl;omega)
 unfold atO atC D9 Dy Dk Ev
 unfold Bb at *
 generalize x*l=P at *
 refine ⟨by omega,by omega,by omega,by omega⟩
def Biu (xs s d:List Nat) (l k cc:Nat):Prop:=d.length=k∧M.Low Bb d∧cc<Bb∧M.val Bb d+Bb ^ k*cc=M.val Bb (s.take k)+M.val Bb (xs.take k)*l
theorem Biu.step {xs s d:List Nat} {l k cc:Nat} (lx:M.Low Bb xs) (ls:M.Low Bb s) (hl:l<Bb) (h:Biu xs s d l k cc) :
  Biu xs s (d ++ [atO (lm xs k) l cc (lm s k)]) l (k+1) (atC (lm xs k) l cc (lm s k)):=by
 obtain ⟨h1,h2,h3,h4⟩:=h
 obtain ⟨f1,f2,f3,f4⟩:=Yq (Ci Bm lx k) hl h3 (Ci Bm ls k)
 refine ⟨by simp [h1],h2.snoc f3,f2,?_⟩
 rw [M.val_snoc,h1,M.val_take_succ,M.val_take_succ,Nat.pow_succ]
 have e2:Bb ^ k*(atO (lm xs k) l cc (lm s k)+Bb*atC (lm xs k) l cc (lm s k))=Bb ^ k*(lm xs k*l+cc+lm s k):=by rw [f4]
 simp only [Nat.mul_add,← Nat.mul_assoc] at e2
 show _=_+Bb ^ k*lm s k+(_+Bb ^ k*lm xs k)*l
 rw [Nat.add_mul]
 omega
theorem On (g:Nat) (p s q:List Nat) (vr:Value) (xs:List Nat) (l cap:Nat) (w:World) (hb:Cm w g (p ++ s ++ q)) (hs:s.length=xs.length) (hr:Gj w vr xs g)
  (ls:M.Low Bb s) (lx:M.Low Bb xs) (hl:l<Bb) (hcap:xs.length≤cap) (hm:xs.length≤1000000) :
  Calls Tryz.prog 212 #[.slice (some ⟨g,p.length,none⟩) xs.length cap,vr,.int .u64 (l:Nat)] w fun e w'=>∃ (s':List Nat) (c:Nat),e=.returned (.int .u64 (c:Nat))∧Cm w' g (p ++ s' ++ q)∧s'.length=xs.length∧M.Low Bb s'∧c<Bb ∧
   M.val Bb s'+Bb ^ xs.length*c=M.val Bb s+M.val Bb xs*l∧Bu g w w':=by
 have hr0:=hr
 obtain ⟨a,ca,rfl,hca,-⟩:=hr
 have hcap':(xs.length:Int)≤cap:=by omega
 go_enter Tryz.func212,Tryz.ntmps212
 go_wp2
 go_loopw [7,19] (fun c i wr=>∃ (k cc:Nat) (d:List Nat),k≤xs.length∧i=.int .i64 k∧c=.int .u64 cc∧Biu xs s d l k cc∧Cm wr g (p ++ d ++ s.drop k ++ q)∧Bu g w wr) (fun _ i _=>xs.length - (intOf i).toNat)
 case atStart=>exact ⟨0,0,[],by omega,rfl,rfl,⟨rfl,M.Low.nil _,Bm,by simp [M.val]⟩,by simpa using hb,Bu.refl _ _⟩
 case round =>
  obtain ⟨k,cc,d,hk,rfl,rfl,hat,hblk,hon⟩:=hrel
  have hdl:d.length=k:=hat.1
  have hcc:cc<Bb:=hat.2.2.1
  by_cases hlt:k<xs.length
  ·obtain ⟨b1,o1,rfl,hne,q1⟩:=(hr0.only hon).at hlt
   rw [Eo s k (by omega)] at hblk
   have hc1:=hblk.cell (j:=p.length+k) (by simp;omega)
   have hf1:=hblk.o (p.length+k)
   rw [← hdl,Gi,hdl] at hc1
   have hset:=hblk.set (p.length+k) (atO (lm xs k) l cc (lm s k))
   rw [← hdl,En,hdl] at hset
   have HSET:=hset
   obtain ⟨f1,f2,f3,f4⟩:=Yq (Ci Bm lx k) hl hcc (Ci Bm ls k)
   have HST:Hid (Biu xs s (d ++ [atO (lm xs k) l cc (lm s k)]) l (k+1) (atC (lm xs k) l cc (lm s k))):=hat.step lx ls hl
   have hxl:=Ci Bm lx k
   unfold atC at f2
   unfold Bb at f1 f2
   have HB:Hid (Cm (wr.setCell ⟨g,p.length+k,none⟩ (.int .u64 (atO (lm xs k) l cc (lm s k):Nat))) g (p ++ (d ++ [atO (lm xs k) l cc (lm s k)]) ++ s.drop (k+1) ++ q)):=hset
   clear hset HSET f3 f4
   go_wp2_with fail
   refine (Gs (lm xs k) l hxl hl _).mono ?_
   rintro e w' ⟨rfl,rfl⟩
   go_wp2_with (first | simp only [Qu (Dy (lm xs k) l) cc] | simp only [Qu (lm s k) (Dk (Dy (lm xs k) l) cc 0)])
   exact ⟨⟨k+1,_,_,by omega,by go_num,by simp only [atC,Int.natCast_add],HST.out,HB.out,hon.setCell _ _⟩,by simp [intOf];omega⟩
  ·have hke:k=xs.length:=by omega
   rw [List.drop_of_length_le (by omega),List.append_nil] at hblk
   obtain ⟨h1,h2,h3,h4⟩:=hat
   rw [M.val_take_all _ _ _ (by omega),M.val_take_all _ _ _ (by omega),hke] at h4
   have H4:Hid (M.val Bb d+Bb ^ xs.length*cc=M.val Bb s+M.val Bb xs*l):=h4
   have HD:Hid (d.length=xs.length):=by rw [← hke];exact h1
   clear h4 h1 hke hdl
   go_wp2
   go_ret
   exact ⟨d,cc,rfl,hblk,HD.out,h2,h3,H4.out,hon⟩
theorem Bil (x c:Nat) (hc:c≤1) (w:World):(callFunc 176 #[.int .u64 (x:Nat),.int .u64 0,.int .u64 (c:Nat)]).run Tryz.prog w =
  .ok (.value (.tuple #[.int .u64 (Dk x 0 c:Nat),.int .u64 (Ev x 0 c:Nat)])) w:=Bc0 x 0 c hc w
theorem Bfu (x c:Nat) (hc:c≤1) (w:World):(callFunc 178 #[.int .u64 (x:Nat),.int .u64 0,.int .u64 (c:Nat)]).run Tryz.prog w =
  .ok (.value (.tuple #[.int .u64 (Ct x 0 c:Nat),.int .u64 (Ea x 0 c:Nat)])) w:=Q9 x 0 c hc w
theorem C5 (b:Nat) (s:List Nat) (k:Nat) (h:k≤s.length):M.val b s=M.val b (s.take k)+b ^ k*M.val b (s.drop k):=by
 conv=>lhs;rw [← List.take_append_drop k s]
 rw [M.val_append,List.length_take,Nat.min_eq_left h]
theorem Be8 {b X V S1 D p pn c:Nat} (h4:V+p*c=S1+X) (hc:c=0∨(D=0∧p=pn)):(V+p*D)+pn*c=(S1+p*D)+X∧b=b:=by
 refine ⟨?_,rfl⟩
 rcases hc with rfl | ⟨rfl,rfl⟩
 ·simp at h4 ⊢;omega
 ·simp;omega
theorem La.fin2 {s xs d:List Nat} {k c:Nat} (h:La s xs d k c) (hk:xs.length≤k) (hn:k≤s.length) (hc:c=0∨k=s.length) :
  M.val Bb (d ++ s.drop k)+Bb ^ s.length*c=M.val Bb s+M.val Bb xs:=by
 obtain ⟨h1,h2,h3,h4⟩:=h
 rw [M.val_take_all _ xs _ hk] at h4
 rw [M.val_append,h1,C5 Bb s k hn]
 refine (Be8 (b:=0) h4 ?_).1
 rcases hc with rfl | rfl
 ·exact Or.inl rfl
 ·exact Or.inr ⟨by simp [M.val],rfl⟩
theorem F5 (g:Nat) (p s q:List Nat) (vr:Value) (xs:List Nat) (cap:Nat) (w:World) (hb:Cm w g (p ++ s ++ q)) (hs:xs.length≤s.length) (hr:Gj w vr xs g)
  (ls:M.Low Bb s) (lx:M.Low Bb xs) (hm:s.length≤1000000) :
  Calls Tryz.prog 214 #[.slice (some ⟨g,p.length,none⟩) s.length cap,vr] w fun e w'=>∃ (s':List Nat) (c:Nat),e=.returned (.int .u64 (c:Nat))∧Cm w' g (p ++ s' ++ q)∧s'.length=s.length∧M.Low Bb s'∧c≤1 ∧
   M.val Bb s'+Bb ^ s.length*c=M.val Bb s+M.val Bb xs∧Bu g w w':=by
 have hr0:=hr
 obtain ⟨a,ca,rfl,hca,-⟩:=hr
 go_enter Tryz.func214,Tryz.ntmps214
 go_wp2
 go_loopw [5,11] (fun c i wr=>∃ (k cc:Nat) (d:List Nat),k≤xs.length∧i=.int .i64 k∧c=.int .u64 cc∧La s xs d k cc∧Cm wr g (p ++ d ++ s.drop k ++ q)∧Bu g w wr) (fun _ i _=>xs.length - (intOf i).toNat)
 case atStart=>exact ⟨0,0,[],by omega,rfl,rfl,⟨rfl,M.Low.nil _,by omega,by simp [M.val]⟩,by simpa using hb,Bu.refl _ _⟩
 case round =>
  obtain ⟨k,cc,d,hk,rfl,rfl,hat,hblk,hon⟩:=hrel
  have hdl:d.length=k:=hat.1
  have hcc:cc≤1:=hat.2.2.1
  by_cases hlt:k<xs.length
  ·obtain ⟨b1,o1,rfl,hne,q1⟩:=(hr0.only hon).at hlt
   rw [Eo s k (by omega)] at hblk
   have hc1:=hblk.cell (j:=p.length+k) (by simp;omega)
   have hf1:=hblk.o (p.length+k)
   rw [← hdl,Gi,hdl] at hc1
   have hset:=hblk.set (p.length+k) (Dk (lm s k) (lm xs k) cc)
   rw [← hdl,En,hdl] at hset
   have HST:Hid (La s xs (d ++ [Dk (lm s k) (lm xs k) cc]) (k+1) (Ev (lm s k) (lm xs k) cc)):=hat.step ls lx
   have HB:Hid (Cm (wr.setCell ⟨g,p.length+k,none⟩ (.int .u64 (Dk (lm s k) (lm xs k) cc:Nat))) g (p ++ (d ++ [Dk (lm s k) (lm xs k) cc]) ++ s.drop (k+1) ++ q)):=hset
   have hks:(k:Int)<s.length:=by omega
   clear hset
   go_wp2_with (simp only [Bc0 (lm s k) (lm xs k) cc hcc])
   exact ⟨⟨k+1,_,_,by omega,by go_num,rfl,HST.out,HB.out,hon.setCell _ _⟩,by simp [intOf];omega⟩
  ·have hke:k=xs.length:=by omega
   subst hke
   go_wp2
   clear hlt hk
   go_loopw [5,8] (fun c i wr=>∃ (k cc:Nat) (d:List Nat),xs.length≤k∧k≤s.length∧i=.int .i64 k∧c=.int .u64 cc∧La s xs d k cc∧Cm wr g (p ++ d ++ s.drop k ++ q)∧Bu g w wr) (fun _ i _=>s.length - (intOf i).toNat)
   case atStart=>exact ⟨xs.length,cc,d,by omega,hs,rfl,rfl,hat,hblk,hon⟩
   case round =>
    clear hat hblk hon hdl hcc
    obtain ⟨k,cc,d,hxk,hk,rfl,rfl,hat,hblk,hon⟩:=hrel
    have hdl:d.length=k:=hat.1
    have hcc:cc≤1:=hat.2.2.1
    have fin:cc=0∨k=s.length→Cm wr g (p ++ (d ++ s.drop k) ++ q)∧(d ++ s.drop k).length=s.length∧M.Low Bb (d ++ s.drop k)∧M.val Bb (d ++ s.drop k)+Bb ^ s.length*cc=M.val Bb s+M.val Bb xs:=fun h =>
     ⟨by rw [← List.append_assoc p];exact hblk,by simp;omega,hat.2.1.append (ls.drop k),hat.fin2 hxk hk h⟩
    have FIN:Hid (cc=0∨k=s.length→Cm wr g (p ++ (d ++ s.drop k) ++ q)∧(d ++ s.drop k).length=s.length∧M.Low Bb (d ++ s.drop k)∧M.val Bb (d ++ s.drop k)+Bb ^ s.length*cc=M.val Bb s+M.val Bb xs):=fin
    clear fin
    by_cases hc0:cc=0
    ·obtain ⟨g1,g2,g3,g4⟩:=FIN.out (Or.inl hc0)
     have G4:Hid (M.val Bb (d ++ s.drop k)+Bb ^ s.length*cc=M.val Bb s+M.val Bb xs):=g4
     have G2:Hid ((d ++ s.drop k).length=s.length):=g2
     clear g4 g2 FIN
     go_wp2
     go_ret
     exact ⟨d ++ s.drop k,cc,rfl,g1,G2.out,g3,hcc,G4.out,hon⟩
    ·by_cases hlt:k<s.length
     ·rw [Eo s k hlt] at hblk
      have hc1:=hblk.cell (j:=p.length+k) (by simp;omega)
      have hf1:=hblk.o (p.length+k)
      rw [← hdl,Gi,hdl] at hc1
      have hst:=hat.step ls lx
      rw [Ek hxk] at hst
      have hset:=hblk.set (p.length+k) (Dk (lm s k) 0 cc)
      rw [← hdl,En,hdl] at hset
      have HST:Hid (La s xs (d ++ [Dk (lm s k) 0 cc]) (k+1) (Ev (lm s k) 0 cc)):=hst
      have HB:Hid (Cm (wr.setCell ⟨g,p.length+k,none⟩ (.int .u64 (Dk (lm s k) 0 cc:Nat))) g (p ++ (d ++ [Dk (lm s k) 0 cc]) ++ s.drop (k+1) ++ q)):=hset
      clear hset hst FIN
      go_wp2_with (simp only [Bil (lm s k) cc hcc])
      exact ⟨⟨k+1,_,_,by omega,by omega,by go_num,rfl,HST.out,HB.out,hon.setCell _ _⟩,by simp [intOf];omega⟩
     ·obtain ⟨g1,g2,g3,g4⟩:=FIN.out (Or.inr (by omega))
      have G4:Hid (M.val Bb (d ++ s.drop k)+Bb ^ s.length*cc=M.val Bb s+M.val Bb xs):=g4
      have G2:Hid ((d ++ s.drop k).length=s.length):=g2
      clear g4 g2 FIN
      go_wp2
      go_ret
      exact ⟨d ++ s.drop k,cc,rfl,g1,G2.out,g3,hcc,G4.out,hon⟩
def ttO (x l cc o:Nat):Nat:=Ct o (Dk (Dy x l) cc 0) 0
def ttC (x l cc o:Nat):Nat:=D9 x l+Ev (Dy x l) cc 0+Ea o (Dk (Dy x l) cc 0) 0
theorem Wm {x l cc o:Nat} (hx:x<Bb) (hl:l<Bb) (hc:cc<Bb) (ho:o<Bb) :
  D9 x l+Ev (Dy x l) cc 0<Bb∧ttC x l cc o<Bb∧ttO x l cc o<Bb∧ttO x l cc o+x*l+cc=o+Bb*ttC x l cc o:=by
 have hp:x*l≤18446744073709551615*18446744073709551615:=Nat.mul_le_mul (by unfold Bb at hx;omega) (by unfold Bb at hl;omega)
 unfold ttO ttC D9 Dy Dk Ev Ct Ea
 unfold Bb at *
 generalize x*l=P at *
 refine ⟨by omega,by split <;> omega,by omega,by split <;> omega⟩
def Bin (xs s d:List Nat) (l k cc:Nat):Prop:=d.length=k∧M.Low Bb d∧cc<Bb∧M.val Bb d+M.val Bb (xs.take k)*l=M.val Bb (s.take k)+Bb ^ k*cc
theorem Bin.step {xs s d:List Nat} {l k cc:Nat} (lx:M.Low Bb xs) (ls:M.Low Bb s) (hl:l<Bb) (h:Bin xs s d l k cc) :
  Bin xs s (d ++ [ttO (lm xs k) l cc (lm s k)]) l (k+1) (ttC (lm xs k) l cc (lm s k)):=by
 obtain ⟨h1,h2,h3,h4⟩:=h
 obtain ⟨f1,f2,f3,f4⟩:=Wm (Ci Bm lx k) hl h3 (Ci Bm ls k)
 refine ⟨by simp [h1],h2.snoc f3,f2,?_⟩
 rw [M.val_snoc,h1,M.val_take_succ,M.val_take_succ,Nat.pow_succ]
 have e2:Bb ^ k*(ttO (lm xs k) l cc (lm s k)+lm xs k*l+cc)=Bb ^ k*(lm s k+Bb*ttC (lm xs k) l cc (lm s k)):=by rw [f4]
 simp only [Nat.mul_add,← Nat.mul_assoc] at e2
 show _+(_+Bb ^ k*lm xs k)*l=_+Bb ^ k*lm s k+_
 rw [Nat.add_mul]
 omega
theorem S4 (g:Nat) (p s q:List Nat) (vr:Value) (xs:List Nat) (l cap:Nat) (w:World) (hb:Cm w g (p ++ s ++ q)) (hs:s.length=xs.length) (hr:Gj w vr xs g)
  (ls:M.Low Bb s) (lx:M.Low Bb xs) (hl:l<Bb) (hcap:xs.length≤cap) (hm:xs.length≤1000000) :
  Calls Tryz.prog 267 #[.slice (some ⟨g,p.length,none⟩) xs.length cap,vr,.int .u64 (l:Nat)] w fun e w'=>∃ (s':List Nat) (c:Nat),e=.returned (.int .u64 (c:Nat))∧Cm w' g (p ++ s' ++ q)∧s'.length=xs.length∧M.Low Bb s'∧c<Bb ∧
   M.val Bb s'+M.val Bb xs*l=M.val Bb s+Bb ^ xs.length*c∧Bu g w w':=by
 have hr0:=hr
 obtain ⟨a,ca,rfl,hca,-⟩:=hr
 have hcap':(xs.length:Int)≤cap:=by omega
 go_enter Tryz.func267,Tryz.ntmps267
 go_wp2
 go_loopw [7,19] (fun c i wr=>∃ (k cc:Nat) (d:List Nat),k≤xs.length∧i=.int .i64 k∧c=.int .u64 cc∧Bin xs s d l k cc∧Cm wr g (p ++ d ++ s.drop k ++ q)∧Bu g w wr) (fun _ i _=>xs.length - (intOf i).toNat)
 case atStart=>exact ⟨0,0,[],by omega,rfl,rfl,⟨rfl,M.Low.nil _,Bm,by simp [M.val]⟩,by simpa using hb,Bu.refl _ _⟩
 case round =>
  obtain ⟨k,cc,d,hk,rfl,rfl,hat,hblk,hon⟩:=hrel
  have hdl:d.length=k:=hat.1
  have hcc:cc<Bb:=hat.2.2.1
  by_cases hlt:k<xs.length
  ·obtain ⟨b1,o1,rfl,hne,q1⟩:=(hr0.only hon).at hlt
   rw [Eo s k (by omega)] at hblk
   have hc1:=hblk.cell (j:=p.length+k) (by simp;omega)
   have hf1:=hblk.o (p.length+k)
   rw [← hdl,Gi,hdl] at hc1
   have hset:=hblk.set (p.length+k) (ttO (lm xs k) l cc (lm s k))
   rw [← hdl,En,hdl] at hset
   have HSET:=hset
   obtain ⟨f1,f2,f3,f4⟩:=Wm (Ci Bm lx k) hl hcc (Ci Bm ls k)
   have HST:Hid (Bin xs s (d ++ [ttO (lm xs k) l cc (lm s k)]) l (k+1) (ttC (lm xs k) l cc (lm s k))):=hat.step lx ls hl
   have hxl:=Ci Bm lx k
   unfold ttC at f2
   unfold Bb at f1 f2
   have HB:Hid (Cm (wr.setCell ⟨g,p.length+k,none⟩ (.int .u64 (ttO (lm xs k) l cc (lm s k):Nat))) g (p ++ (d ++ [ttO (lm xs k) l cc (lm s k)]) ++ s.drop (k+1) ++ q)):=hset
   clear hset HSET f3 f4
   go_wp2_with fail
   refine (Gs (lm xs k) l hxl hl _).mono ?_
   rintro e w' ⟨rfl,rfl⟩
   go_wp2_with (first | simp only [Qu (Dy (lm xs k) l) cc] | simp only [Bja (lm s k) (Dk (Dy (lm xs k) l) cc 0)])
   exact ⟨⟨k+1,_,_,by omega,by go_num,by simp only [ttC,Int.natCast_add],HST.out,HB.out,hon.setCell _ _⟩,by simp [intOf];omega⟩
  ·have hke:k=xs.length:=by omega
   rw [List.drop_of_length_le (by omega),List.append_nil] at hblk
   obtain ⟨h1,h2,h3,h4⟩:=hat
   rw [M.val_take_all _ _ _ (by omega),M.val_take_all _ _ _ (by omega),hke] at h4
   have H4:Hid (M.val Bb d+M.val Bb xs*l=M.val Bb s+Bb ^ xs.length*cc):=h4
   have HD:Hid (d.length=xs.length):=by rw [← hke];exact h1
   clear h4 h1 hke hdl
   go_wp2
   go_ret
   exact ⟨d,cc,rfl,hblk,HD.out,h2,h3,H4.out,hon⟩
theorem U0 {X V S1 D p pn c:Nat} (h4:V+X=S1+p*c) (hc:c=0∨(D=0∧p=pn)):(V+p*D)+X=(S1+p*D)+pn*c:=by
 rcases hc with rfl | ⟨rfl,rfl⟩
 ·simp at h4 ⊢;omega
 ·simp;omega
theorem K8.fin2 {s xs d:List Nat} {k c:Nat} (h:K8 s xs d k c) (ls:M.Low Bb s) (hk:xs.length≤k) (hn:k≤s.length) (hc:c=0∨k=s.length) (hle:M.val Bb xs≤M.val Bb s) :
  M.val Bb (d ++ s.drop k)=M.val Bb s - M.val Bb xs:=by
 obtain ⟨h1,h2,h3,h4⟩:=h
 have hlow:=M.val_lt Bm (h2.append (ls.drop k))
 rw [Ji,List.length_drop,h1,show k+(s.length - k)=s.length by omega] at hlow
 rw [M.val_take_all _ xs _ hk] at h4
 have e:=C5 Bb s k hn
 have key:M.val Bb (d ++ s.drop k)+M.val Bb xs=M.val Bb s+Bb ^ s.length*c:=by
  rw [M.val_append,h1,e]
  refine U0 h4 ?_
  rcases hc with rfl | rfl
  ·exact Or.inl rfl
  ·exact Or.inr ⟨by simp [M.val],rfl⟩
 generalize Bb ^ s.length=P at *
 have:c=0∨c=1:=by omega
 rcases this with rfl | rfl <;> omega
theorem Ni (g:Nat) (p s q:List Nat) (vr:Value) (xs:List Nat) (cap:Nat) (w:World) (hb:Cm w g (p ++ s ++ q)) (hs:xs.length≤s.length) (hr:Gj w vr xs g)
  (ls:M.Low Bb s) (lx:M.Low Bb xs) (hm:s.length≤1000000) (hle:M.val Bb xs≤M.val Bb s) :
  Calls Tryz.prog 244 #[.slice (some ⟨g,p.length,none⟩) s.length cap,vr] w fun e w'=>∃ (s':List Nat),e=.returned (.tuple #[])∧Cm w' g (p ++ s' ++ q)∧s'.length=s.length∧M.Low Bb s' ∧
   M.val Bb s'=M.val Bb s - M.val Bb xs∧Bu g w w':=by
 have hr0:=hr
 have HLE:Hid (M.val Bb xs≤M.val Bb s):=hle
 clear hle
 obtain ⟨a,ca,rfl,hca,-⟩:=hr
 go_enter Tryz.func244,Tryz.ntmps244
 go_wp2
 go_loopw [4,10] (fun c i wr=>∃ (k cc:Nat) (d:List Nat),k≤xs.length∧i=.int .i64 k∧c=.int .u64 cc∧K8 s xs d k cc∧Cm wr g (p ++ d ++ s.drop k ++ q)∧Bu g w wr) (fun _ i _=>xs.length - (intOf i).toNat)
 case atStart=>exact ⟨0,0,[],by omega,rfl,rfl,⟨rfl,M.Low.nil _,by omega,by simp [M.val]⟩,by simpa using hb,Bu.refl _ _⟩
 case round =>
  obtain ⟨k,cc,d,hk,rfl,rfl,hat,hblk,hon⟩:=hrel
  have hdl:d.length=k:=hat.1
  have hcc:cc≤1:=hat.2.2.1
  by_cases hlt:k<xs.length
  ·obtain ⟨b1,o1,rfl,hne,q1⟩:=(hr0.only hon).at hlt
   rw [Eo s k (by omega)] at hblk
   have hc1:=hblk.cell (j:=p.length+k) (by simp;omega)
   have hf1:=hblk.o (p.length+k)
   rw [← hdl,Gi,hdl] at hc1
   have hset:=hblk.set (p.length+k) (Ct (lm s k) (lm xs k) cc)
   rw [← hdl,En,hdl] at hset
   have HST:Hid (K8 s xs (d ++ [Ct (lm s k) (lm xs k) cc]) (k+1) (Ea (lm s k) (lm xs k) cc)):=hat.step ls lx
   have HB:Hid (Cm (wr.setCell ⟨g,p.length+k,none⟩ (.int .u64 (Ct (lm s k) (lm xs k) cc:Nat))) g (p ++ (d ++ [Ct (lm s k) (lm xs k) cc]) ++ s.drop (k+1) ++ q)):=hset
   have hks:(k:Int)<s.length:=by omega
   clear hset
   go_wp2_with (simp only [Q9 (lm s k) (lm xs k) cc hcc])
   exact ⟨⟨k+1,_,_,by omega,by go_num,rfl,HST.out,HB.out,hon.setCell _ _⟩,by simp [intOf];omega⟩
  ·have hke:k=xs.length:=by omega
   subst hke
   go_wp2
   clear hlt hk
   go_loopw [4,7] (fun c i wr=>∃ (k cc:Nat) (d:List Nat),xs.length≤k∧k≤s.length∧i=.int .i64 k∧c=.int .u64 cc∧K8 s xs d k cc∧Cm wr g (p ++ d ++ s.drop k ++ q)∧Bu g w wr) (fun _ i _=>s.length - (intOf i).toNat)
   case atStart=>exact ⟨xs.length,cc,d,by omega,hs,rfl,rfl,hat,hblk,hon⟩
   case round =>
    clear hat hblk hon hdl hcc
    obtain ⟨k,cc,d,hxk,hk,rfl,rfl,hat,hblk,hon⟩:=hrel
    have hdl:d.length=k:=hat.1
    have hcc:cc≤1:=hat.2.2.1
    have fin:cc=0∨k=s.length→Cm wr g (p ++ (d ++ s.drop k) ++ q)∧(d ++ s.drop k).length=s.length∧M.Low Bb (d ++ s.drop k)∧M.val Bb (d ++ s.drop k)=M.val Bb s - M.val Bb xs:=fun h =>
     ⟨by rw [← List.append_assoc p];exact hblk,by simp;omega,hat.2.1.append (ls.drop k),hat.fin2 ls hxk hk h HLE.out⟩
    have FIN:Hid (cc=0∨k=s.length→Cm wr g (p ++ (d ++ s.drop k) ++ q)∧(d ++ s.drop k).length=s.length∧M.Low Bb (d ++ s.drop k)∧M.val Bb (d ++ s.drop k)=M.val Bb s - M.val Bb xs):=fin
    clear fin
    by_cases hc0:cc=0
    ·obtain ⟨g1,g2,g3,g4⟩:=FIN.out (Or.inl hc0)
     have G4:Hid (M.val Bb (d ++ s.drop k)=M.val Bb s - M.val Bb xs):=g4
     have G2:Hid ((d ++ s.drop k).length=s.length):=g2
     clear g4 g2 FIN
     go_wp2
     go_end0
     exact ⟨d ++ s.drop k,rfl,g1,G2.out,g3,G4.out,hon⟩
    ·by_cases hlt:k<s.length
     ·rw [Eo s k hlt] at hblk
      have hc1:=hblk.cell (j:=p.length+k) (by simp;omega)
      have hf1:=hblk.o (p.length+k)
      rw [← hdl,Gi,hdl] at hc1
      have hst:=hat.step ls lx
      rw [Ek hxk] at hst
      have hset:=hblk.set (p.length+k) (Ct (lm s k) 0 cc)
      rw [← hdl,En,hdl] at hset
      have HST:Hid (K8 s xs (d ++ [Ct (lm s k) 0 cc]) (k+1) (Ea (lm s k) 0 cc)):=hst
      have HB:Hid (Cm (wr.setCell ⟨g,p.length+k,none⟩ (.int .u64 (Ct (lm s k) 0 cc:Nat))) g (p ++ (d ++ [Ct (lm s k) 0 cc]) ++ s.drop (k+1) ++ q)):=hset
      clear hset hst FIN
      go_wp2_with (simp only [Bfu (lm s k) cc hcc])
      exact ⟨⟨k+1,_,_,by omega,by omega,by go_num,rfl,HST.out,HB.out,hon.setCell _ _⟩,by simp [intOf];omega⟩
     ·obtain ⟨g1,g2,g3,g4⟩:=FIN.out (Or.inr (by omega))
      have G4:Hid (M.val Bb (d ++ s.drop k)=M.val Bb s - M.val Bb xs):=g4
      have G2:Hid ((d ++ s.drop k).length=s.length):=g2
      clear g4 g2 FIN
      go_wp2
      go_end0
      exact ⟨d ++ s.drop k,rfl,g1,G2.out,g3,G4.out,hon⟩
end Go.Proofs.YtnplifkgeeicjaaGreatDoor
