import Derived.Test.YtnplifkgeeicjaaGreatDoorV08
import Derived.Test.YtnplifkgeeicjaaGreatDoorV09
set_option maxHeartbeats 2000000
namespace Go.Proofs.YtnplifkgeeicjaaGreatDoor
open Go.RowKit
theorem Ba {p:Prop} (h:p):Hid p:=h
structure Br (g:Nat) (w w':World):Prop where
 os:w'.os=w.os
 tape:w'.tape=w.tape
 output:w'.output=w.output
 size:w.heap.size≤w'.heap.size
 block:∀ k,k<w.heap.size→k≠g→w'.heap[k]?=w.heap[k]?
theorem Br.refl (g:Nat) (w:World):Br g w w:=⟨rfl,rfl,rfl,Jb _,fun _ _ _=>rfl⟩
theorem Br.trans {g:Nat} {a b c:World} (h:Br g a b) (k:Br g b c):Br g a c :=
 ⟨k.os.trans h.os,k.tape.trans h.tape,k.output.trans h.output,Jf h.size k.size,fun i hi hn=>(k.block i (Jl hi h.size) hn).trans (h.block i hi hn)⟩
theorem Bu.grew {g:Nat} {w w':World} (h:Bu g w w'):Br g w w':=⟨h.os,h.tape,h.output,by rw [h.size];exact Jb _,fun k _ hn=>h.block k hn⟩
theorem Ib {g:Nat} {w w':World} (h:Below w.heap.size w w'):Br g w w':=⟨h.os,h.tape,h.output,h.size,fun k hk _=>h.block k hk⟩
theorem Br.b {g B:Nat} {a w w':World} (h:Below B a w) (k:Br g w w') (hB:B≤g) (hw:B≤w.heap.size):Below B a w' :=
 h.trans ⟨k.os,k.tape,k.output,k.size,fun i hi=>k.block i (by omega) (by omega)⟩
theorem Gj.grew {w w':World} {v:Value} {xs:List Nat} {g:Nat} (h:Gj w v xs g) (k:Br g w w'):Gj w' v xs g:=by
 obtain ⟨a,cap,rfl,hc,h⟩:=h
 refine ⟨a,cap,rfl,hc,fun j hj=>?_⟩
 obtain ⟨b,off,rfl,hb,hcell⟩:=h j hj
 have hlt:=World.block_lt_of_cell? w _ hcell
 exact ⟨b,off,rfl,hb,by rw [World.cell?_of_block (w:=w) (k.block b hlt hb)];exact hcell⟩
def Wa (w:World) (X Y n:Nat) (e:Ending) (w':World):Prop :=
 ∃ (g:Nat) (zs:List Nat),e=.returned (.slice (some ⟨g,0,none⟩) zs.length zs.length)∧Cm w' g zs∧zs.length=n∧M.Low Bb zs∧M.val Bb zs=X*Y∧w.heap.size≤g∧Below w.heap.size w w'
def PAt (xs ys u:List Nat) (i:Nat):Prop:=u.length=xs.length+i∧M.Low Bb u∧M.val Bb u=M.val Bb xs*M.val Bb (ys.take i)
theorem PAt.step {xs ys u s':List Nat} {i c:Nat} (h:PAt xs ys u i) (hs:s'.length=xs.length) (hl:M.Low Bb s') (hc:c<Bb)
  (hv:M.val Bb s'+Bb ^ xs.length*c=M.val Bb (u.drop i)+M.val Bb xs*lm ys i):PAt xs ys (u.take i ++ s' ++ [c]) (i+1):=by
 obtain ⟨h1,h2,h3⟩:=h
 refine ⟨by simp;omega,((h2.take i).append hl).snoc hc,?_⟩
 have e1:(u.take i ++ s').length=i+xs.length:=by simp;omega
 have e2:=C5 Bb u i (by omega)
 rw [M.val_snoc,e1,M.val_append,M.val_take_succ,Nat.mul_add,← h3,e2,Nat.pow_add]
 have e3:(u.take i).length=i:=by simp;omega
 rw [e3]
 show _=_+_+M.val Bb xs*(Bb ^ i*lm ys i)
 have e4:Bb ^ i*(M.val Bb s'+Bb ^ xs.length*c)=Bb ^ i*(M.val Bb (u.drop i)+M.val Bb xs*lm ys i):=by rw [hv]
 rw [Nat.mul_add,Nat.mul_add,← Nat.mul_assoc] at e4
 rw [Nat.mul_left_comm (M.val Bb xs)]
 omega
theorem F7 (va vb:Value) (xs ys:List Nat) (w:World) (ha:Rd w va xs) (hb:Rd w vb ys) (la:M.Low Bb xs) (lb:M.Low Bb ys) (hle:ys.length≤xs.length) (h40:ys.length<40) (hm:xs.length≤100000) :
  Calls Tryz.prog 180 #[va,vb] w (Wa w (M.val Bb xs) (M.val Bb ys) (xs.length+ys.length))∧(ys.length<xs.length→Calls Tryz.prog 180 #[vb,va] w (Wa w (M.val Bb xs) (M.val Bb ys) (xs.length+ys.length))):=by
 have ha0:=ha
 have hb0:=hb
 obtain ⟨a,ca,rfl,hca,-⟩:=ha
 obtain ⟨b,cb,rfl,hcb,-⟩:=hb
 obtain ⟨n,hn⟩:∃ n,n=xs.length+ys.length:=⟨_,rfl⟩
 rw [← hn]
 have HN:Hid (n=xs.length+ys.length):=hn
 have hnb:n≤200000:=by omega
 have hnn:xs.length≤n:=by omega
 clear hn
 have hd40:decide ((ys.length:Int)<40)=true:=by simp;omega
 refine ⟨?_,fun hlt=>?_⟩
 ·have hnl:¬ xs.length<ys.length:=by omega
  go_enter Tryz.func180,Tryz.ntmps180
  go_wp2_with (at_make;refine Cn rfl _ _ rfl _ n rfl rfl (by have:=HN.out;omega) (by omega) ?_;intro w2 hblk hbel)
  go_loopw [55] (fun i wr=>∃ (k:Nat) (u:List Nat),k≤ys.length∧i=.int .i64 k∧PAt xs ys u k∧Cm wr w.heap.size (u ++ List.replicate (ys.length - k) 0)∧Below w.heap.size w wr) (fun i _=>ys.length - (intOf i).toNat)
  case atStart =>
   refine ⟨0,List.replicate xs.length 0,by omega,rfl,⟨by simp,M.Low.replicate _ _ Bm,by simp [M.val,M.val_replicate]⟩,?_,hbel⟩
   rw [HN.out,← List.replicate_append_replicate] at hblk
   simpa using hblk
  case round =>
   obtain ⟨k,u,hk,rfl,hat,hblk',hbel'⟩:=hrel
   have hul:u.length=xs.length+k:=hat.1
   by_cases hlt':k<ys.length
   ·obtain ⟨b1,o1,rfl,q1⟩:=hb0.at hbel' hlt'
    have hpl:(u.take k).length=k:=by simp;omega
    have hc50:=On w.heap.size (u.take k) (u.drop k) (List.replicate (ys.length - k) 0) (.slice a xs.length ca) xs (lm ys k) xs.length wr (by rw [List.take_append_drop];exact hblk') (by simp;omega) (ha0.apart hbel' (Nat.le_refl _)) (hat.2.1.drop k) la (Ci Bm lb k) (Nat.le_refl _) (by omega)
    rw [hpl] at hc50
    have H50:=Ba hc50
    have HR:Hid (ys.length - k=(ys.length - (k+1))+1):=by show _=_;omega
    have hn0:(0:Int)≤(k:Int):=by omega
    have hkn:k+xs.length<n:=by have:=HN.out;omega
    have HPL:Hid ((u.take k).length=k):=hpl
    clear hc50 hpl hblk hbel
    go_wp2_with fail
    refine H50.out.mono ?_
    rintro e w3 ⟨s',c,rfl,hb3,hs3,hl3,hc3,hv3,ho3⟩
    have hst:=hat.step hs3 hl3 hc3 hv3
    have hbel3:=ho3.b hbel' (Jb _)
    rw [HR.out,List.replicate_succ] at hb3
    have hc1:=hb3.cell (j:=k+xs.length) (by have:=HPL.out;simp;omega)
    have hf1:=hb3.o (k+xs.length)
    have hset:=hb3.set (k+xs.length) c
    have e1:k+xs.length=(u.take k).length+s'.length:=by rw [HPL.out,hs3]
    have e2:=En (u.take k) s' (List.replicate (ys.length - (k+1)) 0) [] 0 c
    rw [← e1,List.append_nil,List.append_nil] at e2
    rw [e2,← List.append_assoc] at hset
    have HST:Hid (PAt xs ys (u.take k ++ s' ++ [c]) (k+1)):=hst
    have HSET:Hid (Cm (w3.setCell ⟨w.heap.size,k+xs.length,none⟩ (.int .u64 (c:Nat))) w.heap.size (u.take k ++ s' ++ [c] ++ List.replicate (ys.length - (k+1)) 0)):=hset
    clear hset hst e1 e2 hv3 hb3 H50
    go_wp2
    go_roundw
    case rel=>exact ⟨k+1,_,by omega,by go_num,HST.out,HSET.out,hbel3.setCell (Jb _) _⟩
    case measure=>simp [intOf];omega
   ·have HKE:Hid (k=ys.length):=by show _=_;omega
    have h3:=hat.2.2
    rw [HKE.out,M.val_take_all _ _ _ (Jb _)] at h3
    have H3:Hid (M.val Bb u=M.val Bb xs*M.val Bb ys):=h3
    have hblk4:Cm wr w.heap.size u:=by
     rw [HKE.out] at hblk'
     simpa using hblk'
    have HU:Hid (u.length=n):=by show _=_;rw [HN.out,hul,HKE.out]
    clear h3 hblk' hblk hbel hul
    go_wp2
    go_ret
    exact ⟨w.heap.size,u,by rw [HU.out];rfl,hblk4,HU.out,hat.2.1,H3.out,Jb _,hbel'⟩
 ·go_enter Tryz.func180,Tryz.ntmps180
  go_wp2_with (at_make;refine Cn rfl _ _ rfl _ n rfl rfl (by have:=HN.out;omega) (by omega) ?_;intro w2 hblk hbel)
  go_loopw [55] (fun i wr=>∃ (k:Nat) (u:List Nat),k≤ys.length∧i=.int .i64 k∧PAt xs ys u k∧Cm wr w.heap.size (u ++ List.replicate (ys.length - k) 0)∧Below w.heap.size w wr) (fun i _=>ys.length - (intOf i).toNat)
  case atStart =>
   refine ⟨0,List.replicate xs.length 0,by omega,rfl,⟨by simp,M.Low.replicate _ _ Bm,by simp [M.val,M.val_replicate]⟩,?_,hbel⟩
   rw [HN.out,← List.replicate_append_replicate] at hblk
   simpa using hblk
  case round =>
   obtain ⟨k,u,hk,rfl,hat,hblk',hbel'⟩:=hrel
   have hul:u.length=xs.length+k:=hat.1
   by_cases hlt':k<ys.length
   ·obtain ⟨b1,o1,rfl,q1⟩:=hb0.at hbel' hlt'
    have hpl:(u.take k).length=k:=by simp;omega
    have hc50:=On w.heap.size (u.take k) (u.drop k) (List.replicate (ys.length - k) 0) (.slice a xs.length ca) xs (lm ys k) xs.length wr (by rw [List.take_append_drop];exact hblk') (by simp;omega) (ha0.apart hbel' (Nat.le_refl _)) (hat.2.1.drop k) la (Ci Bm lb k) (Nat.le_refl _) (by omega)
    rw [hpl] at hc50
    have H50:=Ba hc50
    have HR:Hid (ys.length - k=(ys.length - (k+1))+1):=by show _=_;omega
    have hn0:(0:Int)≤(k:Int):=by omega
    have hkn:k+xs.length<n:=by have:=HN.out;omega
    have HPL:Hid ((u.take k).length=k):=hpl
    clear hc50 hpl hblk hbel
    go_wp2_with fail
    refine H50.out.mono ?_
    rintro e w3 ⟨s',c,rfl,hb3,hs3,hl3,hc3,hv3,ho3⟩
    have hst:=hat.step hs3 hl3 hc3 hv3
    have hbel3:=ho3.b hbel' (Jb _)
    rw [HR.out,List.replicate_succ] at hb3
    have hc1:=hb3.cell (j:=k+xs.length) (by have:=HPL.out;simp;omega)
    have hf1:=hb3.o (k+xs.length)
    have hset:=hb3.set (k+xs.length) c
    have e1:k+xs.length=(u.take k).length+s'.length:=by rw [HPL.out,hs3]
    have e2:=En (u.take k) s' (List.replicate (ys.length - (k+1)) 0) [] 0 c
    rw [← e1,List.append_nil,List.append_nil] at e2
    rw [e2,← List.append_assoc] at hset
    have HST:Hid (PAt xs ys (u.take k ++ s' ++ [c]) (k+1)):=hst
    have HSET:Hid (Cm (w3.setCell ⟨w.heap.size,k+xs.length,none⟩ (.int .u64 (c:Nat))) w.heap.size (u.take k ++ s' ++ [c] ++ List.replicate (ys.length - (k+1)) 0)):=hset
    clear hset hst e1 e2 hv3 hb3 H50
    go_wp2
    go_roundw
    case rel=>exact ⟨k+1,_,by omega,by go_num,HST.out,HSET.out,hbel3.setCell (Jb _) _⟩
    case measure=>simp [intOf];omega
   ·have HKE:Hid (k=ys.length):=by show _=_;omega
    have h3:=hat.2.2
    rw [HKE.out,M.val_take_all _ _ _ (Jb _)] at h3
    have H3:Hid (M.val Bb u=M.val Bb xs*M.val Bb ys):=h3
    have hblk4:Cm wr w.heap.size u:=by
     rw [HKE.out] at hblk'
     simpa using hblk'
    have HU:Hid (u.length=n):=by show _=_;rw [HN.out,hul,HKE.out]
    clear h3 hblk' hblk hbel hul
    go_wp2
    go_ret
    exact ⟨w.heap.size,u,by rw [HU.out];rfl,hblk4,HU.out,hat.2.1,H3.out,Jb _,hbel'⟩
def Bez (x c:Nat):Nat:=(2*x+c) % Bp
def Be0 (x c:Nat):Nat:=(2*x+c) / Bp
def Bls (xs zs:List Nat) (b k c:Nat):Prop:=zs.length=k∧M.Low Bp zs∧c≤1∧M.val Bp zs+Bp ^ k*c=2*M.val Bp (xs.take k)+b
theorem Bls.step {xs zs:List Nat} {b k c:Nat} (la:M.Low Bp xs) (h:Bls xs zs b k c):Bls xs (zs ++ [Bez (lm xs k) c]) b (k+1) (Be0 (lm xs k) c):=by
 obtain ⟨h1,h2,h3,h4⟩:=h
 have b1:lm xs k<Bp:=Ci Ca la k
 refine ⟨by simp [h1],h2.snoc (Nat.mod_lt _ Ca),?_,?_⟩
 ·unfold Be0;unfold Bp at *;omega
 rw [M.val_snoc,h1,M.val_take_succ,Nat.pow_succ]
 have e:Bez (lm xs k) c+Bp*Be0 (lm xs k) c=2*lm xs k+c:=Nat.mod_add_div _ _
 have e2:Bp ^ k*(Bez (lm xs k) c+Bp*Be0 (lm xs k) c)=Bp ^ k*(2*lm xs k+c):=by rw [e]
 have e3:Bp ^ k*(2*lm xs k)=2*(Bp ^ k*lm xs k):=Nat.mul_left_comm _ _ _
 simp only [Nat.mul_add,← Nat.mul_assoc] at e2
 show _=2*(_+Bp ^ k*lm xs k)+_
 rw [Nat.mul_assoc _ 2] at e2
 rw [Nat.mul_add]
 omega
theorem Xg (va:Value) (xs:List Nat) (b:Nat) (w:World) (ha:Rd w va xs) (la:M.Low Bp xs) (hb:b≤1) (hx:xs.length≤100000) :
  Calls Tryz.prog 160 #[va,.int .u64 (b:Nat)] w fun e w'=>∃ v,e=.returned v∧Rd w' v (M.digs Bp (2*M.val Bp xs+b))∧Below w.heap.size w w':=by
 have ha0:=ha
 obtain ⟨a,ca,rfl,hca,-⟩:=ha
 obtain ⟨n,hn⟩:∃ n,n=xs.length:=⟨_,rfl⟩
 rw [← hn] at ha0 hca hx ⊢
 have HN:=Ba hn
 clear hn
 go_enter Tryz.func160,Tryz.ntmps160
 go_wp2_with (at_make;refine Cn rfl _ _ rfl _ (n+1) rfl rfl (by omega) (by omega) ?_;intro w2 hblk hbel)
 go_loopw [1,6] (fun c i wr=>∃ (k cc:Nat) (zs:List Nat),k≤n∧i=.int .i64 k∧c=.int .u64 cc∧Bls xs zs b k cc∧Cm wr w.heap.size (zs ++ List.replicate (n+1 - k) 0)∧Below w.heap.size w wr) (fun _ i _=>n - (intOf i).toNat)
 case atStart=>exact ⟨0,b,[],by omega,rfl,rfl,⟨rfl,M.Low.nil _,hb,by simp [M.val]⟩,by simpa using hblk,hbel⟩
 case round =>
  obtain ⟨k,cc,zs,hk,rfl,rfl,hat,hblk',hbel'⟩:=hrel
  have hcc:cc≤1:=hat.2.2.1
  have hzl:zs.length=k:=hat.1
  have hc1:=hblk'.cell (j:=k) (by rw [Ji,List.length_replicate,hzl];omega)
  have hf1:=hblk'.o k
  have hs:∀ y,Cm (wr.setCell ⟨w.heap.size,k,none⟩ (.int .u64 (y:Nat))) w.heap.size ((zs ++ [y]) ++ List.replicate (n - k) 0):=fun y=>by
   have h:=hblk'.set k y
   rw [show n+1 - k=(n - k)+1 by omega] at h
   have e:=M.set_append_replicate zs (n - k) y
   rw [hzl] at e
   rwa [e] at h
  have HS:=Ba hs
  clear hs
  have hkn:(k:Int)<(n:Int)+1:=by omega
  by_cases hlt:k<n
  ·have HST:=Ba (hat.step la)
   have b1:lm xs k<4294967296:=Ci Ca la k
   obtain ⟨b1',o1,rfl,q1⟩:=ha0.at hbel' (j:=k) (by rw [← HN.out];exact hlt)
   have HSB:=Ba (HS.out (Bez (lm xs k) cc))
   clear HS
   go_wp2
   rw [show ((2:Int)*(lm xs k:Int)+(cc:Int)) % 4294967296=((Bez (lm xs k) cc:Nat):Int) by unfold Bez Bp;omega,show ((2:Int)*(lm xs k:Int)+(cc:Int)) / 4294967296=((Be0 (lm xs k) cc:Nat):Int) by unfold Be0 Bp;omega]
   exact ⟨⟨k+1,_,_,by omega,by go_num,rfl,HST.out,(by have:=HSB.out;rwa [show n - k=n+1 - (k+1) by omega] at this),hbel'.setCell (Jb _) _⟩,by simp [intOf];omega⟩
  ·have hke:k=n:=by omega
   subst hke
   obtain ⟨h1,h2,h3,h4⟩:=hat
   rw [HN.out,M.val_take_all _ _ _ (Jb _),← HN.out] at h4
   have hfin:M.val Bp (zs ++ [cc])=2*M.val Bp xs+b:=by rw [M.val_snoc,h1];exact h4
   have hsb:=HS.out cc
   rw [Nat.sub_self,List.replicate_zero,List.append_nil] at hsb
   have hrd:Rd (wr.setCell ⟨w.heap.size,k,none⟩ (.int .u64 (cc:Nat))) (.slice (some ⟨w.heap.size,0,none⟩) (k+1) (k+1)) (zs ++ [cc]):=by
    have:=hsb.rd0 (k+1) (by simp;omega)
    simpa [hzl] using this
   have HF:=Ba hfin
   have hl2:M.Low Bp (zs ++ [cc]):=h2.snoc (by unfold Bp;omega)
   have hlen:(zs ++ [cc]).length≤1000000:=by rw [Ji,h1];simp;omega
   have hbel3:=hbel'.setCell (p:=⟨w.heap.size,k,none⟩) (Jb _) (.int .u64 (cc:Nat))
   clear hfin h4 HS hsb
   go_wp2_with fail
   refine (Fj Bp Bl _ _ (zs ++ [cc]) hrd hl2 hlen).mono ?_
   rintro e w' ⟨v',rfl,hv',rfl⟩
   go_wp2
   go_ret
   exact ⟨_,rfl,by rw [← HF.out];exact hv',hbel3⟩
def mO (l y o c:Nat):Nat:=(l*y+o+c) % Bp
def mC (l y o c:Nat):Nat:=(l*y+o+c) / Bp
theorem Bj1 {l y o c:Nat} (hl:l<Bp) (hy:y<Bp) (ho:o<Bp) (hc:c<Bp):mO l y o c<Bp∧mC l y o c<Bp∧mO l y o c+Bp*mC l y o c=l*y+o+c:=by
 have hp:l*y≤4294967295*4294967295:=Nat.mul_le_mul (by unfold Bp at hl;omega) (by unfold Bp at hy;omega)
 refine ⟨Nat.mod_lt _ Ca,?_,Nat.mod_add_div _ _⟩
 unfold mC
 generalize l*y=P at *
 unfold Bp at *;omega
def MAt (ys s d:List Nat) (l k cc:Nat):Prop:=d.length=k∧M.Low Bp d∧cc<Bp∧M.val Bp d+Bp ^ k*cc=M.val Bp (s.take k)+l*M.val Bp (ys.take k)
theorem MAt.step {ys s d:List Nat} {l k cc:Nat} (ly:M.Low Bp ys) (ls:M.Low Bp s) (hl:l<Bp) (h:MAt ys s d l k cc) :
  MAt ys s (d ++ [mO l (lm ys k) (lm s k) cc]) l (k+1) (mC l (lm ys k) (lm s k) cc):=by
 obtain ⟨h1,h2,h3,h4⟩:=h
 obtain ⟨f1,f2,f3⟩:=Bj1 hl (Ci Ca ly k) (Ci Ca ls k) h3
 refine ⟨by simp [h1],h2.snoc f1,f2,?_⟩
 rw [M.val_snoc,h1,M.val_take_succ,M.val_take_succ,Nat.pow_succ]
 have e2:Bp ^ k*(mO l (lm ys k) (lm s k) cc+Bp*mC l (lm ys k) (lm s k) cc)=Bp ^ k*(l*lm ys k+lm s k+cc):=by rw [f3]
 simp only [Nat.mul_add,← Nat.mul_assoc] at e2
 show _=_+Bp ^ k*lm s k+l*(_+Bp ^ k*lm ys k)
 rw [Nat.mul_add,← Nat.mul_assoc l,Nat.mul_comm l (Bp ^ k)]
 omega
def Blq (xs ys u:List Nat) (i:Nat):Prop:=u.length=ys.length+i∧M.Low Bp u∧M.val Bp u=M.val Bp (xs.take i)*M.val Bp ys
theorem Blq.step {xs ys u d:List Nat} {i c:Nat} (h:Blq xs ys u i) (hd:MAt ys (u.drop i) d (lm xs i) ys.length c):Blq xs ys (u.take i ++ d ++ [c]) (i+1):=by
 obtain ⟨h1,h2,h3⟩:=h
 obtain ⟨g1,g2,g3,g4⟩:=hd
 refine ⟨by simp;omega,((h2.take i).append g2).snoc g3,?_⟩
 have e3:(u.take i).length=i:=by simp;omega
 have e1:(u.take i ++ d).length=i+ys.length:=by rw [Ji,e3,g1]
 have e2:=C5 Bp u i (by omega)
 rw [M.val_take_all _ (u.drop i) _ (by simp;omega),M.val_take_all _ ys _ (Nat.le_refl _)] at g4
 rw [M.val_snoc,e1,M.val_append,M.val_take_succ,Nat.add_mul,← h3,e2,Nat.pow_add,e3]
 have e4:Bp ^ i*(M.val Bp d+Bp ^ ys.length*c)=Bp ^ i*(M.val Bp (u.drop i)+lm xs i*M.val Bp ys):=by rw [g4]
 rw [Nat.mul_add,Nat.mul_add,← Nat.mul_assoc,← Nat.mul_assoc] at e4
 show _=_+_+Bp ^ i*lm xs i*M.val Bp ys
 omega
theorem Bj2 (l y o c:Nat):((l:Int)*(y:Int)+(o:Int)+(c:Int)) % 4294967296=((mO l y o c:Nat):Int):=by
 have e:((l*y+o+c:Nat):Int)=(l:Int)*(y:Int)+(o:Int)+(c:Int):=by rw [Int.natCast_add,Int.natCast_add,Int.natCast_mul]
 rw [← e];unfold mO Bp;generalize l*y+o+c=t;omega
theorem Bj3 (l y o c:Nat):((l:Int)*(y:Int)+(o:Int)+(c:Int)) / 4294967296=((mC l y o c:Nat):Int):=by
 have e:((l*y+o+c:Nat):Int)=(l:Int)*(y:Int)+(o:Int)+(c:Int):=by rw [Int.natCast_add,Int.natCast_add,Int.natCast_mul]
 rw [← e];unfold mC Bp;generalize l*y+o+c=t;omega
theorem Bf6 (va vb:Value) (xs ys:List Nat) (w:World) (ha:Rd w va xs) (hb:Rd w vb ys) (la:M.Low Bp xs) (lb:M.Low Bp ys) (hx:xs.length≤100000) (hy:ys.length≤100000) :
  Calls Tryz.prog 135 #[va,vb] w fun e w'=>∃ v,e=.returned v∧Rd w' v (M.digs Bp (M.val Bp xs*M.val Bp ys))∧Below w.heap.size w w':=by
 have ha0:=ha
 have hb0:=hb
 obtain ⟨a,ca,rfl,hca,-⟩:=ha
 obtain ⟨b,cb,rfl,hcb,-⟩:=hb
 obtain ⟨n,hn⟩:∃ n,n=xs.length+ys.length:=⟨_,rfl⟩
 have HN:Hid (n=xs.length+ys.length):=hn
 have hnb:n≤200000:=by omega
 clear hn
 go_enter Tryz.func135,Tryz.ntmps135
 go_wp2_with (at_make;refine Cn rfl _ _ rfl _ n rfl rfl (by have:=HN.out;omega) (by omega) ?_;intro w2 hblk hbel)
 go_loopw [6] (fun i wr=>∃ (k:Nat) (u:List Nat),k≤xs.length∧i=.int .i64 k∧Blq xs ys u k∧Cm wr w.heap.size (u ++ List.replicate (xs.length - k) 0)∧Below w.heap.size w wr) (fun i _=>xs.length - (intOf i).toNat)
 case atStart =>
  refine ⟨0,List.replicate ys.length 0,by omega,rfl,⟨by simp,M.Low.replicate _ _ Ca,by simp [M.val,M.val_replicate]⟩,?_,hbel⟩
  rw [HN.out,Nat.add_comm,← List.replicate_append_replicate] at hblk
  simpa using hblk
 case round =>
  obtain ⟨i,u,hi,rfl,hat,hblk',hbel'⟩:=hrel
  have hul:u.length=ys.length+i:=hat.1
  by_cases hlt:i<xs.length
  ·obtain ⟨ab,ao,rfl,qa⟩:=ha0.at hbel' hlt
   have hxl:=Ci Ca la i
   have hpl:(u.take i).length=i:=by simp;omega
   have hsl:(u.drop i).length=ys.length:=by simp;omega
   have lsd:=hat.2.1.drop i
   have hin:i+ys.length<n:=by have:=HN.out;omega
   go_wp2
   go_loopw [7,8] (fun c k wq=>∃ (kk cc:Nat) (d:List Nat),kk≤ys.length∧k=.int .i64 kk∧c=.int .u64 cc∧MAt ys (u.drop i) d (lm xs i) kk cc∧Cm wq w.heap.size (u.take i ++ d ++ (u.drop i).drop kk ++ List.replicate (xs.length - i) 0)∧Below w.heap.size w wq) (fun _ k _=>ys.length - (intOf k).toNat)
   case atStart=>exact ⟨0,0,[],by omega,rfl,rfl,⟨rfl,M.Low.nil _,Ca,by simp [M.val]⟩,by simpa using hblk',hbel'⟩
   case round =>
    obtain ⟨k,cc,d,hk,rfl,rfl,hmt,hbk,hbb⟩:=hrel
    have hdl:d.length=k:=hmt.1
    have hcc:cc<Bp:=hmt.2.2.1
    by_cases hlk:k<ys.length
    ·obtain ⟨ab',ao',ha',qa'⟩:=ha0.at hbb hlt
     simp at ha'
     obtain ⟨rfl,rfl⟩:=ha'
     obtain ⟨b1,b0,rfl,qb⟩:=hb0.at hbb hlk
     rw [Eo _ k (by rw [hsl];exact hlk)] at hbk
     have hc1:=hbk.cell (j:=i+k) (by simp;omega)
     have hf1:=hbk.o (i+k)
     have e0:i+k=(u.take i).length+d.length:=by rw [hpl,hdl]
     rw [e0,Gi,← e0] at hc1
     generalize ho:lm (u.drop i) k=o at *
     have hol:o<Bp:=by rw [← ho];exact Ci Ca lsd k
     have hyl:=Ci Ca lb k
     have hst:=hmt.step lb lsd hxl
     rw [ho] at hst
     have hset:=hbk.set (i+k) (mO (lm xs i) (lm ys k) o cc)
     rw [e0,En,← e0] at hset
     have p0:(0:Int)≤(lm xs i:Int)*(lm ys k:Int):=Int.mul_nonneg (by omega) (by omega)
     have p1:(lm xs i:Int)*(lm ys k:Int)≤18446744065119617025:=by
      have:=Nat.mul_le_mul (show lm xs i≤4294967295 by unfold Bp at hxl;omega) (show lm ys k≤4294967295 by unfold Bp at hyl;omega)
      have h2:((lm xs i*lm ys k:Nat):Int)≤((4294967295*4294967295:Nat):Int):=by exact_mod_cast this
      rw [Int.natCast_mul] at h2
      exact h2
     have HST:=Ba hst
     have HSET:=Ba hset
     have hol':(o:Int)<4294967296:=by unfold Bp at hol;omega
     have hcc':(cc:Int)<4294967296:=by unfold Bp at hcc;omega
     have hik:(i:Int)+(k:Int)<(n:Int):=by have:=HN.out;omega
     have hli:(i:Int)<(xs.length:Int):=by omega
     have hlk':(k:Int)<(ys.length:Int):=by omega
     have HO:=Ba ho
     clear hst hset e0 ho
     go_wp2
     go_quiet (fail)
     go_wp2
     rw [Bj2,Bj3]
     refine ⟨⟨k+1,_,_,by omega,by go_num,rfl,HST.out,?_,(below_drewN hbb _).setCell (Jb _) _⟩,by simp [intOf];omega⟩
     have h:=HSET.out
     rw [List.drop_drop,Nat.add_comm i,← Nat.add_comm i,← List.drop_drop] at h
     exact h
    ·have hke:k=ys.length:=by omega
     subst hke
     have hst:=hat.step hmt
     rw [List.drop_of_length_le (by rw [hsl];exact Jb _),List.append_nil] at hbk
     have HR:Hid (xs.length - i=(xs.length - (i+1))+1):=by show _=_;omega
     rw [HR.out,List.replicate_succ] at hbk
     have hc1:=hbk.cell (j:=i+ys.length) (by simp;omega)
     have hf1:=hbk.o (i+ys.length)
     have hset:=hbk.set (i+ys.length) cc
     have e1:i+ys.length=(u.take i).length+d.length:=by rw [hpl,hdl]
     have e2:=En (u.take i) d (List.replicate (xs.length - (i+1)) 0) [] 0 cc
     rw [← e1,List.append_nil,List.append_nil] at e2
     rw [e2,← List.append_assoc] at hset
     have HST:=Ba hst
     have HSET:=Ba hset
     clear hst hset e1 e2 hblk' hblk hbel hmt hdl
     go_wp2
     refine ⟨⟨i+1,_,by omega,by go_num,HST.out,HSET.out,hbb.setCell (Jb _) _⟩,by simp [intOf];omega⟩
  ·have hie:i=xs.length:=by omega
   subst hie
   have h3:=hat.2.2
   rw [M.val_take_all _ _ _ (Jb _)] at h3
   have H3:=Ba h3
   have hrd:Rd wr (.slice (some ⟨w.heap.size,0,none⟩) n n) u:=by
    have h:=hblk'.rd0 n (by simp;have:=HN.out;omega)
    simp only [Nat.sub_self,List.replicate_zero,List.append_nil] at h
    rwa [hul,Nat.add_comm,← HN.out] at h
   have hub:u.length≤1000000:=by omega
   clear h3 hblk hbel hblk' hul
   go_wp2_with fail
   refine (Fj Bp Bl _ _ u hrd hat.2.1 hub).mono ?_
   rintro e w' ⟨v',rfl,hv',rfl⟩
   go_wp2
   go_ret
   exact ⟨_,rfl,by rw [← H3.out];exact hv',hbel'⟩
end Go.Proofs.YtnplifkgeeicjaaGreatDoor
