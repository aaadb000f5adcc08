import Derived.Test.YtnplifkgeeicjaaGreatDoorV06
set_option maxHeartbeats 1000000
namespace Go.Proofs.YtnplifkgeeicjaaGreatDoor
open Go.RowKit
theorem Rd.at {w w':World} {a:Option Addr} {n cap:Nat} {xs:List Nat} (h:Rd w (.slice a n cap) xs) (hb:Below w.heap.size w w') {j:Nat} (hj:j<xs.length) :
  ∃ b off,a=some ⟨b,off,none⟩∧w'.cell? ⟨b,off+j,none⟩=some (.int .u64 (lm xs j:Nat)):=by
 obtain ⟨a',c',e,_,h'⟩:=h.b hb
 simp only [Value.slice.injEq] at e
 obtain ⟨rfl,rfl,rfl⟩:=e
 exact h' j hj
theorem Xi (bs:Nat) (hbs:0<bs) (va vb:Value) (xs ys:List Nat) (w:World) (ha:Rd w va xs) (hb:Rd w vb ys) (la:M.Low bs xs) (lb:M.Low bs ys) (ta:M.Trim xs) (tb:M.Trim ys) (hx:xs.length≤100000) :
  Calls Tryz.prog 142 #[va,vb] w (Re w (.int .i64 (Er (M.val bs xs) (M.val bs ys)))):=by
 have ha0:=ha
 have hb0:=hb
 obtain ⟨a,ca,rfl,hca,-⟩:=ha
 obtain ⟨b,cb,rfl,hcb,-⟩:=hb
 rcases Nat.lt_trichotomy xs.length ys.length with h | h | h
 ·have HV:Hid (Er (M.val bs xs) (M.val bs ys)=-1):=Kw (M.lt_of_length hbs la tb h)
  go_enter Tryz.func142,Tryz.ntmps142
  go_wp2
  go_ret
  exact ⟨by rw [HV.out];rfl,Jg _ _⟩
 ·have HL:Hid (xs.length=ys.length):=h
  rw [← h] at hb0 hcb ⊢
  clear h
  go_enter Tryz.func142,Tryz.ntmps142
  go_wp2
  go_loopw [5] (fun i wr=>∃ k:Nat,k≤xs.length∧i=.int .i64 ((k:Int) - 1)∧(∀ j,k≤j→lm xs j=lm ys j)∧Below w.heap.size w wr) (fun i _=>(intOf i+1).toNat)
  case atStart=>exact ⟨xs.length,Jb _,rfl,fun j hj=>by rw [Ek hj,Ek (by have:=HL.out;omega)],Jg _ _⟩
  case round =>
   obtain ⟨k,hk,rfl,heq,hbel⟩:=hrel
   have HE:Hid (∀ j,k≤j→lm xs j=lm ys j):=heq
   clear heq
   match k with
   | 0 =>
    have HV:Hid (Er (M.val bs xs) (M.val bs ys)=0):=Oh (M.val_ext _ (fun j=>HE.out j (by omega)))
    go_wp2
    go_ret
    exact ⟨by rw [HV.out];rfl,hbel⟩
   | k+1 =>
    have e1:(((k+1:Nat):Int) - 1)=(k:Int):=by omega
    rw [e1]
    obtain ⟨b1,o1,rfl,q1⟩:=ha0.at hbel (j:=k) (by omega)
    obtain ⟨b2,o2,rfl,q2⟩:=hb0.at hbel (j:=k) (by have:=HL.out;omega)
    have hk':(k:Int)<xs.length:=by omega
    rcases Nat.lt_trichotomy (lm xs k) (lm ys k) with h | h | h
    ·have HV:Hid (Er (M.val bs xs) (M.val bs ys)=-1):=Kw (M.lt_of_top hbs k la (fun j hj=>HE.out j (by omega)) h)
     go_wp2
     go_quiet (fail)
     go_wp2
     go_ret
     exact ⟨by rw [HV.out];rfl,below_drewN hbel _⟩
    ·have HQ:Hid (lm xs k=lm ys k):=h
     have h1:¬ lm xs k<lm ys k:=by omega
     have h2:¬ lm ys k<lm xs k:=by omega
     clear h
     go_wp2
     go_quiet (fail)
     go_wp2
     go_quiet (fail)
     go_wp2
     refine ⟨⟨k,by omega,by go_num,fun j hj=>?_,below_drewN hbel _⟩,by simp [intOf]⟩
     by_cases e:j=k
     ·subst e;exact HQ.out
     ·exact HE.out j (by omega)
    ·have HV:Hid (Er (M.val bs xs) (M.val bs ys)=1):=Mf (M.lt_of_top hbs k lb (fun j hj=>(HE.out j (by omega)).symm) h)
     have h1:¬ lm xs k<lm ys k:=by omega
     go_wp2
     go_quiet (fail)
     go_wp2
     go_quiet (fail)
     go_wp2
     go_ret
     exact ⟨by rw [HV.out];rfl,below_drewN (below_drewN hbel _) _⟩
 ·have HV:Hid (Er (M.val bs xs) (M.val bs ys)=1):=Mf (M.lt_of_length hbs lb ta h)
  have h1:¬ xs.length<ys.length:=by omega
  go_enter Tryz.func142,Tryz.ntmps142
  go_wp2
  go_ret
  exact ⟨by rw [HV.out];rfl,Jg _ _⟩
def Mk (x y c:Nat):Nat:=(x+y+c) % Bp
def Pe (x y c:Nat):Nat:=(x+y+c) / Bp
def RAt (xs ys zs:List Nat) (k c:Nat):Prop:=zs.length=k∧M.Low Bp zs∧c≤1∧M.val Bp zs+Bp ^ k*c=M.val Bp (xs.take k)+M.val Bp (ys.take k)
theorem RAt.step {xs ys zs:List Nat} {k c:Nat} (la:M.Low Bp xs) (lb:M.Low Bp ys) (h:RAt xs ys zs k c):RAt xs ys (zs ++ [Mk (lm xs k) (lm ys k) c]) (k+1) (Pe (lm xs k) (lm ys k) c):=by
 obtain ⟨h1,h2,h3,h4⟩:=h
 have b1:lm xs k<Bp:=Ci Ca la k
 have b2:lm ys k<Bp:=Ci Ca lb k
 refine ⟨by simp [h1],h2.snoc (Nat.mod_lt _ Ca),?_,?_⟩
 ·unfold Pe;unfold Bp at *;omega
 rw [M.val_snoc,h1,M.val_take_succ,M.val_take_succ,Nat.pow_succ]
 have e:Mk (lm xs k) (lm ys k) c+Bp*Pe (lm xs k) (lm ys k) c=lm xs k+lm ys k+c:=Nat.mod_add_div _ _
 have e2:Bp ^ k*(Mk (lm xs k) (lm ys k) c+Bp*Pe (lm xs k) (lm ys k) c)=Bp ^ k*(lm xs k+lm ys k+c):=by rw [e]
 simp only [Nat.mul_add,← Nat.mul_assoc] at e2
 show _=_+Bp ^ k*lm xs k+(_+Bp ^ k*lm ys k)
 omega
theorem Xj (va vb:Value) (xs ys:List Nat) (w:World) (ha:Rd w va xs) (hb:Rd w vb ys) (la:M.Low Bp xs) (lb:M.Low Bp ys) (hx:xs.length≤100000) (hy:ys.length≤100000) :
  Calls Tryz.prog 141 #[va,vb] w fun e w'=>∃ v,e=.returned v∧Rd w' v (M.digs Bp (M.val Bp xs+M.val Bp ys))∧Below w.heap.size w w':=by
 have ha0:=ha
 have hb0:=hb
 obtain ⟨a,ca,rfl,hca,-⟩:=ha
 obtain ⟨b,cb,rfl,hcb,-⟩:=hb
 obtain ⟨n,hn⟩:∃ n,n=max xs.length ys.length:=⟨_,rfl⟩
 have hxn:xs.length≤n:=by omega
 have hyn:ys.length≤n:=by omega
 have hn4:n≤100000:=by omega
 have HN:Hid (n=max xs.length ys.length):=hn
 clear hn
 go_enter Tryz.func141,Tryz.ntmps141
 go_wp2_with (at_make;refine Cn rfl _ _ rfl _ (n+1) rfl rfl (by have:=HN.out;omega) (by omega) ?_;intro w2 hblk hbel)
 all_goals
  clear h
  go_loopw [6,7] (fun c i wr=>∃ (k cc:Nat) (zs:List Nat),k≤n+1∧i=.int .i64 k∧c=.int .u64 cc∧RAt xs ys zs k cc∧Cm wr w.heap.size (zs ++ List.replicate (n+1 - k) 0)∧Below w.heap.size w wr) (fun _ i _=>n+1 - (intOf i).toNat)
  case atStart=>exact ⟨0,0,[],by omega,rfl,rfl,⟨rfl,M.Low.nil _,by omega,by simp [M.val]⟩,by simpa using hblk,hbel⟩
  case round =>
   obtain ⟨k,cc,zs,hk,rfl,rfl,hat,hblk',hbel'⟩:=hrel
   have hcc:cc≤1:=hat.2.2.1
   have hzl:zs.length=k:=hat.1
   by_cases hlt:k<n+1
   ·have hc1:=hblk'.cell (j:=k) (by simp;omega)
    have hf1:=hblk'.o k
    have hst:=hat.step la lb
    have HST:Hid (RAt xs ys (zs ++ [Mk (lm xs k) (lm ys k) cc]) (k+1) (Pe (lm xs k) (lm ys k) cc)):=hst
    have b1:lm xs k<4294967296:=Ci Ca la k
    have b2:lm ys k<4294967296:=Ci Ca lb k
    have hs:=hblk'.set k (Mk (lm xs k) (lm ys k) cc)
    rw [show n+1 - k=(n+1 - (k+1))+1 by omega] at hs
    have e:=M.set_append_replicate zs (n+1 - (k+1)) (Mk (lm xs k) (lm ys k) cc)
    rw [hzl] at e
    rw [e] at hs
    have HSB:Hid (Cm (wr.setCell ⟨w.heap.size,k,none⟩ (.int .u64 (Mk (lm xs k) (lm ys k) cc:Nat))) w.heap.size ((zs ++ [Mk (lm xs k) (lm ys k) cc]) ++ List.replicate (n+1 - (k+1)) 0)):=hs
    clear hst hs e
    by_cases h1:k<xs.length
    ·obtain ⟨b1',o1,rfl,q1⟩:=ha0.at hbel' h1
     by_cases h2:k<ys.length
     ·obtain ⟨b2',o2,rfl,q2⟩:=hb0.at hbel' h2
      go_wp2
      rw [show ((cc:Int)+(lm xs k:Int)+(lm ys k:Int)) % 4294967296=((Mk (lm xs k) (lm ys k) cc:Nat):Int) by unfold Mk Bp;omega,show ((cc:Int)+(lm xs k:Int)+(lm ys k:Int)) / 4294967296=((Pe (lm xs k) (lm ys k) cc:Nat):Int) by unfold Pe Bp;omega]
      exact ⟨⟨k+1,_,_,by omega,by go_num,rfl,HST.out,HSB.out,hbel'.setCell (Jb _) _⟩,by simp [intOf];omega⟩
     ·have Z2:Hid (lm ys k=0):=Ek (by omega)
      go_wp2
      rw [show ((cc:Int)+(lm xs k:Int)) % 4294967296=((Mk (lm xs k) (lm ys k) cc:Nat):Int) by unfold Mk Bp;have:=Z2.out;omega,show ((cc:Int)+(lm xs k:Int)) / 4294967296=((Pe (lm xs k) (lm ys k) cc:Nat):Int) by unfold Pe Bp;have:=Z2.out;omega]
      exact ⟨⟨k+1,_,_,by omega,by go_num,rfl,HST.out,HSB.out,hbel'.setCell (Jb _) _⟩,by simp [intOf];omega⟩
    ·have Z1:Hid (lm xs k=0):=Ek (by omega)
     by_cases h2:k<ys.length
     ·obtain ⟨b2',o2,rfl,q2⟩:=hb0.at hbel' h2
      go_wp2
      rw [show ((cc:Int)+(lm ys k:Int)) % 4294967296=((Mk (lm xs k) (lm ys k) cc:Nat):Int) by unfold Mk Bp;have:=Z1.out;omega,show ((cc:Int)+(lm ys k:Int)) / 4294967296=((Pe (lm xs k) (lm ys k) cc:Nat):Int) by unfold Pe Bp;have:=Z1.out;omega]
      exact ⟨⟨k+1,_,_,by omega,by go_num,rfl,HST.out,HSB.out,hbel'.setCell (Jb _) _⟩,by simp [intOf];omega⟩
     ·have Z2:Hid (lm ys k=0):=Ek (by omega)
      go_wp2
      rw [show ((cc:Int)) % 4294967296=((Mk (lm xs k) (lm ys k) cc:Nat):Int) by unfold Mk Bp;have:=Z1.out;have:=Z2.out;omega,show ((cc:Int)) / 4294967296=((Pe (lm xs k) (lm ys k) cc:Nat):Int) by unfold Pe Bp;have:=Z1.out;have:=Z2.out;omega]
      exact ⟨⟨k+1,_,_,by omega,by go_num,rfl,HST.out,HSB.out,hbel'.setCell (Jb _) _⟩,by simp [intOf];omega⟩
   ·have hke:k=n+1:=by omega
    subst hke
    have hfin:M.val Bp zs=M.val Bp xs+M.val Bp ys:=by
     have h4:=hat.2.2.2
     rw [M.val_take_all _ _ _ (by omega),M.val_take_all _ _ _ (by omega)] at h4
     exact M.carry_zero Bl la lb (by omega) (by omega) hcc h4
    have hrd:Rd wr (.slice (some ⟨w.heap.size,0,none⟩) (n+1) (n+1)) zs:=by
     have:=hblk'.rd0 (n+1) (by simp;omega)
     simpa [hzl] using this
    have HF:Hid (M.val Bp zs=M.val Bp xs+M.val Bp ys):=hfin
    clear hfin
    go_wp2_with fail
    refine (Fj Bp Bl _ _ zs hrd hat.2.1 (by omega)).mono ?_
    rintro e w' ⟨v',rfl,hv',rfl⟩
    go_wp2
    go_ret
    exact ⟨_,rfl,by rw [← HF.out];exact hv',hbel'⟩
def Fh (x y c:Nat):Nat:=(x+Bp - y - c) % Bp
def E5 (x y c:Nat):Nat:=if x<c+y then 1 else 0
theorem Bk2 {x y c:Nat} (hx:x<Bp) (hy:y<Bp) (hc:c≤1):Fh x y c+y+c=x+Bp*E5 x y c:=by
 unfold Fh E5;unfold Bp at *
 split <;> omega
def RSt (xs ys zs:List Nat) (k c:Nat):Prop:=zs.length=k∧M.Low Bp zs∧c≤1∧M.val Bp zs+M.val Bp (ys.take k)=M.val Bp (xs.take k)+Bp ^ k*c
theorem RSt.step {xs ys zs:List Nat} {k c:Nat} (la:M.Low Bp xs) (lb:M.Low Bp ys) (h:RSt xs ys zs k c):RSt xs ys (zs ++ [Fh (lm xs k) (lm ys k) c]) (k+1) (E5 (lm xs k) (lm ys k) c):=by
 obtain ⟨h1,h2,h3,h4⟩:=h
 have b1:lm xs k<Bp:=Ci Ca la k
 have b2:lm ys k<Bp:=Ci Ca lb k
 refine ⟨by simp [h1],h2.snoc (Nat.mod_lt _ Ca),?_,?_⟩
 ·unfold E5;split <;> omega
 rw [M.val_snoc,h1,M.val_take_succ,M.val_take_succ,Nat.pow_succ]
 have e:=Bk2 b1 b2 h3
 have e2:Bp ^ k*(Fh (lm xs k) (lm ys k) c+lm ys k+c)=Bp ^ k*(lm xs k+Bp*E5 (lm xs k) (lm ys k) c):=by rw [e]
 simp only [Nat.mul_add,← Nat.mul_assoc] at e2
 show _+(_+Bp ^ k*lm ys k)=_+Bp ^ k*lm xs k+_
 omega
theorem RSt.fin {xs ys zs:List Nat} {n c:Nat} (hx:xs.length≤n) (hy:ys.length≤n) (h:RSt xs ys zs n c) (hle:M.val Bp ys≤M.val Bp xs):M.val Bp zs=M.val Bp xs - M.val Bp ys:=by
 obtain ⟨h1,h2,h3,h4⟩:=h
 rw [M.val_take_all _ _ _ hx,M.val_take_all _ _ _ hy] at h4
 have e3:=M.val_lt Ca h2
 rw [h1] at e3
 generalize Bp ^ n=p at *
 have:c=0∨c=1:=by omega
 rcases this with rfl | rfl <;> omega
theorem Bf0 (va vb:Value) (xs ys:List Nat) (w:World) (ha:Rd w va xs) (hb:Rd w vb ys) (la:M.Low Bp xs) (lb:M.Low Bp ys) (hx:xs.length≤100000) (hyl:ys.length≤xs.length) (hle:M.val Bp ys≤M.val Bp xs) :
  Calls Tryz.prog 143 #[va,vb] w fun e w'=>∃ v,e=.returned v∧Rd w' v (M.digs Bp (M.val Bp xs - M.val Bp ys))∧Below w.heap.size w w':=by
 have ha0:=ha
 have hb0:=hb
 obtain ⟨a,ca,rfl,hca,-⟩:=ha
 obtain ⟨b,cb,rfl,hcb,-⟩:=hb
 have HLE:Hid (M.val Bp ys≤M.val Bp xs):=hle
 clear hle
 go_enter Tryz.func143,Tryz.ntmps143
 go_wp2_with (at_make;refine Cn rfl _ _ rfl _ xs.length rfl rfl rfl (by omega) ?_;intro w2 hblk hbel)
 go_loopw [6,7] (fun c i wr=>∃ (k cc:Nat) (zs:List Nat),k≤xs.length∧i=.int .i64 k∧c=.int .u64 cc∧RSt xs ys zs k cc∧Cm wr w.heap.size (zs ++ List.replicate (xs.length - k) 0)∧Below w.heap.size w wr) (fun _ i _=>xs.length - (intOf i).toNat)
 case atStart=>exact ⟨0,0,[],by omega,rfl,rfl,⟨rfl,M.Low.nil _,by omega,by simp [M.val]⟩,by simpa using hblk,hbel⟩
 case round =>
  obtain ⟨k,cc,zs,hk,rfl,rfl,hat,hblk',hbel'⟩:=hrel
  have hcc:cc≤1:=hat.2.2.1
  have hzl:zs.length=k:=hat.1
  by_cases hlt:k<xs.length
  ·have hc1:=hblk'.cell (j:=k) (by simp;omega)
   have hf1:=hblk'.o k
   have hst:=hat.step la lb
   have HST:Hid (RSt xs ys (zs ++ [Fh (lm xs k) (lm ys k) cc]) (k+1) (E5 (lm xs k) (lm ys k) cc)):=hst
   have b1:lm xs k<4294967296:=Ci Ca la k
   have b2:lm ys k<4294967296:=Ci Ca lb k
   have hs:=hblk'.set k (Fh (lm xs k) (lm ys k) cc)
   rw [show xs.length - k=(xs.length - (k+1))+1 by omega] at hs
   have e:=M.set_append_replicate zs (xs.length - (k+1)) (Fh (lm xs k) (lm ys k) cc)
   rw [hzl] at e
   rw [e] at hs
   have HSB:Hid (Cm (wr.setCell ⟨w.heap.size,k,none⟩ (.int .u64 (Fh (lm xs k) (lm ys k) cc:Nat))) w.heap.size ((zs ++ [Fh (lm xs k) (lm ys k) cc]) ++ List.replicate (xs.length - (k+1)) 0)):=hs
   clear hst hs e
   obtain ⟨b1',o1,rfl,q1⟩:=ha0.at hbel' hlt
   by_cases h2:k<ys.length
   ·obtain ⟨b2',o2,rfl,q2⟩:=hb0.at hbel' h2
    by_cases h3:lm xs k<cc+lm ys k
    ·go_wp2
     rw [show (lm xs k:Int)+4294967296 - ((cc:Int)+(lm ys k:Int))=((Fh (lm xs k) (lm ys k) cc:Nat):Int) by unfold Fh Bp;omega]
     exact ⟨⟨k+1,E5 (lm xs k) (lm ys k) cc,_,by omega,by go_num,by rw [show E5 (lm xs k) (lm ys k) cc=1 by unfold E5;rw [if_pos h3]];rfl,HST.out,HSB.out,hbel'.setCell (Jb _) _⟩,by simp [intOf];omega⟩
    ·go_wp2
     rw [show (lm xs k:Int) - ((cc:Int)+(lm ys k:Int))=((Fh (lm xs k) (lm ys k) cc:Nat):Int) by unfold Fh Bp;omega]
     exact ⟨⟨k+1,E5 (lm xs k) (lm ys k) cc,_,by omega,by go_num,by rw [show E5 (lm xs k) (lm ys k) cc=0 by unfold E5;rw [if_neg h3]];rfl,HST.out,HSB.out,hbel'.setCell (Jb _) _⟩,by simp [intOf];omega⟩
   ·have Z2:Hid (lm ys k=0):=Ek (by omega)
    by_cases h3:lm xs k<cc
    ·go_wp2
     rw [show (lm xs k:Int)+4294967296 - (cc:Int)=((Fh (lm xs k) (lm ys k) cc:Nat):Int) by unfold Fh Bp;have:=Z2.out;omega]
     exact ⟨⟨k+1,E5 (lm xs k) (lm ys k) cc,_,by omega,by go_num,by rw [show E5 (lm xs k) (lm ys k) cc=1 by unfold E5;rw [if_pos (by omega)]];rfl,HST.out,HSB.out,hbel'.setCell (Jb _) _⟩,by simp [intOf];omega⟩
    ·go_wp2
     rw [show (lm xs k:Int) - (cc:Int)=((Fh (lm xs k) (lm ys k) cc:Nat):Int) by unfold Fh Bp;have:=Z2.out;omega]
     exact ⟨⟨k+1,E5 (lm xs k) (lm ys k) cc,_,by omega,by go_num,by rw [show E5 (lm xs k) (lm ys k) cc=0 by unfold E5;rw [if_neg (by have:=Z2.out;omega)]];rfl,HST.out,HSB.out,hbel'.setCell (Jb _) _⟩,by simp [intOf];omega⟩
  ·have hke:k=xs.length:=by omega
   have hfin:=hat.fin (by omega) (by omega) HLE.out
   have hrd:Rd wr (.slice (some ⟨w.heap.size,0,none⟩) xs.length xs.length) zs:=by
    have:=hblk'.rd0 xs.length (by simp;omega)
    simpa [hzl,hke] using this
   have HF:Hid (M.val Bp zs=M.val Bp xs - M.val Bp ys):=hfin
   have hll:zs.length≤100000:=by omega
   have HKE:Hid (k=xs.length):=hke
   clear hfin hke
   go_wp2_with fail
   refine (Fj Bp Bl _ _ zs hrd hat.2.1 (by omega)).mono ?_
   rintro e w' ⟨v',rfl,hv',rfl⟩
   go_wp2
   go_ret
   exact ⟨_,rfl,by rw [← HF.out];exact hv',hbel'⟩
end Go.Proofs.YtnplifkgeeicjaaGreatDoor
