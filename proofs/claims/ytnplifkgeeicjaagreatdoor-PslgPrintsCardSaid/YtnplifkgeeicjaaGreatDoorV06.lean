import Derived.Test.YtnplifkgeeicjaaGreatDoorV05
namespace Go.Proofs.YtnplifkgeeicjaaGreatDoor
open Go.RowKit
theorem Zz {w:World} {base:Nat} {v:Value} {zs:List Nat} (h:w.ownsRow base 170 1 v zs.length (zs.map fun x=>Value.int .u64 (x:Nat))):Rd w v zs:=by
 have hcells:∀ g,v.ownBlock=some g→_:=fun g=>h.cells (g:=g)
 obtain ⟨_,h | ⟨g,cap,cur,rfl,hg,hh,hn,hm,hs,ht⟩⟩:=h
 ·obtain ⟨rfl,h0⟩:=h
  have:zs=[]:=List.length_eq_zero_iff.1 h0
  subst this
  exact ⟨none,0,rfl,by simp,fun j hj=>by simp at hj⟩
 ·refine ⟨_,cap,rfl,hn,fun j hj=>⟨g,0,rfl,?_⟩⟩
  have:=hcells g rfl j (.int .u64 (lm zs j:Nat)) (by simp [lm,hj])
  by_cases h0:j=0
  ·subst h0;simpa [Addr.add] using this
  ·simpa [Addr.add,h0] using this
def Own (w:World) (base:Nat) (v:Value) (zs:List Nat):Prop:=w.ownsRow base 170 1 v zs.length (zs.map fun x=>Value.int .u64 (x:Nat))
theorem Own.rd {w:World} {base:Nat} {v:Value} {zs:List Nat} (h:Own w base v zs):Rd w v zs:=Zz h
theorem Wk {w:World} {ops:Array Oper} {rest:List Oper} {o:Oper} {a:Act} {Q:Exit→Act→World→Prop}
  (hg:o.guard=none) (s x:Operand) (hop:o.op=Op.call { callee:=Callee.builtin Builtin.append,args:=#[s,x],argTypes:=#[64,64] })
  (hs:a.eval s=.slice none 0 0) (b off n cap:Nat) (hx:a.eval x=.slice (some ⟨b,off,none⟩) n cap) (xs:List Nat) (hn:n=xs.length)
  (hc:∀ j,j<xs.length→w.cell? ⟨b,off+j,none⟩=some (.int .u64 (lm xs j:Nat))) (hl:xs.length≤10000000)
  (hK:∀ v' w',Own w' w.heap.size v' xs→Below w.heap.size w w'→wpList Tryz.prog ops Q rest (a.put o.dst v') w') :
  wpList Tryz.prog ops Q (o :: rest) a w:=by
 obtain ⟨i0,hi,hz0,hz1,hz2⟩:=info_parts (show (Tryz.prog.info? 170).map (fun i=>(i.zero,i.size,i.bytes))=some (some (.int .u64 0),1,8) by kernel_rfl)
 subst hn
 refine wpList_append_own _ hg s x 64 hop w.heap.size 170 i0 (.int .u64 0) 1 8 Tryz.underlying64 hi hz0 hz1 hz2 rfl (by decide) (.slice none 0 0) 0 [] hs (World.ownsRow_nil _ _ _ _) ⟨b,off,none⟩ xs.length cap (xs.map fun x=>Value.int .u64 (x:Nat)) hx (by simp) ?_ ?_ ?_ ?_ (Nat.le_refl _) ?_
 ·intro j u hj
  have hj':j<xs.length:=by
   have:=List.getElem?_eq_some_iff.1 hj
   simpa using this.1
  have h:=hc j hj'
  simp [hj'] at hj
  subst hj
  by_cases h0:j=0
  ·subst h0;simpa [Addr.add,lm,hj'] using h
  ·simpa [Addr.add,h0,lm,hj'] using h
 ·intro u hu;simp at hu;obtain ⟨y,_,rfl⟩:=hu;rfl
 ·unfold maxLen;omega
 ·omega
 ·intro v' w1 hown' hgrow _
  refine hK v' w1 ?_ ?_
  ·unfold Own;simpa using hown'
  ·exact (Jg _ _).grown hgrow (Jb _) (fun k hk=>by simp [Value.ownBlock] at hk)
def Ty (w:World) (v:Value):Prop:=∀ b off n c,v=.slice (some ⟨b,off,none⟩) n c→∃ cs fr,w.heap[b]?=some (.cells cs 170 fr)
theorem Ty.nil (w:World) (n c:Nat):Ty w (.slice none n c):=fun b off n' c' h=>by simp at h
theorem Ty.re {w:World} {a:Option Addr} {n c n' c':Nat} (h:Ty w (.slice a n c)):Ty w (.slice a n' c'):=fun b off m d e=>by
 simp only [Value.slice.injEq] at e
 obtain ⟨rfl,-,-⟩:=e
 exact h b off _ _ rfl
theorem Cm.ty {w:World} {g:Nat} {ys:List Nat} (h:Cm w g ys) (off n c:Nat):Ty w (.slice (some ⟨g,off,none⟩) n c):=fun b off' n' c' e=>by
 simp only [Value.slice.injEq,Option.some.injEq,Addr.mk.injEq] at e
 obtain ⟨⟨rfl,-,-⟩,-,-⟩:=e
 exact ⟨_,_,h⟩
theorem Own.ty {w:World} {base:Nat} {v:Value} {zs:List Nat} (h:Own w base v zs):Ty w v:=by
 rcases h.2 with ⟨rfl,-⟩ | ⟨g,cap,cur,rfl,-,hb,-⟩
 ·exact Ty.nil _ _ _
 ·intro b off n c e
  simp only [Value.slice.injEq,Option.some.injEq,Addr.mk.injEq] at e
  obtain ⟨⟨rfl,-,-⟩,-,-⟩:=e
  exact ⟨_,_,hb⟩
theorem Mu (w:World) (v:Value) (xs:List Nat) (hv:Rd w v xs) (hl:M.Low Bb xs) (hm:xs.length≤1000000) :
  Calls Tryz.prog 177 #[v] w fun e w'=>∃ v',e=.returned v'∧Rd w v' (M.digs Bb (M.val Bb xs))∧(Ty w v→Ty w v')∧w'=w:=by
 have hv0:=hv
 obtain ⟨a,cap,rfl,hcap,hc⟩:=hv
 go_enter Tryz.func177,Tryz.ntmps177
 go_wp2
 go_loop [3] (fun n=>∃ k:Nat,k≤xs.length∧n=.int .i64 k∧∀ j,k≤j→lm xs j=0) (fun n=>(intOf n).toNat)
 case atStart=>exact ⟨xs.length,Jb _,rfl,fun j hj=>Ek hj⟩
 case round =>
  obtain ⟨k,hk,rfl,hz⟩:=hrel
  have HZ:Hid (∀ j,k≤j→lm xs j=0):=hz
  clear hz
  have fin:(∀ j,k=j+1→lm xs j≠0)→xs.take k=M.digs Bb (M.val Bb xs):=fun ht=>M.take_eq_digs Be hl hk HZ.out ht
  have FIN:Hid ((∀ j,k=j+1→lm xs j≠0)→xs.take k=M.digs Bb (M.val Bb xs)):=fin
  clear fin
  match k with
  | 0 =>
   go_wp2
   go_ret
   exact ⟨_,rfl,by rw [← FIN.out (fun j hj=>by omega)];exact hv0.take 0 0 (by omega) (by omega),fun h=>h.re,rfl⟩
  | k+1 =>
   obtain ⟨b,off,rfl,hcell⟩:=hc k (by omega)
   clear hc
   by_cases h0:lm xs k=0
   ·go_wp2
    go_round
    case rel=>exact ⟨k,by omega,by go_num,fun j hj=>by
     by_cases e:j=k
     ·subst e;exact h0
     ·exact HZ.out j (by omega)⟩
    case measure=>simp [intOf]
   ·have hcap':((k:Int)+1)≤cap:=by omega
    go_wp2
    go_ret
    exact ⟨_,rfl,by rw [← FIN.out (fun j hj=>by have:j=k:=by omega
                                                subst this;exact h0)];exact hv0.take (k+1) (k+1) (by omega) (by omega),fun h=>h.re,rfl⟩
theorem Fj (bs:Nat) (hbs:2≤bs) (w:World) (v:Value) (xs:List Nat) (hv:Rd w v xs) (hl:M.Low bs xs) (hm:xs.length≤1000000) :
  Calls Tryz.prog 161 #[v] w fun e w'=>∃ v',e=.returned v'∧Rd w v' (M.digs bs (M.val bs xs))∧w'=w:=by
 have hv0:=hv
 obtain ⟨a,cap,rfl,hcap,hc⟩:=hv
 go_enter Tryz.func161,Tryz.ntmps161
 go_wp2
 go_loop [3] (fun n=>∃ k:Nat,k≤xs.length∧n=.int .i64 k∧∀ j,k≤j→lm xs j=0) (fun n=>(intOf n).toNat)
 case atStart=>exact ⟨xs.length,Jb _,rfl,fun j hj=>Ek hj⟩
 case round =>
  obtain ⟨k,hk,rfl,hz⟩:=hrel
  have HZ:Hid (∀ j,k≤j→lm xs j=0):=hz
  clear hz
  have fin:(∀ j,k=j+1→lm xs j≠0)→xs.take k=M.digs bs (M.val bs xs):=fun ht=>M.take_eq_digs hbs hl hk HZ.out ht
  have FIN:Hid ((∀ j,k=j+1→lm xs j≠0)→xs.take k=M.digs bs (M.val bs xs)):=fin
  clear fin
  match k with
  | 0 =>
   go_wp2
   go_ret
   exact ⟨_,rfl,by rw [← FIN.out (fun j hj=>by omega)];exact hv0.take 0 _ (by omega) (by omega),rfl⟩
  | k+1 =>
   obtain ⟨b,off,rfl,hcell⟩:=hc k (by omega)
   clear hc
   by_cases h0:lm xs k=0
   ·go_wp2
    go_round
    case rel=>exact ⟨k,by omega,by go_num,fun j hj=>by
     by_cases e:j=k
     ·subst e;exact h0
     ·exact HZ.out j (by omega)⟩
    case measure=>simp [intOf]
   ·have hcap':((k:Int)+1)≤cap:=by omega
    go_wp2
    go_ret
    exact ⟨_,rfl,by rw [← FIN.out (fun j hj=>by have:j=k:=by omega
                                                subst this;exact h0)];exact hv0.take (k+1) _ (by omega) (by omega),rfl⟩
def Bp:Nat:=4294967296
theorem Bl:2≤Bp:=by unfold Bp;omega
theorem Ca:0<Bp:=by unfold Bp;omega
theorem Bbb:Bp*Bp=Bb:=by unfold Bp Bb;omega
def Vk (x:Nat):Nat:=x % Bp
def Bas (x:Nat):Nat:=x / Bp
def Tn:List Nat→List Nat
 | []=>[]
 | x :: r=>Vk x :: Bas x :: Tn r
theorem Fv:∀ xs:List Nat,(Tn xs).length=2*xs.length
 | []=>rfl
 | x :: r=>by simp [Tn,Fv r];omega
theorem Rc:∀ (xs ys:List Nat),Tn (xs ++ ys)=Tn xs ++ Tn ys
 | [],_=>rfl
 | x :: r,ys=>by simp [Tn,Rc r ys]
theorem Bbp:∀ {xs:List Nat},M.Low Bb xs→M.Low Bp (Tn xs)
 | [],_=>M.Low.nil _
 | x :: r,h=>by
  have h1:=h.head
  refine M.Low.cons (Nat.mod_lt _ Ca) (M.Low.cons ?_ (Bbp h.tail))
  rw [← Bbb] at h1
  exact Nat.div_lt_of_lt_mul h1
theorem Bbo:∀ (xs:List Nat),M.val Bp (Tn xs)=M.val Bb xs
 | []=>rfl
 | x :: r=>by
  simp only [Tn,M.val_cons,Bbo r]
  have:Vk x+Bp*Bas x=x:=Nat.mod_add_div _ _
  rw [Nat.mul_add,← Nat.mul_assoc,Bbb]
  omega
theorem Bod (x:Nat):((x:Int) % 4294967296)=((Vk x:Nat):Int):=by unfold Vk Bp;omega
theorem Boi (x:Nat) (h:x<Bb):IntKind.u64.wrap ((x:Int) / 4294967296)=((Bas x:Nat):Int):=by
 rw [IntKind.wrap_u64];unfold Bas Bp;unfold Bb at h;omega
theorem Uz (xs:List Nat) (k:Nat) (h:k<xs.length):xs.take (k+1)=xs.take k ++ [lm xs k]:=by
 rw [List.take_succ_eq_append_getElem h];simp [lm,h]
theorem Bfw (xs:List Nat) (k:Nat) (h:k<xs.length):((Tn (xs.take k) ++ List.replicate (2*(xs.length - k)) 0).set (2*k) (Vk (lm xs k))).set (2*k+1) (Bas (lm xs k))=Tn (xs.take (k+1)) ++ List.replicate (2*(xs.length - (k+1))) 0:=by
 have e1:(Tn (xs.take k)).length=2*k:=by simp [Fv];omega
 have e2:2*(xs.length - k)=(2*(xs.length - (k+1))+1)+1:=by omega
 rw [e2]
 have h1:=M.set_append_replicate (Tn (xs.take k)) (2*(xs.length - (k+1))+1) (Vk (lm xs k))
 rw [e1] at h1
 rw [h1]
 have h2:=M.set_append_replicate (Tn (xs.take k) ++ [Vk (lm xs k)]) (2*(xs.length - (k+1))) (Bas (lm xs k))
 rw [Ji,e1] at h2
 rw [show 2*k+1=2*k + [Vk (lm xs k)].length from rfl,h2,Uz xs k h,Rc]
 simp [Tn]
theorem Cm.alloc {w:World} {g:Nat} {ys:List Nat} (h:Cm w g ys) (o:Obj):Cm (w.alloc o) g ys:=h.b ((Jg _ _).alloc (Jb _) o)
theorem Cm.drew {w:World} {g:Nat} {ys:List Nat} (h:Cm w g ys):Cm w.drew g ys:=h
set_option maxHeartbeats 1000000 in
theorem Bdg (v:Value) (xs:List Nat) (w:World) (hv:Rd w v xs) (la:M.Low Bb xs) (hx:xs.length≤100000) :
  Calls Tryz.prog 116 #[v] w fun e w'=>∃ v,e=.returned v∧Rd w' v (M.digs Bp (M.val Bb xs))∧Below w.heap.size w w':=by
 have hv0:=hv
 obtain ⟨a,ca,rfl,hca,hcs⟩:=hv
 go_enter Tryz.func116,Tryz.ntmps116
 go_wp2_with (at_make;refine Ki rfl _ _ rfl _ _ 0 (2*xs.length) rfl rfl rfl (by omega) (by omega) (by omega) ?_;intro w2 hblk hbel)
 go_loopw [3,4] (fun s i wr=>∃ (k:Nat),k≤xs.length∧i=.int .i64 k∧s=.slice (some ⟨w.heap.size,0,none⟩) (2*k) (2*xs.length)∧Cm wr w.heap.size (Tn (xs.take k) ++ List.replicate (2*(xs.length - k)) 0)∧Below w.heap.size w wr) (fun _ i _=>xs.length - (intOf i).toNat)
 case atStart=>exact ⟨0,by omega,rfl,rfl,by simpa [Tn] using hblk,hbel⟩
 case round =>
  obtain ⟨k,hk,rfl,rfl,hblk',hbel'⟩:=hrel
  by_cases hlt:k<xs.length
  ·obtain ⟨b,off,rfl,hcell⟩:=hcs k hlt
   have qc:=Bh hcell hbel'
   have hgs:=hblk'.lt
   have hll:(Tn (xs.take k) ++ List.replicate (2*(xs.length - k)) 0).length=2*xs.length:=by simp [Fv];omega
   have hc1:=hblk'.cell (j:=2*k) (by rw [hll];omega)
   have hc2:=hblk'.cell (j:=2*k+1) (by rw [hll];omega)
   have hf1:=hblk'.o (2*k)
   have hf2:=hblk'.o (2*k+1)
   have hle:2*k+2≤2*xs.length:=by omega
   clear hll
   go_wp2_with fail
   go_region
   go_wp2
   refine ⟨⟨k+1,by omega,by go_num,by rw [show 2*(k+1)=2*k+2 by omega],?_,?_⟩,by simp [intOf];omega⟩
   ·rw [Bod,Boi _ (Ci Bm la k)]
    have h:=((hblk'.set (2*k) (Vk (lm xs k))).set (2*k+1) (Bas (lm xs k)))
    rw [Bfw xs k hlt] at h
    exact (h.alloc _).drew
   ·exact (((hbel'.setCell (Jb _) _).setCell (Jb _) _).alloc (by simp;omega) _).drew
  ·have hke:k=xs.length:=by omega
   subst hke
   have hrd:Rd wr (.slice (some ⟨w.heap.size,0,none⟩) (2*xs.length) (2*xs.length)) (Tn xs):=by
    have:=hblk'.rd0 (2*xs.length) (by simp [Fv])
    simpa [Fv] using this
   clear hblk' hcs
   go_wp2_with fail
   refine (Fj Bp Bl _ _ _ hrd (Bbp la) (by rw [Fv];omega)).mono ?_
   rintro e w' ⟨v',rfl,hv',rfl⟩
   go_wp2
   go_ret
   exact ⟨_,rfl,by rw [Bbo] at hv';exact hv',hbel'⟩
end Go.Proofs.YtnplifkgeeicjaaGreatDoor
