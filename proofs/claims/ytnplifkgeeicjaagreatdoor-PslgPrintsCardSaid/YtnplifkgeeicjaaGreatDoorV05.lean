import Derived.Test.YtnplifkgeeicjaaGreatDoorV03
import Derived.Test.YtnplifkgeeicjaaGreatDoorV04
set_option maxHeartbeats 1000000
namespace Go.Proofs.YtnplifkgeeicjaaGreatDoor
open Go.RowKit
def Dj (ys:List Nat):Array Value:=(ys.map fun x=>Value.int .u64 (x:Nat)).toArray
def Cm (w:World) (g:Nat) (ys:List Nat):Prop:=w.heap[g]?=some (.cells (Dj ys) 170 (0,0))
theorem Cm.lt {w:World} {g:Nat} {ys:List Nat} (h:Cm w g ys):g<w.heap.size:=by
 unfold Cm at h
 by_cases hg:g<w.heap.size
 ·exact hg
 ·rw [Array.getElem?_eq_none (by omega)] at h;cases h
theorem Cm.cell {w:World} {g:Nat} {ys:List Nat} (h:Cm w g ys) {j:Nat} (hj:j<ys.length):w.cell? ⟨g,j,none⟩=some (.int .u64 (lm ys j:Nat)):=by
 unfold Cm at h
 simp [World.cell?,h,Dj,lm,hj]
theorem Cm.o {w:World} {g:Nat} {ys:List Nat} (h:Cm w g ys) (j:Nat):w.frozen? ⟨g,j,none⟩=false:=by
 unfold Cm at h
 simp [World.frozen?,h]
theorem Cm.set {w:World} {g:Nat} {ys:List Nat} (h:Cm w g ys) (j x:Nat):Cm (w.setCell ⟨g,j,none⟩ (.int .u64 (x:Nat))) g (ys.set j x):=by
 unfold Cm at h ⊢
 simp [World.setCell,Array.getElem?_modify,h,Dj]
theorem Cm.b {w w':World} {g:Nat} {ys:List Nat} (h:Cm w g ys) (hb:Below w.heap.size w w'):Cm w' g ys:=by
 have:=h.lt
 unfold Cm at h ⊢
 rw [hb.block g this];exact h
theorem Cm.rd {w:World} {g:Nat} {ys:List Nat} (h:Cm w g ys) (off n cap:Nat) (hn:off+n≤ys.length) (hc:n≤cap):Rd w (.slice (some ⟨g,off,none⟩) n cap) ((ys.drop off).take n):=by
 have e:((ys.drop off).take n).length=n:=by simp;omega
 refine ⟨_,cap,by rw [e],by omega,fun j hj=>⟨g,off,rfl,?_⟩⟩
 rw [e] at hj
 rw [h.cell (by omega),Ma hj]
 simp [lm]
theorem Cm.rd0 {w:World} {g:Nat} {ys:List Nat} (h:Cm w g ys) (cap:Nat) (hc:ys.length≤cap):Rd w (.slice (some ⟨g,0,none⟩) ys.length cap) ys:=by
 simpa using h.rd 0 ys.length cap (by omega) hc
theorem Bh {w w':World} {p:Addr} {v:Value} (h:w.cell? p=some v) (hb:Below w.heap.size w w'):w'.cell? p=some v:=by
 rw [hb.cell (World.block_lt_of_cell? w _ h)];exact h
theorem Ia {w w1 w2:World} (h:Below w.heap.size w w1) (k:Below w1.heap.size w1 w2):Below w.heap.size w w2:=h.trans (k.mono h.size)
theorem Bmv (l n:Nat) (hl:l≤n) (hn:n≤100000000) (w:World) :
  (Instr.makeSlice 64 (.int .i64 l) (.int .i64 n)).run Tryz.prog w=.ok (.slice (some ⟨w.heap.size,0,none⟩) l n) (w.alloc (.cells (Dj (List.replicate n 0)) 170)):=by
 obtain ⟨i0,hi,hz0,hz1,hz2⟩:=info_parts (show (Tryz.prog.info? 170).map (fun i=>(i.zero,i.size,i.bytes))=some (some (.int .u64 0),1,8) by kernel_rfl)
 have h:=run_make (P:=Tryz.prog) w 64 170 i0 (.int .u64 0) Tryz.underlying64 hi hz0 .i64 .i64 l n (by omega) (by omega) (by rw [hz2];omega) (by omega)
 rw [h,hz1]
 have e:madeCells (Value.cells (.int .u64 0)) (Int.toNat n*1)=Dj (List.replicate n 0):=by
  apply Array.toList_inj.1
  simp only [Value.cells,toList_madeCells_one]
  simp [Dj]
 rw [e];simp
theorem Qr (w:World) (ys:List Nat):Cm (w.alloc (.cells (Dj ys) 170)) w.heap.size ys:=heap_alloc_new w _
theorem Ki {w:World} {ops:Array Oper} {rest:List Oper} {o:Oper} {a:Act} {Q:Exit→Act→World→Prop}
  (hg:o.guard=none) (l c:Operand) (hop:o.op=Op.makeSlice 64 l c) (L C:Int) (m n:Nat) (hl:a.eval l=.int .i64 L) (hc:a.eval c=.int .i64 C) (hL:L=(m:Int)) (hC:C=(n:Int)) (hmn:m≤n) (hn:n≤100000000)
  (hK:∀ w1,Cm w1 w.heap.size (List.replicate n 0)→Below w.heap.size w w1→wpList Tryz.prog ops Q rest (a.put o.dst (.slice (some ⟨w.heap.size,0,none⟩) m n)) w1) :
  wpList Tryz.prog ops Q (o :: rest) a w:=by
 refine wpList_plain hg fun K hK'=>?_
 subst hL hC
 have hrun:=Bmv m n hmn hn w
 unfold Oper.wp
 simp [execOp,hop,hl,hc,hrun,Result.andThen]
 exact hK' _ _ (hK _ (Qr w _) ((Jg _ _).alloc (Jb _) _))
theorem Cn {w:World} {ops:Array Oper} {rest:List Oper} {o:Oper} {a:Act} {Q:Exit→Act→World→Prop}
  (hg:o.guard=none) (l c:Operand) (hop:o.op=Op.makeSlice 64 l c) (L:Int) (n:Nat) (hl:a.eval l=.int .i64 L) (hc:a.eval c=.int .i64 L) (hL:L=(n:Int)) (hn:n≤100000000)
  (hK:∀ w1,Cm w1 w.heap.size (List.replicate n 0)→Below w.heap.size w w1→wpList Tryz.prog ops Q rest (a.put o.dst (.slice (some ⟨w.heap.size,0,none⟩) n n)) w1) :
  wpList Tryz.prog ops Q (o :: rest) a w:=Ki hg l c hop L L n n hl hc hL hL (Jb _) hn hK
def Dk (x y c:Nat):Nat:=(x+y+c) % 18446744073709551616
def Ev (x y c:Nat):Nat:=(x+y+c) / 18446744073709551616
def Ct (x y c:Nat):Nat:=(x+18446744073709551616 - y - c) % 18446744073709551616
def Ea (x y c:Nat):Nat:=if x<y+c then 1 else 0
theorem Bc0 (x y c:Nat) (hc:c≤1) (w:World):(callFunc 176 #[.int .u64 (x:Nat),.int .u64 (y:Nat),.int .u64 (c:Nat)]).run Tryz.prog w =
  .ok (.value (.tuple #[.int .u64 (Dk x y c:Nat),.int .u64 (Ev x y c:Nat)])) w:=by
 rw [run_callFunc_extern Tryz.func176 (by kernel_rfl) (by kernel_rfl) (by kernel_rfl) (e:=add64Entry) (by kernel_rfl),run_add64 x y c (by omega) (by omega) (by omega) (by omega)]
 simp only [Result.andThen,Dk,Ev]
 congr 5 <;> omega
theorem Q9 (x y c:Nat) (hc:c≤1) (w:World):(callFunc 178 #[.int .u64 (x:Nat),.int .u64 (y:Nat),.int .u64 (c:Nat)]).run Tryz.prog w =
  .ok (.value (.tuple #[.int .u64 (Ct x y c:Nat),.int .u64 (Ea x y c:Nat)])) w:=by
 rw [run_callFunc_extern Tryz.func178 (by kernel_rfl) (by kernel_rfl) (by kernel_rfl) (e:=sub64Entry) (by kernel_rfl),run_sub64 x y c hc]
 rfl
open Go.RowKit
theorem Bik {X Y V p x y c:Nat} (h:V+p*c=X+Y):(V+p*Dk x y c)+p*Bb*Ev x y c=(X+p*x)+(Y+p*y):=by
 have e:Dk x y c+Bb*Ev x y c=x+y+c:=Nat.mod_add_div _ _
 have:p*(Dk x y c+Bb*Ev x y c)=p*(x+y+c):=by rw [e]
 simp only [Nat.mul_add,← Nat.mul_assoc] at this
 omega
theorem Bia {x y c:Nat} (hx:x<Bb) (hy:y<Bb) (hc:c≤1):Ev x y c≤1:=by
 unfold Ev;unfold Bb at hx hy;omega
theorem Bfs (x y c:Nat):Dk x y c<Bb:=Nat.mod_lt _ (by omega)
def La (xs ys zs:List Nat) (k c:Nat):Prop:=zs.length=k∧M.Low Bb zs∧c≤1∧M.val Bb zs+Bb ^ k*c=M.val Bb (xs.take k)+M.val Bb (ys.take k)
theorem La.step {xs ys zs:List Nat} {k c:Nat} (la:M.Low Bb xs) (lb:M.Low Bb ys) (h:La xs ys zs k c):La xs ys (zs ++ [Dk (lm xs k) (lm ys k) c]) (k+1) (Ev (lm xs k) (lm ys k) c):=by
 obtain ⟨h1,h2,h3,h4⟩:=h
 refine ⟨by simp [h1],h2.snoc (Bfs _ _ _),Bia (Ci Bm la k) (Ci Bm lb k) h3,?_⟩
 rw [M.val_snoc,h1,M.val_take_succ,M.val_take_succ,Nat.pow_succ]
 exact Bik h4
theorem La.fin {xs ys zs:List Nat} {n c:Nat} (la:M.Low Bb xs) (lb:M.Low Bb ys) (hx:xs.length<n) (hy:ys.length<n) (h:La xs ys zs n c):M.val Bb zs=M.val Bb xs+M.val Bb ys:=by
 obtain ⟨h1,h2,h3,h4⟩:=h
 rw [M.val_take_all _ _ _ (by omega),M.val_take_all _ _ _ (by omega)] at h4
 exact M.carry_zero Be la lb hx hy h3 h4
theorem Bcz (va vb:Value) (xs ys:List Nat) (w:World) (ha:Rd w va xs) (hb:Rd w vb ys) (la:M.Low Bb xs) (lb:M.Low Bb ys) (hx:xs.length≤4000) (hy:ys.length≤4000) :
  Calls Tryz.prog 127 #[va,vb] w fun e w'=>∃ v,e=.returned (.tuple #[v,.int .i64 0])∧Rd w' v (M.digs Bb (M.val Bb xs+M.val Bb ys))∧Below w.heap.size w w':=by
 have ha0:=ha
 have hb0:=hb
 obtain ⟨a,ca,rfl,hca,-⟩:=ha
 obtain ⟨b,cb,rfl,hcb,-⟩:=hb
 obtain ⟨n,hn⟩:∃ n,n=max xs.length ys.length:=⟨_,rfl⟩
 have hxn:xs.length≤n:=by omega
 have hyn:ys.length≤n:=by omega
 have hn4:n≤4000:=by omega
 have HN:Hid (n=max xs.length ys.length):=hn
 clear hn
 go_enter Tryz.func127,Tryz.ntmps127
 go_wp2_with fail
 refine (Hx a b xs.length ys.length ca cb _ 0 2 _ (by simp [go_sem]) (by simp [go_sem]) hx hy).mono ?_
 rintro e w1 ⟨rfl,rfl⟩
 go_wp2_with fail
 refine (Fz _ _ _ _).mono ?_
 rintro e w1 ⟨rfl,rfl⟩
 go_wp2_with fail
 refine (Fz _ _ _ _).mono ?_
 rintro e w1 ⟨rfl,rfl⟩
 obtain ⟨w0,hw0⟩:∃ w0,w0=((w.alloc (.cells #[.slice a xs.length ca,.slice b ys.length cb] 64)).alloc (.cells #[.slice a xs.length ca] 64)).alloc (.cells #[.slice b ys.length cb] 64):=⟨_,rfl⟩
 have hb0':Below w.heap.size w w0:=by subst hw0;go_grown
 have pA:w0.cell? ⟨w.heap.size+1,0,none⟩=some (.slice a xs.length ca):=by subst hw0;simp [go_sem]
 have pB:w0.cell? ⟨w.heap.size+1+1,0,none⟩=some (.slice b ys.length cb):=by subst hw0;simp [go_sem]
 have rA:=ha0.b hb0'
 have rB:=hb0.b hb0'
 rw [← hw0]
 clear hw0
 go_wp2_with (at_make;refine Cn rfl _ _ rfl _ (n+1) rfl rfl (by have:=HN.out;omega) (by omega) ?_;intro w2 hblk hbel)
 all_goals
  clear h
  go_loopw [9,28] (fun c i wr=>∃ (k cc:Nat) (zs:List Nat),k≤n+1∧i=.int .i64 k∧c=.int .u64 cc∧La xs ys zs k cc∧Cm wr w0.heap.size (zs ++ List.replicate (n+1 - k) 0)∧Below w0.heap.size w0 wr) (fun _ i _=>n+1 - (intOf i).toNat)
  case atStart=>exact ⟨0,0,[],by omega,rfl,rfl,⟨rfl,M.Low.nil _,by omega,by simp [M.val]⟩,by simpa using hblk,hbel⟩
  case round =>
   obtain ⟨k,cc,zs,hk,rfl,rfl,hat,hblk',hbel'⟩:=hrel
   have hcc:cc≤1:=hat.2.2.1
   have hzl:zs.length=k:=hat.1
   by_cases hlt:k<n+1
   ·have qA:=Bh pA hbel'
    have qB:=Bh pB hbel'
    have sA:=rA.b hbel'
    have sB:=rB.b hbel'
    have hc1:=hblk'.cell (j:=k) (by simp;omega)
    have hf1:=hblk'.o k
    have hst:=hat.step la lb
    clear hblk hbel pA pB rA rB ha0 hb0
    go_wp2_with fail
    refine (F6 k (by omega) wr _ xs _ qA sA).mono ?_
    rintro e w' ⟨rfl,rfl⟩
    go_wp2_with fail
    refine (F6 k (by omega) _ _ ys _ qB sB).mono ?_
    rintro e w' ⟨rfl,rfl⟩
    go_wp2_with (simp only [Int.toNat_natCast,Bc0 (lm xs k) (lm ys k) cc hcc])
    go_roundw
    case rel =>
     refine ⟨k+1,_,_,by omega,by go_num,rfl,hst,?_,hbel'.setCell (Jb _) _⟩
     have hs:=hblk'.set k (Dk (lm xs k) (lm ys k) cc)
     rw [show n+1 - k=(n+1 - (k+1))+1 by omega] at hs
     have e:=M.set_append_replicate zs (n+1 - (k+1)) (Dk (lm xs k) (lm ys k) cc)
     rw [hzl] at e
     rw [e] at hs
     exact hs
    case measure=>simp [intOf];omega
   ·have hke:k=n+1:=by omega
    subst hke
    have hfin:=hat.fin la lb (by omega) (by omega)
    have hrd:Rd wr (.slice (some ⟨w0.heap.size,0,none⟩) (n+1) (n+1)) zs:=by
     have:=hblk'.rd0 (n+1) (by simp;omega)
     simpa [hzl] using this
    have HF:Hid (M.val Bb zs=M.val Bb xs+M.val Bb ys):=hfin
    clear hfin
    go_wp2_with fail
    refine (Dg _ _ zs hrd hat.2.1 (by omega)).mono ?_
    rintro e w' ⟨v',rfl,hv',rfl⟩
    go_wp2
    go_ret2
    exact ⟨_,rfl,by rw [← HF.out];exact hv',Ia hb0' hbel'⟩
open Go.RowKit
theorem Bh1 {x y c:Nat} (hx:x<Bb) (hy:y<Bb) (hc:c≤1):Ct x y c+y+c=x+Bb*Ea x y c:=by
 unfold Ct Ea;unfold Bb at *
 split <;> omega
theorem Big (x y c:Nat):Ea x y c≤1:=by unfold Ea;split <;> omega
theorem Bh0 (x y c:Nat):Ct x y c<Bb:=Nat.mod_lt _ (by omega)
theorem Bft {X Y V p x y c d b:Nat} (e:d+y+c=x+Bb*b) (h:V+Y=X+p*c):(V+p*d)+(Y+p*y)=(X+p*x)+p*Bb*b:=by
 have:p*(d+y+c)=p*(x+Bb*b):=by rw [e]
 simp only [Nat.mul_add,← Nat.mul_assoc] at this
 omega
def K8 (xs ys zs:List Nat) (k c:Nat):Prop:=zs.length=k∧M.Low Bb zs∧c≤1∧M.val Bb zs+M.val Bb (ys.take k)=M.val Bb (xs.take k)+Bb ^ k*c
theorem K8.step {xs ys zs:List Nat} {k c:Nat} (la:M.Low Bb xs) (lb:M.Low Bb ys) (h:K8 xs ys zs k c):K8 xs ys (zs ++ [Ct (lm xs k) (lm ys k) c]) (k+1) (Ea (lm xs k) (lm ys k) c):=by
 obtain ⟨h1,h2,h3,h4⟩:=h
 refine ⟨by simp [h1],h2.snoc (Bh0 _ _ _),Big _ _ _,?_⟩
 rw [M.val_snoc,h1,M.val_take_succ,M.val_take_succ,Nat.pow_succ]
 exact Bft (Bh1 (Ci Bm la k) (Ci Bm lb k) h3) h4
theorem K8.fin {xs ys zs:List Nat} {n c:Nat} (hx:xs.length≤n) (hy:ys.length≤n) (h:K8 xs ys zs n c) :
  (c=0→M.val Bb ys≤M.val Bb xs∧M.val Bb zs=M.val Bb xs - M.val Bb ys)∧(c≠0→M.val Bb xs<M.val Bb ys):=by
 obtain ⟨h1,h2,h3,h4⟩:=h
 rw [M.val_take_all _ _ _ hx,M.val_take_all _ _ _ hy] at h4
 have e3:=M.val_lt Bm h2
 rw [h1] at e3
 generalize Bb ^ n=p at *
 refine ⟨fun e=>?_,fun e=>?_⟩
 ·subst e;omega
 ·have:c=1:=by omega
  subst this;omega
theorem Bi9 (va vb:Value) (xs ys:List Nat) (w:World) (ha:Rd w va xs) (hb:Rd w vb ys) (la:M.Low Bb xs) (lb:M.Low Bb ys) (hx:xs.length≤4000) (hy:ys.length≤4000) :
  Calls Tryz.prog 128 #[va,vb] w fun e w'=>(M.val Bb ys≤M.val Bb xs→∃ v,e=.returned (.tuple #[v,.int .i64 0])∧Rd w' v (M.digs Bb (M.val Bb xs - M.val Bb ys)))∧(M.val Bb xs<M.val Bb ys→e=.returned (.tuple #[.slice none 0 0,.int .i64 2]))∧Below w.heap.size w w':=by
 have ha0:=ha
 have hb0:=hb
 obtain ⟨a,ca,rfl,hca,-⟩:=ha
 obtain ⟨b,cb,rfl,hcb,-⟩:=hb
 obtain ⟨n,hn⟩:∃ n,n=max xs.length ys.length:=⟨_,rfl⟩
 have hxn:xs.length≤n:=by omega
 have hyn:ys.length≤n:=by omega
 have hn4:n≤4000:=by omega
 have HN:Hid (n=max xs.length ys.length):=hn
 clear hn
 go_enter Tryz.func128,Tryz.ntmps128
 go_wp2_with fail
 refine (Hx a b xs.length ys.length ca cb _ 0 2 _ (by simp [go_sem]) (by simp [go_sem]) hx hy).mono ?_
 rintro e w1 ⟨rfl,rfl⟩
 go_wp2_with fail
 refine (Fz _ _ _ _).mono ?_
 rintro e w1 ⟨rfl,rfl⟩
 go_wp2_with fail
 refine (Fz _ _ _ _).mono ?_
 rintro e w1 ⟨rfl,rfl⟩
 obtain ⟨w0,hw0⟩:∃ w0,w0=((w.alloc (.cells #[.slice a xs.length ca,.slice b ys.length cb] 64)).alloc (.cells #[.slice a xs.length ca] 64)).alloc (.cells #[.slice b ys.length cb] 64):=⟨_,rfl⟩
 have hb0':Below w.heap.size w w0:=by subst hw0;go_grown
 have pA:w0.cell? ⟨w.heap.size+1,0,none⟩=some (.slice a xs.length ca):=by subst hw0;simp [go_sem]
 have pB:w0.cell? ⟨w.heap.size+1+1,0,none⟩=some (.slice b ys.length cb):=by subst hw0;simp [go_sem]
 have rA:=ha0.b hb0'
 have rB:=hb0.b hb0'
 rw [← hw0]
 clear hw0
 go_wp2_with (at_make;refine Cn rfl _ _ rfl _ n rfl rfl (by have:=HN.out;omega) (by omega) ?_;intro w2 hblk hbel)
 all_goals
  clear h
  go_loopw [9,27] (fun c i wr=>∃ (k cc:Nat) (zs:List Nat),k≤n∧i=.int .i64 k∧c=.int .u64 cc∧K8 xs ys zs k cc∧Cm wr w0.heap.size (zs ++ List.replicate (n - k) 0)∧Below w0.heap.size w0 wr) (fun _ i _=>n - (intOf i).toNat)
  case atStart=>exact ⟨0,0,[],by omega,rfl,rfl,⟨rfl,M.Low.nil _,by omega,by simp [M.val]⟩,by simpa using hblk,hbel⟩
  case round =>
   obtain ⟨k,cc,zs,hk,rfl,rfl,hat,hblk',hbel'⟩:=hrel
   have hcc:cc≤1:=hat.2.2.1
   have hzl:zs.length=k:=hat.1
   by_cases hlt:k<n
   ·have qA:=Bh pA hbel'
    have qB:=Bh pB hbel'
    have sA:=rA.b hbel'
    have sB:=rB.b hbel'
    have hc1:=hblk'.cell (j:=k) (by simp;omega)
    have hf1:=hblk'.o k
    have hst:=hat.step la lb
    clear hblk hbel pA pB rA rB ha0 hb0
    go_wp2_with fail
    refine (F6 k (by omega) wr _ xs _ qA sA).mono ?_
    rintro e w' ⟨rfl,rfl⟩
    go_wp2_with fail
    refine (F6 k (by omega) _ _ ys _ qB sB).mono ?_
    rintro e w' ⟨rfl,rfl⟩
    go_wp2_with (simp only [Int.toNat_natCast,Q9 (lm xs k) (lm ys k) cc hcc])
    go_roundw
    case rel =>
     refine ⟨k+1,_,_,by omega,by go_num,rfl,hst,?_,hbel'.setCell (Jb _) _⟩
     have hs:=hblk'.set k (Ct (lm xs k) (lm ys k) cc)
     rw [show n - k=(n - (k+1))+1 by omega] at hs
     have e:=M.set_append_replicate zs (n - (k+1)) (Ct (lm xs k) (lm ys k) cc)
     rw [hzl] at e
     rw [e] at hs
     exact hs
    case measure=>simp [intOf];omega
   ·have hke:k=n:=by omega
    subst hke
    obtain ⟨f0,f1⟩:=hat.fin hxn hyn
    have hrd:Rd wr (.slice (some ⟨w0.heap.size,0,none⟩) k k) zs:=by
     have:=hblk'.rd0 k (by simp;omega)
     simpa [hzl] using this
    have F0:Hid (cc=0→M.val Bb ys≤M.val Bb xs∧M.val Bb zs=M.val Bb xs - M.val Bb ys):=f0
    have F1:Hid (cc≠0→M.val Bb xs<M.val Bb ys):=f1
    clear f0 f1
    by_cases hc0:cc=0
    ·subst hc0
     go_wp2_with fail
     refine (Dg _ _ zs hrd hat.2.1 (by omega)).mono ?_
     rintro e w' ⟨v',rfl,hv',rfl⟩
     go_wp2
     go_ret2
     obtain ⟨g1,g2⟩:=F0.out (by trivial)
     exact ⟨fun _=>⟨_,rfl,by rw [← g2];exact hv'⟩,fun h=>by omega,Ia hb0' hbel'⟩
    ·go_wp2
     go_ret2
     have g1:=F1.out hc0
     exact ⟨fun h=>by omega,fun _=>rfl,Ia hb0' hbel'⟩
open Go.RowKit
def Bi (w:World) (g:Nat) (cs:List Value) (t:TypeId):Prop:=w.heap[g]?=some (.cells cs.toArray t (0,0))
theorem Bi.lt {w:World} {g:Nat} {cs:List Value} {t:TypeId} (h:Bi w g cs t):g<w.heap.size:=by
 unfold Bi at h
 by_cases hg:g<w.heap.size
 ·exact hg
 ·rw [Array.getElem?_eq_none (by omega)] at h;cases h
theorem Bi.cell {w:World} {g:Nat} {cs:List Value} {t:TypeId} (h:Bi w g cs t) (j:Nat):w.cell? ⟨g,j,none⟩=cs[j]?:=by
 unfold Bi at h
 simp [World.cell?,h]
theorem Bi.o {w:World} {g:Nat} {cs:List Value} {t:TypeId} (h:Bi w g cs t) (j:Nat):w.frozen? ⟨g,j,none⟩=false:=by
 unfold Bi at h
 simp [World.frozen?,h]
theorem Bi.b {w w':World} {g:Nat} {cs:List Value} {t:TypeId} (h:Bi w g cs t) (hb:Below w.heap.size w w'):Bi w' g cs t:=by
 have:=h.lt
 unfold Bi at h ⊢
 rw [hb.block g this];exact h
theorem Bi.new (w:World) (cs:List Value) (t:TypeId):Bi (w.alloc (.cells cs.toArray t)) w.heap.size cs t:=heap_alloc_new w _
theorem Bi.alloc {w:World} {g:Nat} {cs:List Value} {t:TypeId} (h:Bi w g cs t) (o:Obj):Bi (w.alloc o) g cs t:=h.b ((Jg _ _).alloc (Jb _) o)
theorem Bi.set {w:World} {g:Nat} {cs:List Value} {t:TypeId} (h:Bi w g cs t) (j:Nat) (v:Value):Bi (w.setCell ⟨g,j,none⟩ v) g (cs.set j v) t:=by
 unfold Bi at h ⊢
 simp [World.setCell,Array.getElem?_modify,h]
theorem Bi.t {w:World} {g g':Nat} {cs:List Value} {t:TypeId} (h:Bi w g cs t) (hne:g≠g') (j:Nat) (v:Value):Bi (w.setCell ⟨g',j,none⟩ v) g cs t:=by
 unfold Bi at h ⊢
 rw [Below.heap_setCell _ _ _ _ (by exact hne)];exact h
theorem Bi.drew {w:World} {g:Nat} {cs:List Value} {t:TypeId} (h:Bi w g cs t):Bi w.drew g cs t:=h
abbrev Sr (w:World) (g:Nat) (x0 x1:Value):Prop:=w.cell? ⟨g,0,none⟩=some x0∧w.cell? ⟨g,1,none⟩=some x1
theorem Dc {w:World} {g:Nat} {t:TypeId} {x0 x1:Value} (h:Bi w g [x0,x1] t):Sr w g x0 x1:=⟨h.cell 0,h.cell 1⟩
abbrev xc3 (w:World) (g:Nat) (x0 x1 x2:Value):Prop:=w.cell? ⟨g,0,none⟩=some x0∧w.cell? ⟨g,1,none⟩=some x1∧w.cell? ⟨g,2,none⟩=some x2
theorem Hw {w:World} {g:Nat} {t:TypeId} {x0 x1 x2:Value} (h:Bi w g [x0,x1,x2] t):xc3 w g x0 x1 x2:=⟨h.cell 0,h.cell 1,h.cell 2⟩
abbrev xc4 (w:World) (g:Nat) (x0 x1 x2 x3:Value):Prop:=w.cell? ⟨g,0,none⟩=some x0∧w.cell? ⟨g,1,none⟩=some x1∧w.cell? ⟨g,2,none⟩=some x2∧w.cell? ⟨g,3,none⟩=some x3
theorem xk4 {w:World} {g:Nat} {t:TypeId} {x0 x1 x2 x3:Value} (h:Bi w g [x0,x1,x2,x3] t):xc4 w g x0 x1 x2 x3:=⟨h.cell 0,h.cell 1,h.cell 2,h.cell 3⟩
abbrev xc6 (w:World) (g:Nat) (x0 x1 x2 x3 x4 x5:Value):Prop:=w.cell? ⟨g,0,none⟩=some x0∧w.cell? ⟨g,1,none⟩=some x1∧w.cell? ⟨g,2,none⟩=some x2∧w.cell? ⟨g,3,none⟩=some x3∧w.cell? ⟨g,4,none⟩=some x4∧w.cell? ⟨g,5,none⟩=some x5
theorem xk6 {w:World} {g:Nat} {t:TypeId} {x0 x1 x2 x3 x4 x5:Value} (h:Bi w g [x0,x1,x2,x3,x4,x5] t):xc6 w g x0 x1 x2 x3 x4 x5:=⟨h.cell 0,h.cell 1,h.cell 2,h.cell 3,h.cell 4,h.cell 5⟩
abbrev Bo1 (w:World) (g:Nat) (x0 x1 x2 x3 x4 x5 x6 x7 x8 x9 x10 x11 x12 x13 x14 x15 x16 x17 x18 x19 x20 x21 x22 x23:Value):Prop:=w.cell? ⟨g,0,none⟩=some x0∧w.cell? ⟨g,1,none⟩=some x1∧w.cell? ⟨g,2,none⟩=some x2∧w.cell? ⟨g,3,none⟩=some x3∧w.cell? ⟨g,4,none⟩=some x4∧w.cell? ⟨g,5,none⟩=some x5∧w.cell? ⟨g,6,none⟩=some x6∧w.cell? ⟨g,7,none⟩=some x7∧w.cell? ⟨g,8,none⟩=some x8∧w.cell? ⟨g,9,none⟩=some x9∧w.cell? ⟨g,10,none⟩=some x10∧w.cell? ⟨g,11,none⟩=some x11∧w.cell? ⟨g,12,none⟩=some x12∧w.cell? ⟨g,13,none⟩=some x13∧w.cell? ⟨g,14,none⟩=some x14∧w.cell? ⟨g,15,none⟩=some x15∧w.cell? ⟨g,16,none⟩=some x16∧w.cell? ⟨g,17,none⟩=some x17∧w.cell? ⟨g,18,none⟩=some x18∧w.cell? ⟨g,19,none⟩=some x19∧w.cell? ⟨g,20,none⟩=some x20∧w.cell? ⟨g,21,none⟩=some x21∧w.cell? ⟨g,22,none⟩=some x22∧w.cell? ⟨g,23,none⟩=some x23
theorem Bpc {w:World} {g:Nat} {t:TypeId} {x0 x1 x2 x3 x4 x5 x6 x7 x8 x9 x10 x11 x12 x13 x14 x15 x16 x17 x18 x19 x20 x21 x22 x23:Value} (h:Bi w g [x0,x1,x2,x3,x4,x5,x6,x7,x8,x9,x10,x11,x12,x13,x14,x15,x16,x17,x18,x19,x20,x21,x22,x23] t):Bo1 w g x0 x1 x2 x3 x4 x5 x6 x7 x8 x9 x10 x11 x12 x13 x14 x15 x16 x17 x18 x19 x20 x21 x22 x23:=⟨h.cell 0,h.cell 1,h.cell 2,h.cell 3,h.cell 4,h.cell 5,h.cell 6,h.cell 7,h.cell 8,h.cell 9,h.cell 10,h.cell 11,h.cell 12,h.cell 13,h.cell 14,h.cell 15,h.cell 16,h.cell 17,h.cell 18,h.cell 19,h.cell 20,h.cell 21,h.cell 22,h.cell 23⟩
open Go.RowKit
def Er (m n:Nat):Int:=if m<n then -1 else if n<m then 1 else 0
theorem Kw {m n:Nat} (h:m<n):Er m n=-1:=by simp [Er,h]
theorem Mf {m n:Nat} (h:n<m):Er m n=1:=by simp [Er,h];omega
theorem Oh {m n:Nat} (h:m=n):Er m n=0:=by simp [Er,h]
theorem Bd1 (va vb:Value) (xs ys:List Nat) (w:World) (ha:Rd w va xs) (hb:Rd w vb ys) (la:M.Low Bb xs) (lb:M.Low Bb ys) (hx:xs.length≤100000) (hy:ys.length≤100000) :
  Calls Tryz.prog 226 #[va,vb] w (Re w (.int .i64 (Er (M.val Bb xs) (M.val Bb ys)))):=by
 have ha0:=ha
 have hb0:=hb
 obtain ⟨a,ca,rfl,hca,-⟩:=ha
 obtain ⟨b,cb,rfl,hcb,-⟩:=hb
 obtain ⟨n,hn⟩:∃ n,n=max xs.length ys.length:=⟨_,rfl⟩
 have hxn:xs.length≤n:=by omega
 have hyn:ys.length≤n:=by omega
 have hn4:n≤100000:=by omega
 have HN:Hid (n=max xs.length ys.length):=hn
 clear hn
 go_enter Tryz.func226,Tryz.ntmps226
 go_wp2_with fail
 refine (Fz _ _ _ _).mono ?_
 rintro e w1 ⟨rfl,rfl⟩
 go_wp2_with fail
 refine (Fz _ _ _ _).mono ?_
 rintro e w1 ⟨rfl,rfl⟩
 obtain ⟨w0,hw0⟩:∃ w0,w0=(w.alloc (.cells #[.slice a xs.length ca] 64)).alloc (.cells #[.slice b ys.length cb] 64):=⟨_,rfl⟩
 have hb0':Below w.heap.size w w0:=by subst hw0;go_grown
 have pA:w0.cell? ⟨w.heap.size,0,none⟩=some (.slice a xs.length ca):=by subst hw0;simp [go_sem]
 have pB:w0.cell? ⟨w.heap.size+1,0,none⟩=some (.slice b ys.length cb):=by subst hw0;simp [go_sem]
 have rA:=ha0.b hb0'
 have rB:=hb0.b hb0'
 rw [← hw0]
 clear hw0
 go_wp2_with fail
 all_goals
  go_loopw [7] (fun i wr=>∃ k:Nat,k≤n∧i=.int .i64 ((k:Int) - 1)∧(∀ j,k≤j→lm xs j=lm ys j)∧wr=w0) (fun i _=>(intOf i+1).toNat)
  case atStart=>exact ⟨n,Jb _,by have:=HN.out;congr 1;omega,fun j hj=>by rw [Ek (by omega),Ek (by omega)],rfl⟩
  case round =>
   obtain ⟨k,hk,rfl,heq,rfl⟩:=hrel
   have HE:Hid (∀ j,k≤j→lm xs j=lm ys j):=heq
   clear heq
   match k with
   | 0 =>
    have hv:M.val Bb xs=M.val Bb ys:=M.val_ext _ (fun j=>HE.out j (by omega))
    have HV:Hid (Er (M.val Bb xs) (M.val Bb ys)=0):=Oh hv
    clear hv
    go_wp2
    go_ret
    exact ⟨by rw [HV.out];rfl,hb0'⟩
   | k+1 =>
    have e1:(((k+1:Nat):Int) - 1)=(k:Int):=by omega
    rw [e1]
    rcases Nat.lt_trichotomy (lm xs k) (lm ys k) with h | h | h
    ·have HV:Hid (Er (M.val Bb xs) (M.val Bb ys)=-1):=Kw (M.lt_of_top Bm k la (fun j hj=>HE.out j (by omega)) h)
     go_wp2_with fail
     refine (F6 k (by omega) wr _ xs _ pA rA).mono ?_
     rintro e w' ⟨rfl,rfl⟩
     go_wp2_with fail
     refine (F6 k (by omega) _ _ ys _ pB rB).mono ?_
     rintro e w' ⟨rfl,rfl⟩
     go_wp2
     go_ret
     exact ⟨by rw [HV.out];rfl,hb0'⟩
    ·have HQ:Hid (lm xs k=lm ys k):=h
     have h1:¬ lm xs k<lm ys k:=by omega
     have h2:¬ lm ys k<lm xs k:=by omega
     clear h
     go_wp2_with fail
     refine (F6 k (by omega) wr _ xs _ pA rA).mono ?_
     rintro e w' ⟨rfl,rfl⟩
     go_wp2_with fail
     refine (F6 k (by omega) _ _ ys _ pB rB).mono ?_
     rintro e w' ⟨rfl,rfl⟩
     go_wp2
     go_roundw
     case rel=>exact ⟨k,by omega,by go_num,fun j hj=>by
      by_cases e:j=k
      ·subst e;exact HQ.out
      ·exact HE.out j (by omega),(by trivial)⟩
     case measure=>simp [intOf]
    ·have HV:Hid (Er (M.val Bb xs) (M.val Bb ys)=1):=Mf (M.lt_of_top Bm k lb (fun j hj=>(HE.out j (by omega)).symm) h)
     have h1:¬ lm xs k<lm ys k:=by omega
     go_wp2_with fail
     refine (F6 k (by omega) wr _ xs _ pA rA).mono ?_
     rintro e w' ⟨rfl,rfl⟩
     go_wp2_with fail
     refine (F6 k (by omega) _ _ ys _ pB rB).mono ?_
     rintro e w' ⟨rfl,rfl⟩
     go_wp2
     go_ret
     exact ⟨by rw [HV.out];rfl,hb0'⟩
theorem Bk6 (va vb:Value) (xs ys:List Nat) (w:World) (ha:Rd w va xs) (hb:Rd w vb ys) (la:M.Low Bb xs) (lb:M.Low Bb ys) (hx:xs.length≤4000) (hy:ys.length≤4000) :
  Calls Tryz.prog 198 #[va,vb] w (Re w (.tuple #[.int .i64 (Er (M.val Bb xs) (M.val Bb ys)),.int .i64 0])):=by
 have ha0:=ha
 have hb0:=hb
 obtain ⟨a,ca,rfl,hca,-⟩:=ha
 obtain ⟨b,cb,rfl,hcb,-⟩:=hb
 go_enter Tryz.func198,Tryz.ntmps198
 go_wp2_with fail
 refine (Hx a b xs.length ys.length ca cb _ 0 2 _ (by simp [go_sem]) (by simp [go_sem]) hx hy).mono ?_
 rintro e w1 ⟨rfl,rfl⟩
 have hb0':Below w.heap.size w (w.alloc (.cells #[.slice a xs.length ca,.slice b ys.length cb] 64)):=by go_grown
 go_wp2_with fail
 refine (Bd1 _ _ xs ys _ (ha0.b hb0') (hb0.b hb0') la lb (by omega) (by omega)).mono ?_
 rintro e w1 ⟨rfl,hbel⟩
 go_wp2
 go_ret2
 exact ⟨rfl,Ia hb0' hbel⟩
end Go.Proofs.YtnplifkgeeicjaaGreatDoor
