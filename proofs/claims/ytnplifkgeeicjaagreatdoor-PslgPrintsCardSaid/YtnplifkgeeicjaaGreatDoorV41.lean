import Derived.Lib.FieldsP
import Derived.Test.YtnplifkgeeicjaaGreatDoorV18
namespace Go.Proofs.YtnplifkgeeicjaaGreatDoor
abbrev Q3:=Bool × ByteArray × ByteArray
abbrev St:=Option (List ByteArray)
abbrev eS:ByteArray:=⟨#[]⟩
def nx:St→ByteArray × St
 | some (t :: l)=>(t,some l)
 | _=>(eS,none)
def wd (c:ByteArray) (s:St):St:=if (nx s).1=c then (nx s).2 else none
def We:List Nat→Nat→Option Nat
 | [],n=>some n
 | c :: l,n=>if c<48∨57<c then none else We l (10*n+(c - 48))
def Qq (t:ByteArray):Option Nat:=if t.size<1∨3<t.size∨(lm (Bj t) 0=48∧1<t.size) then none else We (Bj t) 0
def Fm (m:Int) (t:ByteArray):Option Nat:=(Qq t).filter fun n=>decide ((n:Int)≤m)
def ct (m:Int) (s:St):Nat × St:=match Fm m (nx s).1 with | some n=>(n,(nx s).2) | none=>(0,none)
def nu (P:ByteArray→Q3) (E:ByteArray→Int) (s:St):Q3 × St:=(P (nx s).1,if E (nx s).1=0 then (nx s).2 else none)
def pt (P:ByteArray→Q3) (E:ByteArray→Int) (s:St):(Q3 × Q3) × St:=(((nu P E s).1,(nu P E (nu P E s).2).1),(nu P E (nu P E s).2).2)
abbrev tD:ByteArray:=⟨#[100]⟩
abbrev tN:ByteArray:=⟨#[110]⟩
def kd (s:St):Bool × St:=(decide ((nx s).1=tD),if (nx s).1=tD∨(nx s).1=tN then (nx s).2 else none)
def sg (m:Int) (s:St):(Nat × Nat × Bool) × St :=
 (((ct m s).1,(ct m (ct m s).2).1,(kd (ct m (ct m s).2).2).1),(kd (ct m (ct m s).2).2).2)
def Kh {α:Type} (f:St→α × St):Nat→St→List α × St
 | 0,s=>([],s)
 | n+1,s=>((f s).1 :: (Kh f n (f s).2).1,(Kh f n (f s).2).2)
theorem Np {α:Type} (f:St→α × St):∀ (n:Nat) (s:St),Kh f (n+1) s=((Kh f n s).1 ++ [(f (Kh f n s).2).1],(f (Kh f n s).2).2)
 | 0,s=>rfl
 | n+1,s=>by
  rw [Kh,Np f n (f s).2]
  rfl
theorem Kl {α:Type} (f:St→α × St):∀ (n:Nat) (s:St),(Kh f n s).1.length=n
 | 0,_=>rfl
 | n+1,s=>by rw [Kh,List.length_cons,Kl f n]
def Ow {α:Type} (f:St→α × St) (c:ByteArray) (m:Int) (s:St):List α × St:=Kh f (ct m (wd c s)).1 (ct m (wd c s)).2
structure Pl where
 pts:List (Q3 × Q3)
 segs:List (Nat × Nat × Bool)
 holes:List (Q3 × Q3)
 F:List Q3
 G:List Q3
abbrev wP:ByteArray:=⟨#[112,115,108,103]⟩
abbrev wV:ByteArray:=⟨#[118]⟩
abbrev wS:ByteArray:=⟨#[115]⟩
abbrev wH:ByteArray:=⟨#[104]⟩
abbrev wF:ByteArray:=⟨#[102]⟩
abbrev wG:ByteArray:=⟨#[103]⟩
abbrev wE:ByteArray:=⟨#[101,110,100]⟩
def r1 (P:ByteArray→Q3) (E:ByteArray→Int) (l:List ByteArray):List (Q3 × Q3) × St:=Ow (pt P E) wV 40 (wd wP (some l))
def r2 (P:ByteArray→Q3) (E:ByteArray→Int) (l:List ByteArray):List (Nat × Nat × Bool) × St:=Ow (sg (((r1 P E l).1.length:Int) - 1)) wS 60 (r1 P E l).2
def r3 (P:ByteArray→Q3) (E:ByteArray→Int) (l:List ByteArray):List (Q3 × Q3) × St:=Ow (pt P E) wH 10 (r2 P E l).2
def r4 (P:ByteArray→Q3) (E:ByteArray→Int) (l:List ByteArray):List Q3 × St:=Kh (nu P E) 6 (wd wF (r3 P E l).2)
def r5 (P:ByteArray→Q3) (E:ByteArray→Int) (l:List ByteArray):List Q3 × St:=Kh (nu P E) 6 (wd wG (r4 P E l).2)
def r6 (P:ByteArray→Q3) (E:ByteArray→Int) (l:List ByteArray):St:=wd wE (r5 P E l).2
def rpl (P:ByteArray→Q3) (E:ByteArray→Int) (l:List ByteArray):Pl:=⟨(r1 P E l).1,(r2 P E l).1,(r3 P E l).1,(r4 P E l).1,(r5 P E l).1⟩
def Qb (P:ByteArray→Q3) (E:ByteArray→Int) (l:List ByteArray):Option Pl:=if r6 P E l=some [] then some (rpl P E l) else none
abbrev RS:=List ByteArray × Bool
def Kc:RS→ByteArray × RS
 | ([],_)=>(eS,([],true))
 | (t :: l,b)=>(t,(l,b))
def Ss (c:ByteArray) (s:RS):RS:=((Kc s).2.1,(Kc s).2.2 || decide ((Kc s).1≠c))
def Gf (m:Int) (s:RS):Nat × RS:=match Fm m (Kc s).1 with | some n=>(n,(Kc s).2) | none=>(0,((Kc s).2.1,true))
def Tb (P:ByteArray→Q3) (E:ByteArray→Int) (s:RS):Q3 × RS:=(P (Kc s).1,((Kc s).2.1,(Kc s).2.2 || decide (E (Kc s).1≠0)))
def Wc (P:ByteArray→Q3) (E:ByteArray→Int) (s:RS):(Q3 × Q3) × RS:=(((Tb P E s).1,(Tb P E (Tb P E s).2).1),(Tb P E (Tb P E s).2).2)
def kdR (s:RS):Bool × RS:=(decide ((Kc s).1=tD),((Kc s).2.1,(Kc s).2.2 || decide ((Kc s).1≠tD∧(Kc s).1≠tN)))
def Wb (m:Int) (s:RS):(Nat × Nat × Bool) × RS :=
 (((Gf m s).1,(Gf m (Gf m s).2).1,(kdR (Gf m (Gf m s).2).2).1),(kdR (Gf m (Gf m s).2).2).2)
def Fg {α:Type} (f:RS→α × RS):Nat→RS→List α × RS
 | 0,s=>([],s)
 | n+1,s=>if s.2 then ([],s) else ((f s).1 :: (Fg f n (f s).2).1,(Fg f n (f s).2).2)
def Nq {α:Type} (f:RS→α × RS):Nat→RS→List α × RS
 | 0,s=>([],s)
 | n+1,s=>((f s).1 :: (Nq f n (f s).2).1,(Nq f n (f s).2).2)
theorem Tx {α:Type} (f:RS→α × RS):∀ (n:Nat) (s:RS),Nq f (n+1) s=((Nq f n s).1 ++ [(f (Nq f n s).2).1],(f (Nq f n s).2).2)
 | 0,s=>rfl
 | n+1,s=>by
  rw [Nq,Tx f n (f s).2]
  rfl
def SR (s:St) (r:RS):Prop:=(∃ l,s=some l∧r=(l,false))∨(s=none∧r.2=true)
theorem SR.some {l:List ByteArray} {r:RS} (h:SR (some l) r):r=(l,false):=by
 rcases h with ⟨l',h1,h2⟩ | ⟨h,-⟩
 ·injection h1 with h1;subst h1;exact h2
 ·cases h
theorem N0 {r:RS} (h:r.2=true):(Kc r).2.2=true:=by
 obtain ⟨l,b⟩:=r
 cases l with
 | nil=>rfl
 | cons t l=>exact h
theorem SR.nx {s:St} {r:RS} (h:SR s r):SR (nx s).2 (Kc r).2∧(s≠Option.none→(Kc r).1=(nx s).1):=by
 rcases h with ⟨l,rfl,rfl⟩ | ⟨rfl,hr⟩
 ·cases l with
  | nil=>exact ⟨Or.inr ⟨rfl,rfl⟩,fun _=>rfl⟩
  | cons t l=>exact ⟨Or.inl ⟨l,rfl,rfl⟩,fun _=>rfl⟩
 ·exact ⟨Or.inr ⟨rfl,N0 hr⟩,fun h=>absurd rfl h⟩
theorem SR.wd {s:St} {r:RS} (h:SR s r) (c:ByteArray):SR (wd c s) (Ss c r):=by
 obtain ⟨h1,h2⟩:=h.nx
 by_cases hs:s=Option.none
 ·subst hs
  rcases h with ⟨l,h,-⟩ | ⟨-,hr⟩
  ·cases h
  ·refine Or.inr ⟨?_,?_⟩
   ·unfold YtnplifkgeeicjaaGreatDoor.wd;split <;> rfl
   ·unfold Ss;rw [N0 hr];rfl
 ·have e:=h2 hs
  unfold YtnplifkgeeicjaaGreatDoor.wd Ss
  rw [e]
  by_cases hw:(YtnplifkgeeicjaaGreatDoor.nx s).1=c
  ·rw [if_pos hw]
   have:((Kc r).2.1,(Kc r).2.2 || decide ((YtnplifkgeeicjaaGreatDoor.nx s).1≠c))=(Kc r).2:=by simp [hw]
   rw [this]
   exact h1
  ·rw [if_neg hw]
   exact Or.inr ⟨rfl,by simp [hw]⟩
theorem SR.ct {s:St} {r:RS} (h:SR s r) (m:Int):SR (ct m s).2 (Gf m r).2∧((ct m s).2≠Option.none→(Gf m r).1=(ct m s).1):=by
 obtain ⟨h1,h2⟩:=h.nx
 by_cases hs:s=Option.none
 ·subst hs
  have e:(YtnplifkgeeicjaaGreatDoor.ct m Option.none).2=Option.none:=by unfold YtnplifkgeeicjaaGreatDoor.ct;split <;> rfl
  rcases h with ⟨l,h,-⟩ | ⟨-,hr⟩
  ·cases h
  ·refine ⟨Or.inr ⟨e,?_⟩,fun hh=>absurd e hh⟩
   unfold Gf
   split
   ·exact N0 hr
   ·rfl
 ·have e:=h2 hs
  unfold YtnplifkgeeicjaaGreatDoor.ct Gf
  rw [e]
  cases Fm m (YtnplifkgeeicjaaGreatDoor.nx s).1 with
  | none=>exact ⟨Or.inr ⟨rfl,rfl⟩,fun hh=>absurd rfl hh⟩
  | some n=>exact ⟨h1,fun _=>rfl⟩
theorem SR.nu {s:St} {r:RS} (h:SR s r) (P:ByteArray→Q3) (E:ByteArray→Int):SR (nu P E s).2 (Tb P E r).2∧((nu P E s).2≠Option.none→(Tb P E r).1=(nu P E s).1):=by
 obtain ⟨h1,h2⟩:=h.nx
 by_cases hs:s=Option.none
 ·subst hs
  have e:(YtnplifkgeeicjaaGreatDoor.nu P E Option.none).2=Option.none:=by unfold YtnplifkgeeicjaaGreatDoor.nu;simp only;split <;> rfl
  rcases h with ⟨l,h,-⟩ | ⟨-,hr⟩
  ·cases h
  ·refine ⟨Or.inr ⟨e,?_⟩,fun hh=>absurd e hh⟩
   unfold Tb;rw [N0 hr];rfl
 ·have e:=h2 hs
  unfold YtnplifkgeeicjaaGreatDoor.nu Tb
  simp only [e]
  refine ⟨?_,fun _=>trivial⟩
  by_cases hw:E (YtnplifkgeeicjaaGreatDoor.nx s).1=0
  ·rw [if_pos hw]
   have:((Kc r).2.1,(Kc r).2.2 || decide (E (YtnplifkgeeicjaaGreatDoor.nx s).1≠0))=(Kc r).2:=by simp [hw]
   rw [this]
   exact h1
  ·rw [if_neg hw]
   exact Or.inr ⟨rfl,by simp [hw]⟩
theorem Dr (P:ByteArray→Q3) (E:ByteArray→Int):(nu P E none).2=none:=by unfold nu;simp only;split <;> rfl
theorem Qp (m:Int):(ct m none).2=none:=by unfold ct;split <;> rfl
theorem Mb:(kd none).2=none:=by unfold kd;simp only;split <;> rfl
theorem Gl (P:ByteArray→Q3) (E:ByteArray→Int):(pt P E none).2=none:=by unfold pt;simp only [Dr]
theorem Lt (m:Int):(sg m none).2=none:=by unfold sg;simp only [Qp,Mb]
theorem Dd {α:Type} {f:St→α × St} (h:(f none).2=none):∀ n,(Kh f n none).2=none
 | 0=>rfl
 | n+1=>by rw [Kh,h];exact Dd h n
theorem SR.pt {s:St} {r:RS} (h:SR s r) (P:ByteArray→Q3) (E:ByteArray→Int):SR (pt P E s).2 (Wc P E r).2∧((pt P E s).2≠Option.none→(Wc P E r).1=(pt P E s).1):=by
 obtain ⟨h1,h2⟩:=h.nu P E
 obtain ⟨h3,h4⟩:=h1.nu P E
 refine ⟨h3,fun hh=>?_⟩
 unfold Wc YtnplifkgeeicjaaGreatDoor.pt
 have e4:=h4 hh
 have e2:=h2 (fun e=>hh (by unfold YtnplifkgeeicjaaGreatDoor.pt;simp only;rw [e];exact Dr P E))
 simp only [e4,e2]
theorem SR.kd {s:St} {r:RS} (h:SR s r):SR (kd s).2 (kdR r).2∧((kd s).2≠Option.none→(kdR r).1=(kd s).1):=by
 obtain ⟨h1,h2⟩:=h.nx
 by_cases hs:s=Option.none
 ·subst hs
  rcases h with ⟨l,h,-⟩ | ⟨-,hr⟩
  ·cases h
  ·refine ⟨Or.inr ⟨Mb,?_⟩,fun hh=>absurd Mb hh⟩
   unfold kdR;rw [N0 hr];rfl
 ·have e:=h2 hs
  unfold YtnplifkgeeicjaaGreatDoor.kd kdR
  simp only [e]
  refine ⟨?_,fun _=>trivial⟩
  by_cases hw:(YtnplifkgeeicjaaGreatDoor.nx s).1=tD∨(YtnplifkgeeicjaaGreatDoor.nx s).1=tN
  ·rw [if_pos hw]
   have:((Kc r).2.1,(Kc r).2.2 || decide ((YtnplifkgeeicjaaGreatDoor.nx s).1≠tD∧(YtnplifkgeeicjaaGreatDoor.nx s).1≠tN))=(Kc r).2:=by
    have:¬ ((YtnplifkgeeicjaaGreatDoor.nx s).1≠tD∧(YtnplifkgeeicjaaGreatDoor.nx s).1≠tN):=by rcases hw with h | h <;> simp [h]
    simp only [this,decide_false,Bool.or_false]
   rw [this]
   exact h1
  ·rw [if_neg hw]
   refine Or.inr ⟨rfl,?_⟩
   have:((YtnplifkgeeicjaaGreatDoor.nx s).1≠tD∧(YtnplifkgeeicjaaGreatDoor.nx s).1≠tN):=⟨fun h=>hw (Or.inl h),fun h=>hw (Or.inr h)⟩
   simp only [this,ne_eq,not_false_eq_true,and_self,decide_true,Bool.or_true]
theorem SR.sg {s:St} {r:RS} (h:SR s r) (m:Int):SR (sg m s).2 (Wb m r).2∧((sg m s).2≠Option.none→(Wb m r).1=(sg m s).1):=by
 obtain ⟨h1,h2⟩:=h.ct m
 obtain ⟨h3,h4⟩:=h1.ct m
 obtain ⟨h5,h6⟩:=h3.kd
 refine ⟨h5,fun hh=>?_⟩
 have e6:=h6 hh
 have e4:=h4 (fun e=>hh (by unfold YtnplifkgeeicjaaGreatDoor.sg;simp only;rw [e];exact Mb))
 have e2:=h2 (fun e=>hh (by unfold YtnplifkgeeicjaaGreatDoor.sg;simp only;rw [e,Qp];exact Mb))
 unfold Wb YtnplifkgeeicjaaGreatDoor.sg
 simp only [e2,e4,e6]
theorem SR.rep {α:Type} {f:St→α × St} {g:RS→α × RS} (hf:(f Option.none).2=Option.none) (H:∀ s r,SR s r→SR (f s).2 (g r).2∧((f s).2≠Option.none→(g r).1=(f s).1)) :
  ∀ (n:Nat) (s:St) (r:RS),SR s r→SR (YtnplifkgeeicjaaGreatDoor.Kh f n s).2 (Fg g n r).2∧((YtnplifkgeeicjaaGreatDoor.Kh f n s).2≠Option.none→(Fg g n r).1=(YtnplifkgeeicjaaGreatDoor.Kh f n s).1)
 | 0,s,r,h=>⟨h,fun _=>rfl⟩
 | n+1,s,r,h=>by
  rcases h with ⟨l,rfl,rfl⟩ | ⟨rfl,hr⟩
  ·obtain ⟨h1,h2⟩:=H _ _ (Or.inl ⟨l,rfl,rfl⟩)
   obtain ⟨h3,h4⟩:=SR.rep hf H n _ _ h1
   rw [YtnplifkgeeicjaaGreatDoor.Kh,Fg,if_neg (by simp)]
   refine ⟨h3,fun hh=>?_⟩
   simp only
   rw [h4 hh,h2 (fun e=>hh (by simp only;rw [e];exact Dd hf n))]
  ·have e:=Dd hf (n+1)
   rw [Fg,if_pos hr]
   exact ⟨Or.inr ⟨e,hr⟩,fun hh=>absurd e hh⟩
theorem SR.repA {α:Type} {f:St→α × St} {g:RS→α × RS} (hf:(f Option.none).2=Option.none) (H:∀ s r,SR s r→SR (f s).2 (g r).2∧((f s).2≠Option.none→(g r).1=(f s).1)) :
  ∀ (n:Nat) (s:St) (r:RS),SR s r→SR (YtnplifkgeeicjaaGreatDoor.Kh f n s).2 (YtnplifkgeeicjaaGreatDoor.Nq g n r).2∧((YtnplifkgeeicjaaGreatDoor.Kh f n s).2≠Option.none→(YtnplifkgeeicjaaGreatDoor.Nq g n r).1=(YtnplifkgeeicjaaGreatDoor.Kh f n s).1)
 | 0,s,r,h=>⟨h,fun _=>rfl⟩
 | n+1,s,r,h=>by
  obtain ⟨h1,h2⟩:=H _ _ h
  obtain ⟨h3,h4⟩:=SR.repA hf H n _ _ h1
  rw [YtnplifkgeeicjaaGreatDoor.Kh,YtnplifkgeeicjaaGreatDoor.Nq]
  refine ⟨h3,fun hh=>?_⟩
  simp only
  rw [h4 hh,h2 (fun e=>hh (by simp only;rw [e];exact Dd hf n))]
def lsR {α:Type} (f:RS→α × RS) (c:ByteArray) (m:Int) (s:RS):List α × RS:=Fg f (Gf m (Ss c s)).1 (Gf m (Ss c s)).2
def q1 (P:ByteArray→Q3) (E:ByteArray→Int) (l:List ByteArray):List (Q3 × Q3) × RS:=lsR (Wc P E) wV 40 (Ss wP (l,false))
def q2 (P:ByteArray→Q3) (E:ByteArray→Int) (l:List ByteArray):List (Nat × Nat × Bool) × RS:=lsR (Wb (((q1 P E l).1.length:Int) - 1)) wS 60 (q1 P E l).2
def q3 (P:ByteArray→Q3) (E:ByteArray→Int) (l:List ByteArray):List (Q3 × Q3) × RS:=lsR (Wc P E) wH 10 (q2 P E l).2
def q4 (P:ByteArray→Q3) (E:ByteArray→Int) (l:List ByteArray):List Q3 × RS:=Nq (Tb P E) 6 (Ss wF (q3 P E l).2)
def q5 (P:ByteArray→Q3) (E:ByteArray→Int) (l:List ByteArray):List Q3 × RS:=Nq (Tb P E) 6 (Ss wG (q4 P E l).2)
def q6 (P:ByteArray→Q3) (E:ByteArray→Int) (l:List ByteArray):RS:=Ss wE (q5 P E l).2
def qpl (P:ByteArray→Q3) (E:ByteArray→Int) (l:List ByteArray):Pl:=⟨(q1 P E l).1,(q2 P E l).1,(q3 P E l).1,(q4 P E l).1,(q5 P E l).1⟩
theorem El (c:ByteArray):wd c none=none:=by unfold wd;split <;> rfl
theorem Ku {α:Type} {f:St→α × St} (h:(f none).2=none) (c:ByteArray) (m:Int):(Ow f c m none).2=none:=by
 unfold Ow
 rw [El,Qp]
 exact Dd h _
theorem SR.lsP {α:Type} {f:St→α × St} {g:RS→α × RS} (hf:(f Option.none).2=Option.none) (H:∀ s r,SR s r→SR (f s).2 (g r).2∧((f s).2≠Option.none→(g r).1=(f s).1))
  (c:ByteArray) (m:Int) {s:St} {r:RS} (h:SR s r):SR (Ow f c m s).2 (lsR g c m r).2∧((Ow f c m s).2≠Option.none→(lsR g c m r).1=(Ow f c m s).1):=by
 obtain ⟨h1,h2⟩:=(h.wd c).ct m
 by_cases hn:(YtnplifkgeeicjaaGreatDoor.ct m (YtnplifkgeeicjaaGreatDoor.wd c s)).2=Option.none
 ·have e:(YtnplifkgeeicjaaGreatDoor.Ow f c m s).2=Option.none:=by unfold YtnplifkgeeicjaaGreatDoor.Ow;rw [hn];exact Dd hf _
  rw [hn] at h1
  have hb:(Gf m (Ss c r)).2.2=true:=by
   rcases h1 with ⟨l,h,-⟩ | ⟨-,h⟩
   ·cases h
   ·exact h
  refine ⟨Or.inr ⟨e,?_⟩,fun hh=>absurd e hh⟩
  unfold lsR
  cases (Gf m (Ss c r)).1 with
  | zero=>exact hb
  | succ n=>rw [Fg,if_pos hb];exact hb
 ·unfold YtnplifkgeeicjaaGreatDoor.Ow lsR
  rw [h2 hn]
  exact SR.rep hf H _ _ _ h1
theorem Be5 (P:ByteArray→Q3) (E:ByteArray→Int) (l:List ByteArray) :
  (r6 P E l=some []↔q6 P E l=([],false))∧(r6 P E l=some []→qpl P E l=rpl P E l):=by
 have h0:SR (some l) (l,false):=Or.inl ⟨l,rfl,rfl⟩
 obtain ⟨a1,b1⟩:=SR.lsP (Gl P E) (fun s r h=>h.pt P E) wV 40 (h0.wd wP)
 have k1:(r1 P E l).2=none→r6 P E l=none:=fun e=>by
  unfold r6 r5 r4 r3 r2
  rw [e,Ku (Lt _),Ku (Gl P E),El,Dd (Dr P E),El,Dd (Dr P E),El]
 by_cases n1:(r1 P E l).2=none
 ·-- refused ahead of the segments: refused at the end
  have e:=k1 n1
  have hb:(q1 P E l).2.2=true:=by
   have:SR none (q1 P E l).2:=by rw [← n1];exact a1
   rcases this with ⟨l,h,-⟩ | ⟨-,h⟩
   ·cases h
   ·exact h
  have a2:∀ m:Int,SR (none:St) (lsR (Wb m) wS 60 (q1 P E l).2).2:=fun m=>by
   have:=(SR.lsP (Lt m) (fun s r h=>h.sg m) wS 60 (s:=none) (r:=(q1 P E l).2) (Or.inr ⟨rfl,hb⟩)).1
   rwa [Ku (Lt m)] at this
  have a3:=(SR.lsP (Gl P E) (fun s r h=>h.pt P E) wH 10 (a2 (((q1 P E l).1.length:Int) - 1))).1
  have a4:=(SR.repA (Dr P E) (fun s r h=>h.nu P E) 6 _ _ (a3.wd wF)).1
  have a5:=(SR.repA (Dr P E) (fun s r h=>h.nu P E) 6 _ _ (a4.wd wG)).1
  have a6:=a5.wd wE
  rw [Ku (Gl P E),El,Dd (Dr P E),El,Dd (Dr P E),El] at a6
  have a7:SR none (q6 P E l):=a6
  rw [e]
  refine ⟨⟨fun h=>(by cases h),fun h=>?_⟩,fun h=>by cases h⟩
  rw [h] at a7
  rcases a7 with ⟨l,h,-⟩ | ⟨-,h⟩ <;> cases h
 ·have c1:(q1 P E l).1=(r1 P E l).1:=b1 n1
  obtain ⟨a2,b2⟩:=SR.lsP (Lt (((r1 P E l).1.length:Int) - 1)) (fun s r h=>h.sg (((r1 P E l).1.length:Int) - 1)) wS 60 a1
  have c2:lsR (Wb (((r1 P E l).1.length:Int) - 1)) wS 60 (lsR (Wc P E) wV 40 (Ss wP (l,false))).2=q2 P E l:=by unfold q2;rw [c1];rfl
  rw [c2] at a2 b2
  obtain ⟨a3,b3⟩:=SR.lsP (Gl P E) (fun s r h=>h.pt P E) wH 10 a2
  obtain ⟨a4,b4⟩:=SR.repA (Dr P E) (fun s r h=>h.nu P E) 6 _ _ (a3.wd wF)
  obtain ⟨a5,b5⟩:=SR.repA (Dr P E) (fun s r h=>h.nu P E) 6 _ _ (a4.wd wG)
  have a6:SR (r6 P E l) (q6 P E l):=a5.wd wE
  refine ⟨⟨fun h=>?_,fun h=>?_⟩,fun h=>?_⟩
  ·rw [h] at a6;exact a6.some
  ·rw [h] at a6
   rcases a6 with ⟨l',h1,h2⟩ | ⟨-,h2⟩
   ·injection h2 with h2
    rw [h1,h2]
   ·cases h2
  ·have n5:(r5 P E l).2≠none:=fun e=>by unfold r6 at h;rw [e,El] at h;cases h
   have n4:(r4 P E l).2≠none:=fun e=>n5 (by unfold r5;rw [e,El];exact Dd (Dr P E) _)
   have n3:(r3 P E l).2≠none:=fun e=>n4 (by unfold r4;rw [e,El];exact Dd (Dr P E) _)
   have n2:(r2 P E l).2≠none:=fun e=>n3 (by unfold r3;rw [e];exact Ku (Gl P E) _ _)
   have d2:(q2 P E l).1=(r2 P E l).1:=b2 n2
   have d3:(q3 P E l).1=(r3 P E l).1:=b3 n3
   have d4:(q4 P E l).1=(r4 P E l).1:=b4 n4
   have d5:(q5 P E l).1=(r5 P E l).1:=b5 n5
   unfold qpl rpl
   rw [c1,d2,d3,d4,d5]
theorem Bbi (c:ByteArray) (l:List ByteArray):wd c (some (c :: l))=some l:=if_pos rfl
theorem Bh6 {m:Int} {t:ByteArray} {n:Nat} (h:Fm m t=some n) (l:List ByteArray):ct m (some (t :: l))=(n,some l):=by
 unfold ct
 show (match Fm m t with | some n=>(n,some l) | none=>(0,none))=_
 rw [h]
theorem Bgz {P:ByteArray→Q3} {E:ByteArray→Int} {t:ByteArray} (h:E t=0) (l:List ByteArray):nu P E (some (t :: l))=(P t,some l):=by
 show (P t,if E t=0 then some l else none)=_
 rw [if_pos h]
theorem Bl2 {P:ByteArray→Q3} {E:ByteArray→Int} {t u:ByteArray} (h:E t=0) (k:E u=0) (l:List ByteArray):pt P E (some (t :: u :: l))=((P t,P u),some l):=by
 unfold pt
 rw [Bgz h,Bgz k]
theorem Bor {t:ByteArray} (h:t=tD∨t=tN) (l:List ByteArray):kd (some (t :: l))=(decide (t=tD),some l):=by
 show (decide (t=tD),if t=tD∨t=tN then some l else none)=_
 rw [if_pos h]
theorem Bn7 {m:Int} {t u v:ByteArray} {a b:Nat} (h:Fm m t=some a) (k:Fm m u=some b) (hv:v=tD∨v=tN) (l:List ByteArray):sg m (some (t :: u :: v :: l))=((a,b,decide (v=tD)),some l):=by
 unfold sg
 rw [Bh6 h,Bh6 k,Bor hv]
theorem U8 {α β:Type} {f:St→α × St} (g:β→List ByteArray) (v:β→α) (r:List ByteArray):∀ l:List β,(∀ b,b∈l→∀ r,f (some (g b ++ r))=(v b,some r))→Kh f l.length (some (l.flatMap g ++ r))=(l.map v,some r)
 | [],_=>rfl
 | b :: l,h=>by
  rw [List.length_cons,Kh,List.flatMap_cons,List.append_assoc,h b List.mem_cons_self]
  rw [U8 g v r l (fun c hc=>h c (List.mem_cons_of_mem _ hc))]
  rfl
theorem Bg6 {α β:Type} {f:St→α × St} (g:β→List ByteArray) (v:β→α) (r:List ByteArray) (c n:ByteArray) (m:Int) (l:List β) (hn:Fm m n=some l.length) (h:∀ b,b∈l→∀ r,f (some (g b ++ r))=(v b,some r)) :
  Ow f c m (some (c :: n :: (l.flatMap g ++ r)))=(l.map v,some r):=by
 unfold Ow
 rw [Bbi,Bh6 hn]
 exact U8 g v r l h
def gP (t:ByteArray × ByteArray):List ByteArray:=[t.1,t.2]
def gS (t:ByteArray × ByteArray × ByteArray):List ByteArray:=[t.1,t.2.1,t.2.2]
def vPJ (P:ByteArray→Q3) (t:ByteArray × ByteArray):Q3 × Q3:=(P t.1,P t.2)
def vSJ (t:ByteArray × ByteArray × ByteArray):Nat × Nat × Bool:=((Qq t.1).getD 0,(Qq t.2.1).getD 0,decide (t.2.2=tD))
def tk3 (tf tg:List ByteArray):List ByteArray:=wF :: (tf ++ wG :: (tg ++ [wE]))
def tk2 (n3:ByteArray) (th:List (ByteArray × ByteArray)) (tf tg:List ByteArray):List ByteArray:=wH :: n3 :: (th.flatMap gP ++ tk3 tf tg)
def tk1 (n2 n3:ByteArray) (ts:List (ByteArray × ByteArray × ByteArray)) (th:List (ByteArray × ByteArray)) (tf tg:List ByteArray):List ByteArray:=wS :: n2 :: (ts.flatMap gS ++ tk2 n3 th tf tg)
def tk0 (n1 n2 n3:ByteArray) (tp:List (ByteArray × ByteArray)) (ts:List (ByteArray × ByteArray × ByteArray)) (th:List (ByteArray × ByteArray)) (tf tg:List ByteArray):List ByteArray:=wP :: wV :: n1 :: (tp.flatMap gP ++ tk1 n2 n3 ts th tf tg)
def OkP (E:ByteArray→Int) (l:List (ByteArray × ByteArray)):Prop:=∀ t,t∈l→E t.1=0∧E t.2=0
def OkT (m:Int) (l:List (ByteArray × ByteArray × ByteArray)):Prop:=∀ t,t∈l→(∃ a,Fm m t.1=some a)∧(∃ a,Fm m t.2.1=some a)∧(t.2.2=tD∨t.2.2=tN)
theorem Yn {m:Int} {t:ByteArray} {n:Nat} (h:Fm m t=some n):Qq t=some n:=by
 unfold Fm at h
 rw [Option.filter_eq_some_iff] at h
 exact h.1
theorem Boh {P:ByteArray→Q3} {E:ByteArray→Int} (n1:ByteArray) (tp:List (ByteArray × ByteArray)) (r:List ByteArray) (hn:Fm 40 n1=some tp.length) (hp:OkP E tp):r1 P E (wP :: wV :: n1 :: (tp.flatMap gP ++ r))=(tp.map (vPJ P),some r):=by
 unfold r1
 rw [Bbi]
 exact Bg6 gP (vPJ P) r wV n1 40 tp hn (fun t ht r=>Bl2 (hp t ht).1 (hp t ht).2 r)
theorem Bog {P:ByteArray→Q3} {E:ByteArray→Int} {l:List ByteArray} {pts:List (Q3 × Q3)} (n2:ByteArray) (ts:List (ByteArray × ByteArray × ByteArray)) (r:List ByteArray) (h1:r1 P E l=(pts,some (wS :: n2 :: (ts.flatMap gS ++ r)))) (hn:Fm 60 n2=some ts.length) (hs:OkT ((pts.length:Int) - 1) ts):r2 P E l=(ts.map vSJ,some r):=by
 unfold r2
 rw [h1]
 refine Bg6 gS vSJ r wS n2 60 ts hn (fun t ht r=>?_)
 obtain ⟨⟨a,ha⟩,⟨b,hb⟩,hk⟩:=hs t ht
 have:=Bn7 ha hb hk r
 unfold vSJ
 rw [Yn ha,Yn hb]
 exact this
theorem Bof {P:ByteArray→Q3} {E:ByteArray→Int} {l:List ByteArray} {segs:List (Nat × Nat × Bool)} (n3:ByteArray) (th:List (ByteArray × ByteArray)) (r:List ByteArray) (h2:r2 P E l=(segs,some (wH :: n3 :: (th.flatMap gP ++ r)))) (hn:Fm 10 n3=some th.length) (hp:OkP E th):r3 P E l=(th.map (vPJ P),some r):=by
 unfold r3
 rw [h2]
 exact Bg6 gP (vPJ P) r wH n3 10 th hn (fun t ht r=>Bl2 (hp t ht).1 (hp t ht).2 r)
theorem Bfy {P:ByteArray→Q3} {E:ByteArray→Int} (tf r:List ByteArray) (c:ByteArray) (h6:tf.length=6) (hE:∀ t,t∈tf→E t=0):Kh (nu P E) 6 (wd c (some (c :: (tf ++ r))))=(tf.map P,some r):=by
 rw [Bbi]
 have:=U8 (f:=nu P E) (fun t=>[t]) P r tf (fun t ht r=>Bgz (hE t ht) r)
 rw [h6,List.flatMap_singleton'] at this
 exact this
theorem Bjr {P:ByteArray→Q3} {E:ByteArray→Int} (n1 n2 n3:ByteArray) (tp:List (ByteArray × ByteArray)) (ts:List (ByteArray × ByteArray × ByteArray)) (th:List (ByteArray × ByteArray)) (tf tg:List ByteArray)
  (hn1:Fm 40 n1=some tp.length) (hn2:Fm 60 n2=some ts.length) (hn3:Fm 10 n3=some th.length) (hp:OkP E tp) (hs:OkT ((tp.length:Int) - 1) ts) (hh:OkP E th) (f6:tf.length=6) (g6:tg.length=6) (hf:∀ t,t∈tf→E t=0) (hg:∀ t,t∈tg→E t=0) :
  Qb P E (tk0 n1 n2 n3 tp ts th tf tg)=some ⟨tp.map (vPJ P),ts.map vSJ,th.map (vPJ P),tf.map P,tg.map P⟩:=by
 have a1:r1 P E (tk0 n1 n2 n3 tp ts th tf tg)=(tp.map (vPJ P),some (tk1 n2 n3 ts th tf tg)):=Boh n1 tp _ hn1 hp
 have a2:r2 P E (tk0 n1 n2 n3 tp ts th tf tg)=(ts.map vSJ,some (tk2 n3 th tf tg)):=Bog n2 ts _ a1 hn2 (by rw [List.length_map];exact hs)
 have a3:r3 P E (tk0 n1 n2 n3 tp ts th tf tg)=(th.map (vPJ P),some (tk3 tf tg)):=Bof n3 th _ a2 hn3 hh
 have a4:r4 P E (tk0 n1 n2 n3 tp ts th tf tg)=(tf.map P,some (wG :: (tg ++ [wE]))):=by
  unfold r4
  rw [a3]
  exact Bfy tf _ wF f6 hf
 have a5:r5 P E (tk0 n1 n2 n3 tp ts th tf tg)=(tg.map P,some [wE]):=by
  unfold r5
  rw [a4]
  exact Bfy tg _ wG g6 hg
 have a6:r6 P E (tk0 n1 n2 n3 tp ts th tf tg)=some []:=by
  unfold r6
  rw [a5]
  exact Bbi wE []
 unfold Qb rpl
 rw [if_pos a6,a1,a2,a3,a4,a5]
theorem Qh {α:Type} {f:St→α × St} (hf:(f none).2=none) (Q:α→Prop) (hQ:∀ s,(f s).2≠none→Q (f s).1):∀ (n:Nat) (s:St),(Kh f n s).2≠none→∀ x,x∈(Kh f n s).1→Q x
 | 0,s,_,x,hx=>by cases hx
 | n+1,s,h,x,hx=>by
  rw [Kh] at h hx
  rcases List.mem_cons.1 hx with rfl | hx
  ·exact hQ s fun e=>h (by show (Kh f n (f s).2).2=none;rw [e];exact Dd hf n)
  ·exact Qh hf Q hQ n _ h x hx
theorem Ve {P:ByteArray→Q3} {E:ByteArray→Int} (s:St) (h:(nu P E s).2≠none):∃ t,E t=0∧(nu P E s).1=P t:=by
 refine ⟨(nx s).1,Classical.byContradiction fun hn=>h ?_,rfl⟩
 show (if E (nx s).1=0 then (nx s).2 else none)=none
 rw [if_neg hn]
theorem Ba3 {m:Int} (s:St) (h:(ct m s).2≠none):(((ct m s).1:Nat):Int)≤m:=by
 unfold ct at h ⊢
 split
 ·rename_i n hn
  unfold Fm at hn
  rw [Option.filter_eq_some_iff] at hn
  exact of_decide_eq_true hn.2
 ·rename_i hn
  rw [hn] at h
  exact absurd rfl h
theorem Bgl {P:ByteArray→Q3} {E:ByteArray→Int} (s:St) (h:(pt P E s).2≠none):(∃ t,E t=0∧(pt P E s).1.1=P t)∧∃ t,E t=0∧(pt P E s).1.2=P t:=by
 refine ⟨Ve s fun e=>h ?_,Ve _ h⟩
 unfold pt
 show (nu P E (nu P E s).2).2=none
 rw [e,Dr]
theorem Bms {m:Int} (s:St) (h:(sg m s).2≠none):(((sg m s).1.1:Nat):Int)≤m∧(((sg m s).1.2.1:Nat):Int)≤m:=by
 have h2:(ct m (ct m s).2).2≠none:=fun e=>h (by unfold sg;show (kd (ct m (ct m s).2).2).2=none;rw [e,Mb])
 have h1:(ct m s).2≠none:=fun e=>h2 (by rw [e,Qp])
 exact ⟨Ba3 s h1,Ba3 _ h2⟩
theorem Bak {α:Type} {f:St→α × St} (hf:(f none).2=none) (Q:α→Prop) (hQ:∀ s,(f s).2≠none→Q (f s).1) (c:ByteArray) (m:Int) (s:St) (h:(Ow f c m s).2≠none):(((Ow f c m s).1.length:Nat):Int)≤m∧∀ x,x∈(Ow f c m s).1→Q x:=by
 unfold Ow at h ⊢
 refine ⟨?_,Qh hf Q hQ _ _ h⟩
 rw [Kl]
 exact Ba3 _ fun e=>h (by rw [e];exact Dd hf _)
theorem Bgt {P:ByteArray→Q3} {E:ByteArray→Int} {l:List ByteArray} {p:Pl} (h:Qb P E l=some p) :
  p.pts.length≤40∧p.segs.length≤60∧p.holes.length≤10∧p.F.length=6∧p.G.length=6 ∧
  (∀ q,q∈p.pts→(∃ t,E t=0∧q.1=P t)∧∃ t,E t=0∧q.2=P t)∧(∀ q,q∈p.holes→(∃ t,E t=0∧q.1=P t)∧∃ t,E t=0∧q.2=P t) ∧
  (∀ s,s∈p.segs→s.1+1≤p.pts.length∧s.2.1+1≤p.pts.length)∧(∀ q,q∈p.F→∃ t,E t=0∧q=P t)∧∀ q,q∈p.G→∃ t,E t=0∧q=P t:=by
 unfold Qb at h
 split at h
 ·rename_i h6
  obtain rfl:=Option.some.inj h
  have n5:(r5 P E l).2≠none:=fun e=>by unfold r6 at h6;rw [e,El] at h6;cases h6
  have n4:(r4 P E l).2≠none:=fun e=>n5 (by unfold r5;rw [e,El];exact Dd (Dr P E) _)
  have n3:(r3 P E l).2≠none:=fun e=>n4 (by unfold r4;rw [e,El];exact Dd (Dr P E) _)
  have n2:(r2 P E l).2≠none:=fun e=>n3 (by unfold r3;rw [e];exact Ku (Gl P E) _ _)
  have n1:(r1 P E l).2≠none:=fun e=>n2 (by unfold r2;rw [e];exact Ku (Lt _) _ _)
  have k1:(((r1 P E l).1.length:Nat):Int)≤40∧∀ q,q∈(r1 P E l).1→(∃ t,E t=0∧q.1=P t)∧∃ t,E t=0∧q.2=P t:=by
   unfold r1 at n1 ⊢
   exact Bak (Gl P E) (fun q=>(∃ t,E t=0∧q.1=P t)∧∃ t,E t=0∧q.2=P t) Bgl wV 40 _ n1
  have k2:(((r2 P E l).1.length:Nat):Int)≤60∧∀ s,s∈(r2 P E l).1→((s.1:Nat):Int)≤((r1 P E l).1.length:Int) - 1∧((s.2.1:Nat):Int)≤((r1 P E l).1.length:Int) - 1:=by
   unfold r2 at n2 ⊢
   exact Bak (Lt (((r1 P E l).1.length:Int) - 1)) (fun s=>((s.1:Nat):Int)≤((r1 P E l).1.length:Int) - 1∧((s.2.1:Nat):Int)≤((r1 P E l).1.length:Int) - 1) Bms wS 60 _ n2
  have k3:(((r3 P E l).1.length:Nat):Int)≤10∧∀ q,q∈(r3 P E l).1→(∃ t,E t=0∧q.1=P t)∧∃ t,E t=0∧q.2=P t:=by
   unfold r3 at n3 ⊢
   exact Bak (Gl P E) (fun q=>(∃ t,E t=0∧q.1=P t)∧∃ t,E t=0∧q.2=P t) Bgl wH 10 _ n3
  have k4:(r4 P E l).1.length=6∧∀ q,q∈(r4 P E l).1→∃ t,E t=0∧q=P t:=by
   unfold r4 at n4 ⊢
   exact ⟨Kl _ _ _,Qh (Dr P E) (fun q=>∃ t,E t=0∧q=P t) Ve 6 _ n4⟩
  have k5:(r5 P E l).1.length=6∧∀ q,q∈(r5 P E l).1→∃ t,E t=0∧q=P t:=by
   unfold r5 at n5 ⊢
   exact ⟨Kl _ _ _,Qh (Dr P E) (fun q=>∃ t,E t=0∧q=P t) Ve 6 _ n5⟩
  clear n1 n2 n3 n4 n5 h h6
  unfold rpl
  generalize (r1 P E l).1=A1 at *
  generalize (r2 P E l).1=A2 at *
  generalize (r3 P E l).1=A3 at *
  generalize (r4 P E l).1=A4 at *
  generalize (r5 P E l).1=A5 at *
  refine ⟨?_,?_,?_,k4.1,k5.1,k1.2,k3.2,fun s hs=>?_,k4.2,k5.2⟩
  ·have:=k1.1;show A1.length≤40;omega
  ·have:=k2.1;show A2.length≤60;omega
  ·have:=k3.1;show A3.length≤10;omega
  ·obtain ⟨d1,d2⟩:=k2.2 s hs
   show s.1+1≤A1.length∧s.2.1+1≤A1.length
   omega
 ·cases h
end Go.Proofs.YtnplifkgeeicjaaGreatDoor
