import Derived.Below
import Derived.Deep.MidRow
import Derived.Deep.RegionHeld3
import Derived.Laws.Rows
import Derived.Laws.Tables
import Derived.Test.YtnplifkgeeicjaaGreatDoorProg
namespace Go.Proofs.YtnplifkgeeicjaaGreatDoor
open Go.RowKit
theorem Jb:type_of% @Nat.le_refl:=@Nat.le_refl
theorem Jc:type_of% @wp_region_held_drew:=@wp_region_held_drew
theorem Jd:type_of% @yieldsIf_load_mid:=@yieldsIf_load_mid
theorem Je:type_of% @wpList_load_row:=@wpList_load_row
theorem Jf:type_of% @Nat.le_trans:=@Nat.le_trans
theorem Jg:type_of% @Below.refl:=@Below.refl
theorem Jh:type_of% @List.getD_eq_getElem?_getD:=@List.getD_eq_getElem?_getD
theorem Ji:type_of% @List.length_append:=@List.length_append
theorem Jj:type_of% @wpList_store_row:=@wpList_store_row
theorem Jk:type_of% @wpList_store_mid:=@wpList_store_mid
theorem Jl:type_of% @Nat.lt_of_lt_of_le:=@Nat.lt_of_lt_of_le
theorem Jm:type_of% @List.getElem?_cons_succ:=@List.getElem?_cons_succ
theorem Jn:type_of% @List.getElem?_cons_zero:=@List.getElem?_cons_zero
theorem Jo:type_of% @Nat.mul_le_mul_right:=@Nat.mul_le_mul_right
/-
  Plain arithmetic of rows of digits: no Go here.
-/
namespace M
def val (b:Nat):List Nat→Nat
 | []=>0
 | x :: r=>x+b*val b r
def digsF (b:Nat):Nat→Nat→List Nat
 | 0,_=>[]
 | f+1,n=>if b<2∨n=0 then [] else n % b :: digsF b f (n / b)
def digs (b n:Nat):List Nat:=digsF b n n
theorem digsF_fuel {b:Nat} (hb:2≤b):∀ (f g n:Nat),n≤f→n≤g→digsF b f n=digsF b g n
 | 0,0,_,_,_=>rfl
 | 0,g+1,n,h,_=>by
  have:n=0:=by omega
  subst this;simp [digsF]
 | f+1,0,n,_,h=>by
  have:n=0:=by omega
  subst this;simp [digsF]
 | f+1,g+1,n,h1,h2=>by
  by_cases hn:n=0
  ·subst hn;simp [digsF]
  ·have:n / b<n:=Nat.div_lt_self (by omega) (by omega)
   simp only [digsF]
   rw [if_neg (by omega),if_neg (by omega),digsF_fuel hb f g (n / b) (by omega) (by omega)]
theorem digs_zero (b:Nat):digs b 0=[]:=rfl
theorem digs_pos {b n:Nat} (hb:2≤b) (hn:0<n):digs b n=n % b :: digs b (n / b):=by
 obtain ⟨m,rfl⟩:∃ m,n=m+1:=⟨n - 1,by omega⟩
 have:(m+1) / b<m+1:=Nat.div_lt_self (by omega) (by omega)
 unfold digs
 rw [digsF,if_neg (by omega),digsF_fuel hb m ((m+1) / b) _ (by omega) (Jb _)]
theorem val_digs {b:Nat} (hb:2≤b) (n:Nat):val b (digs b n)=n:=by
 induction n using Nat.strongRecOn with
 | _ n ih =>
  by_cases hn:n=0
  ·subst hn;rw [digs_zero];rfl
  ·rw [digs_pos hb (by omega)]
   simp only [val]
   rw [ih (n / b) (Nat.div_lt_self (by omega) (by omega))]
   exact Nat.mod_add_div n b
theorem digs_lt {b:Nat} (hb:2≤b) (n:Nat):∀ x∈digs b n,x<b:=by
 induction n using Nat.strongRecOn with
 | _ n ih =>
  by_cases hn:n=0
  ·subst hn;rw [digs_zero];simp
  ·rw [digs_pos hb (by omega)]
   intro x hx
   rcases List.mem_cons.1 hx with h | h
   ·subst h;exact Nat.mod_lt _ (by omega)
   ·exact ih (n / b) (Nat.div_lt_self (by omega) (by omega)) x h
def Low (b:Nat) (xs:List Nat):Prop:=∀ x∈xs,x<b
theorem Low.nil (b:Nat):Low b []:=by intro x hx;simp at hx
theorem Low.cons {b x:Nat} {xs:List Nat} (h:x<b) (hs:Low b xs):Low b (x :: xs):=by
 intro y hy;rcases List.mem_cons.1 hy with e | e
 ·subst e;exact h
 ·exact hs y e
theorem Low.head {b x:Nat} {xs:List Nat} (h:Low b (x :: xs)):x<b:=h x (by simp)
theorem Low.tail {b x:Nat} {xs:List Nat} (h:Low b (x :: xs)):Low b xs:=fun y hy=>h y (by simp [hy])
theorem Low.take {b:Nat} {xs:List Nat} (h:Low b xs) (n:Nat):Low b (xs.take n):=fun x hx=>h x (List.mem_of_mem_take hx)
theorem Low.drop {b:Nat} {xs:List Nat} (h:Low b xs) (n:Nat):Low b (xs.drop n):=fun x hx=>h x (List.mem_of_mem_drop hx)
theorem Low.append {b:Nat} {xs ys:List Nat} (h:Low b xs) (k:Low b ys):Low b (xs ++ ys):=by
 intro x hx;rcases List.mem_append.1 hx with e | e
 ·exact h x e
 ·exact k x e
theorem Low.snoc {b x:Nat} {xs:List Nat} (h:Low b xs) (k:x<b):Low b (xs ++ [x]):=h.append (Low.cons k (Low.nil b))
theorem Low.getD {b:Nat} (hb:0<b) {xs:List Nat} (h:Low b xs) (j:Nat):xs.getD j 0<b:=by
 rw [Jh]
 by_cases hj:j<xs.length
 ·rw [List.getElem?_eq_getElem hj];exact h _ (List.getElem_mem hj)
 ·rw [List.getElem?_eq_none (by omega)];exact hb
theorem Low.digs {b:Nat} (hb:2≤b) (n:Nat):Low b (digs b n):=digs_lt hb n
theorem Low.replicate (b n:Nat) (hb:0<b):Low b (List.replicate n 0):=by
 intro x hx;rw [List.mem_replicate] at hx;omega
theorem val_nil (b:Nat):val b []=0:=rfl
theorem val_cons (b x:Nat) (xs:List Nat):val b (x :: xs)=x+b*val b xs:=rfl
theorem val_append (b:Nat) (xs ys:List Nat):val b (xs ++ ys)=val b xs+b ^ xs.length*val b ys:=by
 induction xs with
 | nil=>simp [val]
 | cons x xs ih =>
  simp only [List.cons_append,val,List.length_cons,ih,Nat.pow_succ]
  rw [Nat.mul_add,Nat.add_assoc,Nat.mul_comm (b ^ xs.length) b,Nat.mul_assoc]
theorem val_snoc (b:Nat) (xs:List Nat) (x:Nat):val b (xs ++ [x])=val b xs+b ^ xs.length*x:=by
 rw [val_append];simp [val]
theorem val_replicate (b n:Nat):val b (List.replicate n 0)=0:=by
 induction n with
 | zero=>rfl
 | succ n ih=>simp [List.replicate_succ,val,ih]
theorem val_zeros (b:Nat):∀ (xs:List Nat),(∀ x∈xs,x=0)→val b xs=0
 | [],_=>rfl
 | x :: xs,h=>by
  rw [val_cons,val_zeros b xs (fun y hy=>h y (by simp [hy])),h x (by simp)];simp
theorem val_lt {b:Nat} (hb:0<b):∀ {xs:List Nat},Low b xs→val b xs<b ^ xs.length
 | [],_=>by simp [val]
 | x :: xs,h=>by
  have h1:=val_lt hb h.tail
  have h2:=h.head
  rw [val_cons,List.length_cons,Nat.pow_succ,Nat.mul_comm _ b]
  have h3:b*(val b xs+1)≤b*b ^ xs.length:=Nat.mul_le_mul_left b h1
  rw [Nat.mul_add] at h3
  omega
def Trim (xs:List Nat):Prop:=∀ n,xs.length=n+1→xs.getD n 0≠0
theorem val_pos_of_trim {b:Nat} (hb:0<b):∀ {xs:List Nat},Trim xs→xs≠[]→0<val b xs
 | [],_,h=>absurd rfl h
 | [x],h,_=>by
  have:=h 0 rfl
  simp at this
  simp [val];omega
 | x :: y :: xs,h,_=>by
  have h':Trim (y :: xs):=by
   intro n hn
   have:=h (n+1) (by simp at hn ⊢;omega)
   simpa using this
  have h2:=val_pos_of_trim hb h' (by simp)
  rw [val_cons]
  have:0<b*val b (y :: xs):=Nat.mul_pos hb h2
  omega
theorem eq_digs {b:Nat} (hb:2≤b):∀ {xs:List Nat},Low b xs→Trim xs→xs=digs b (val b xs)
 | [],_,_=>by rw [val_nil,digs_zero]
 | x :: xs,hl,ht=>by
  have hp:0<val b (x :: xs):=val_pos_of_trim (by omega) ht (by simp)
  have hx:=hl.head
  have e1:val b (x :: xs) % b=x:=by rw [val_cons,Nat.add_mul_mod_self_left,Nat.mod_eq_of_lt hx]
  have e2:val b (x :: xs) / b=val b xs:=by
   rw [val_cons,Nat.add_mul_div_left _ _ (by omega),Nat.div_eq_of_lt hx,Nat.zero_add]
  have ht':Trim xs:=by
   intro n hn
   have:=ht (n+1) (by simp [hn])
   simpa using this
  rw [digs_pos hb hp,e1,e2,← eq_digs hb hl.tail ht']
theorem trim_digs {b:Nat} (hb:2≤b) (n:Nat):Trim (digs b n):=by
 induction n using Nat.strongRecOn with
 | _ n ih =>
  by_cases hn:n=0
  ·subst hn;rw [digs_zero];intro k hk;simp at hk
  ·rw [digs_pos hb (by omega)]
   intro k hk
   simp at hk
   match k with
   | 0 =>
    simp
    intro e
    have hz:digs b (n / b)=[]:=List.length_eq_zero_iff.1 hk
    have:=val_digs hb (n / b)
    rw [hz] at this
    simp [val] at this
    have h2:=Nat.mod_add_div n b
    rw [e,← this] at h2
    simp at h2;omega
   | k+1 =>
    simpa using ih (n / b) (Nat.div_lt_self (by omega) (by omega)) k hk
theorem take_eq_digs {b:Nat} (hb:2≤b) {xs:List Nat} {n:Nat} (hl:Low b xs) (hn:n≤xs.length) (hz:∀ j,n≤j→xs.getD j 0=0) (ht:∀ k,n=k+1→xs.getD k 0≠0) :
  xs.take n=digs b (val b xs):=by
 have e:val b xs=val b (xs.take n):=by
  conv=>lhs;rw [← List.take_append_drop n xs]
  rw [val_append,val_zeros b (xs.drop n),Nat.mul_zero,Nat.add_zero]
  intro x hx
  obtain ⟨j,hj,rfl⟩:=List.mem_iff_getElem.1 hx
  have:=hz (n+j) (by omega)
  rw [Jh] at this
  simp at hj
  rw [List.getElem?_eq_getElem (by omega)] at this
  simpa using this
 rw [e]
 refine eq_digs hb (hl.take n) ?_
 intro k hk
 simp at hk
 have hk':n=k+1:=by omega
 have:=ht k hk'
 rw [Jh] at this ⊢
 rw [List.getElem?_take_of_lt (by omega)]
 exact this
theorem digs_length_le {b:Nat} (hb:2≤b) {xs:List Nat} (hl:Low b xs):(digs b (val b xs)).length≤xs.length:=by
 have h1:=val_lt (by omega) hl
 by_cases h:(digs b (val b xs)).length≤xs.length
 ·exact h
 ·exfalso
  -- a trimmed row of more digits has a greater value
  have hne:digs b (val b xs)≠[]:=by intro e;rw [e] at h;simp at h
  have key:∀ (ys:List Nat),Trim ys→ys≠[]→b ^ (ys.length - 1)≤val b ys:=by
   intro ys
   induction ys with
   | nil=>intro _ h;exact absurd rfl h
   | cons y ys ih =>
    intro ht _
    by_cases hy:ys=[]
    ·subst hy;have:=ht 0 rfl;simp at this;simp [val];omega
    ·have ht':Trim ys:=by
      intro n hn
      have:=ht (n+1) (by simp [hn])
      simpa using this
     have:=ih ht' hy
     rw [val_cons]
     have hlen:(y :: ys).length - 1=(ys.length - 1)+1:=by
      have:0<ys.length:=List.length_pos_iff.2 hy
      simp;omega
     rw [hlen,Nat.pow_succ,Nat.mul_comm _ b]
     have:=Nat.mul_le_mul_left b this
     omega
  have k1:=key _ (trim_digs hb (val b xs)) hne
  rw [val_digs hb] at k1
  have k2:b ^ xs.length≤b ^ ((digs b (val b xs)).length - 1):=Nat.pow_le_pow_right (by omega) (by omega)
  omega
theorem val_take_succ (b:Nat) (xs:List Nat) (k:Nat):val b (xs.take (k+1))=val b (xs.take k)+b ^ k*xs.getD k 0:=by
 by_cases h:k<xs.length
 ·rw [List.take_succ_eq_append_getElem h,val_snoc]
  have e:(xs.take k).length=k:=by simp;omega
  rw [e,Jh,List.getElem?_eq_getElem h];rfl
 ·rw [List.take_of_length_le (by omega),List.take_of_length_le (by omega),Jh,List.getElem?_eq_none (by omega)]
  simp
theorem val_take_all (b:Nat) (xs:List Nat) (k:Nat) (h:xs.length≤k):val b (xs.take k)=val b xs:=by rw [List.take_of_length_le h]
theorem set_append_replicate (zs:List Nat) (m x:Nat):(zs ++ List.replicate (m+1) 0).set zs.length x=(zs ++ [x]) ++ List.replicate m 0:=by
 rw [List.set_append_right _ _ (Jb _)]
 simp [List.replicate_succ]
theorem carry_zero {b:Nat} (hb:2≤b) {xs ys:List Nat} {V n c:Nat} (la:Low b xs) (lb:Low b ys) (hx:xs.length<n) (hy:ys.length<n) (hc:c≤1) (h4:V+b ^ n*c=val b xs+val b ys):V=val b xs+val b ys:=by
 have e1:=val_lt (by omega) la
 have e2:=val_lt (by omega) lb
 obtain ⟨m,rfl⟩:∃ m,n=m+1:=⟨n - 1,by omega⟩
 have p1:b ^ xs.length≤b ^ m:=Nat.pow_le_pow_right (by omega) (by omega)
 have p2:b ^ ys.length≤b ^ m:=Nat.pow_le_pow_right (by omega) (by omega)
 have:c=0:=by
  by_cases hc0:c=0
  ·exact hc0
  ·have:c=1:=by omega
   subst this
   rw [Nat.pow_succ] at h4
   have:b ^ m*2≤b ^ m*b:=Nat.mul_le_mul_left _ hb
   omega
 subst this
 omega
theorem val_hd (b:Nat) (xs:List Nat):val b xs=xs.getD 0 0+b*val b xs.tail:=by
 cases xs <;> simp [val]
theorem tail_getD (xs:List Nat) (j:Nat):xs.tail.getD j 0=xs.getD (j+1) 0:=by
 cases xs <;> simp
theorem val_ext_aux (b:Nat):∀ (n:Nat) (xs ys:List Nat),xs.length≤n→ys.length≤n→(∀ j,xs.getD j 0=ys.getD j 0)→val b xs=val b ys
 | 0,xs,ys,hx,hy,_=>by
  rw [List.length_eq_zero_iff.1 (by omega:xs.length=0),List.length_eq_zero_iff.1 (by omega:ys.length=0)]
 | n+1,xs,ys,hx,hy,h=>by
  rw [val_hd b xs,val_hd b ys,h 0,val_ext_aux b n xs.tail ys.tail (by simp;omega) (by simp;omega) (fun j=>by rw [tail_getD,tail_getD];exact h (j+1))]
theorem val_ext (b:Nat) {xs ys:List Nat} (h:∀ j,xs.getD j 0=ys.getD j 0):val b xs=val b ys :=
 val_ext_aux b (max xs.length ys.length) xs ys (by omega) (by omega) h
theorem Low.tl {b:Nat} {xs:List Nat} (h:Low b xs):Low b xs.tail:=fun x hx=>h x (List.mem_of_mem_tail hx)
theorem lt_of_top {b:Nat} (hb:0<b):∀ (k:Nat) {xs ys:List Nat},Low b xs→(∀ j,k<j→xs.getD j 0=ys.getD j 0)→xs.getD k 0<ys.getD k 0→val b xs<val b ys
 | 0,xs,ys,_,h,hlt=>by
  rw [val_hd b xs,val_hd b ys,val_ext b (xs:=xs.tail) (ys:=ys.tail) (fun j=>by rw [tail_getD,tail_getD];exact h (j+1) (by omega))]
  omega
 | k+1,xs,ys,la,h,hlt=>by
  have ih:=lt_of_top hb k (xs:=xs.tail) (ys:=ys.tail) la.tl (fun j hj=>by rw [tail_getD,tail_getD];exact h (j+1) (by omega)) (by rw [tail_getD,tail_getD];exact hlt)
  have h0:=la.getD hb 0
  rw [val_hd b xs,val_hd b ys]
  have:b*(val b xs.tail+1)≤b*val b ys.tail:=Nat.mul_le_mul_left b ih
  rw [Nat.mul_add] at this
  omega
end M
namespace M
structure Eu (a b c d X Y X' Y':Nat):Prop where
 x:X=d*X'+b*Y'
 y:Y=c*X'+a*Y'
 u:a*d=b*c+1∨b*c=a*d+1
theorem Eu.refl (X Y:Nat):Eu 1 0 0 1 X Y X Y:=⟨by omega,by omega,by omega⟩
theorem Eu.step {a b c d X Y X' Y' q R:Nat} (h:Eu a b c d X Y X' Y') (hq:X'=q*Y'+R):Eu c d (a+q*c) (b+q*d) X Y Y' R:=by
 obtain ⟨h1,h2,h3⟩:=h
 refine ⟨?_,?_,?_⟩
 ·rw [h1,hq,Nat.mul_add,Nat.add_mul]
  have:d*(q*Y')=q*d*Y':=by rw [← Nat.mul_assoc,Nat.mul_comm d q]
  omega
 ·rw [h2,hq,Nat.mul_add,Nat.add_mul]
  have:c*(q*Y')=q*c*Y':=by rw [← Nat.mul_assoc,Nat.mul_comm c q]
  omega
 ·rw [Nat.mul_add,Nat.mul_add]
  have e1:c*(q*d)=d*(q*c):=by rw [Nat.mul_left_comm,Nat.mul_left_comm d q,Nat.mul_comm c d]
  have e2:c*b=b*c:=Nat.mul_comm ..
  have e3:d*a=a*d:=Nat.mul_comm ..
  omega
theorem Eu.trans {a b c d X Y X' Y' a2 b2 c2 d2 X2 Y2:Nat} (h:Eu a b c d X Y X' Y') (h2:Eu a2 b2 c2 d2 X' Y' X2 Y2) :
  Eu (a2*a+b2*c) (a2*b+b2*d) (c2*a+d2*c) (c2*b+d2*d) X Y X2 Y2:=by
 obtain ⟨h1,h2',h3⟩:=h
 obtain ⟨k1,k2,k3⟩:=h2
 refine ⟨?_,?_,?_⟩
 ·rw [h1,k1,k2];grind
 ·rw [h2',k1,k2];grind
 ·rcases h3 with h3 | h3 <;> rcases k3 with k3 | k3
  ·left;grind
  ·right;grind
  ·right;grind
  ·left;grind
theorem Eu.take {a b c d X Y X' Y':Nat} (h:Eu a b c d X Y X' Y') :
  (a*X=b*Y+X'∧d*Y=c*X+Y')∨(b*Y=a*X+X'∧c*X=d*Y+Y'):=by
 obtain ⟨h1,h2,h3⟩:=h
 rcases h3 with h3 | h3
 ·left
  rw [h1,h2]
  constructor <;> grind
 ·right
  rw [h1,h2]
  constructor <;> grind
theorem Eu.gcd {a b c d X Y X' Y':Nat} (h:Eu a b c d X Y X' Y'):Nat.gcd X' Y'=Nat.gcd X Y:=by
 apply Nat.dvd_antisymm
 ·apply Nat.dvd_gcd
  ·rw [h.x];exact Nat.dvd_add (Nat.dvd_mul_left_of_dvd (Nat.gcd_dvd_left ..) _) (Nat.dvd_mul_left_of_dvd (Nat.gcd_dvd_right ..) _)
  ·rw [h.y];exact Nat.dvd_add (Nat.dvd_mul_left_of_dvd (Nat.gcd_dvd_left ..) _) (Nat.dvd_mul_left_of_dvd (Nat.gcd_dvd_right ..) _)
 ·have dx:=Nat.gcd_dvd_left X Y
  have dy:=Nat.gcd_dvd_right X Y
  generalize Nat.gcd X Y=g at *
  have m1:∀ k,g ∣ k*X:=fun k=>Nat.dvd_mul_left_of_dvd dx k
  have m2:∀ k,g ∣ k*Y:=fun k=>Nat.dvd_mul_left_of_dvd dy k
  rcases h.take with ⟨e1,e2⟩ | ⟨e1,e2⟩
  ·exact Nat.dvd_gcd ((Nat.dvd_add_right (m2 b)).1 (e1 ▸ m1 a)) ((Nat.dvd_add_right (m1 c)).1 (e2 ▸ m2 d))
  ·exact Nat.dvd_gcd ((Nat.dvd_add_right (m1 a)).1 (e1 ▸ m2 b)) ((Nat.dvd_add_right (m2 d)).1 (e2 ▸ m1 c))
end M
namespace M
structure Lead (m S x y X Y:Int):Prop where
 x1:-S<4*(m*X - x*S)
 x2:4*(m*X - x*S)<5*S
 y1:-S<4*(m*Y - y*S)
 y2:4*(m*Y - y*S)<5*S
def Few (x y a b c d p r:Nat):Prop :=
 (a=1∧b=0∧c=0∧d=1∧p=x∧r=y) ∨
 (1≤b∧1≤c∧c≤d∧a≤b∧1≤d∧r<p∧∀ m S X Y:Nat,0<m→0<S→Lead m S x y X Y →
  ∃ X' Y':Nat,Eu a b c d X Y X' Y'∧0<Y'∧Y'<X' ∧
   -(6*(b*S:Int))≤4*(m*X' - p*S)∧4*(m*X' - p*S)≤6*(b*S:Int) ∧
   -(6*(d*S:Int))≤4*(m*Y' - r*S)∧4*(m*Y' - r*S)≤6*(d*S:Int))
theorem Few.zero (x y:Nat):Few x y 1 0 0 1 x y:=Or.inl ⟨rfl,rfl,rfl,rfl,rfl,rfl⟩
theorem sure {m S X' Y' p r q t b d:Nat} {E F:Int} (hm:0<m) (hS:0<S) (hp:p=q*r+t) (hd:1≤b+q*d) (t1:2*(b+q*d)≤t) (t2:2*(d+(b+q*d))+t≤r)
  (hF:F=m*Y' - r*S)
  (F1:-(6*(d*S:Int))≤4*F) (F2:4*F≤6*(d*S:Int)) (hE:E=m*X' - p*S)
  (G1:-(6*((b+q*d:Nat)*S:Int))≤4*(E - q*F)) (G2:4*(E - q*F)≤6*((b+q*d:Nat)*S:Int)) :
  ∃ R:Nat,X'=q*Y'+R∧0<R∧R<Y' ∧
   -(6*(d*S:Int))≤4*(m*Y' - r*S)∧4*(m*Y' - r*S)≤6*(d*S:Int) ∧
   -(6*((b+q*d:Nat)*S:Int))≤4*(m*R - t*S)∧4*(m*R - t*S)≤6*((b+q*d:Nat)*S:Int):=by
 generalize hD:b+q*d=D at *
 -- the rest
 have hG:E - q*F=m*((X':Int) - q*Y') - t*S:=by
  rw [hE,hF,hp]
  push_cast
  grind
 have k1:((2*D*S:Nat):Int)≤((t*S:Nat):Int):=Int.ofNat_le.2 (Jo S t1)
 have k2:((2*(d+D)+t)*S:Nat)≤r*S:=Jo S t2
 have k2':(((2*(d+D)+t)*S:Nat):Int)≤((r*S:Nat):Int):=Int.ofNat_le.2 k2
 have k0:0<D*S:=Nat.mul_pos (by omega) hS
 have k0':(0:Int)<((D*S:Nat):Int):=by omega
 have e1:((2*D*S:Nat):Int)=2*(D*S:Int):=by push_cast;rw [Int.mul_assoc]
 have e2:(((2*(d+D)+t)*S:Nat):Int)=2*(d*S:Int)+2*(D*S:Int)+t*S:=by push_cast;grind
 have e3:((D*S:Nat):Int)=(D:Int)*S:=by push_cast;rfl
 have e4:((t*S:Nat):Int)=(t:Int)*S:=by push_cast;rfl
 have e5:((r*S:Nat):Int)=(r:Int)*S:=by push_cast;rfl
 rw [e1,e4] at k1
 rw [e2,e5] at k2'
 rw [e3] at k0'
 rw [hG] at G1 G2
 have pos:0<(m:Int)*((X':Int) - q*Y'):=by omega
 have pos':0<(X':Int) - q*Y':=by
  rcases Int.lt_or_le 0 ((X':Int) - q*Y') with h | h
  ·exact h
  ·have:=Int.mul_nonpos_of_nonneg_of_nonpos (a:=(m:Int)) (by omega) h
   omega
 obtain ⟨R,hR⟩:∃ R:Nat,(R:Int)=(X':Int) - q*Y':=⟨((X':Int) - q*Y').toNat,by omega⟩
 rw [← hR] at G1 G2 pos pos'
 rw [hF] at F1 F2
 have lt:(m:Int)*R<m*Y':=by omega
 refine ⟨R,?_,by omega,?_,F1,F2,G1,G2⟩
 ·have:(X':Int)=((q*Y'+R:Nat):Int):=by push_cast;omega
  omega
 ·have:=Int.lt_of_mul_lt_mul_left lt (by omega)
  omega
theorem Few.step {x y a b c d p r q t:Nat} (h:Few x y a b c d p r) (hxy:y≤x) (hp:p=q*r+t) (ht:t<r) (t1:2*(b+q*d)≤t) (t2:2*(d+(b+q*d))+t≤r) :
  Few x y c d (a+q*c) (b+q*d) r t:=by
 rcases h with ⟨rfl,rfl,rfl,rfl,rfl,rfl⟩ | ⟨hb,hc,hcd,hab,hd,hrp,H⟩
 ·have hq:1≤q:=by
   rcases Nat.eq_zero_or_pos q with h | h
   ·subst h;omega
   ·exact h
  refine Or.inr ⟨by omega,by omega,by omega,by omega,by omega,ht,fun m S X Y hm hS L=>?_⟩
  have kq:((S:Nat):Int)≤((q*S:Nat):Int):=by have:=Jo S hq;omega
  have eq:((q*S:Nat):Int)=(q:Int)*S:=by push_cast;rfl
  obtain ⟨l1,l2,l3,l4⟩:=L
  generalize hE:(m:Int)*X - p*S=E at l1 l2
  generalize hF:(m:Int)*Y - r*S=F at l3 l4
  have f1:(q:Int)*(4*F)≤q*(5*S):=Int.mul_le_mul_of_nonneg_left (by omega) (by omega)
  have f2:(q:Int)*(-S)≤q*(4*F):=Int.mul_le_mul_of_nonneg_left (by omega) (by omega)
  have g1:(q:Int)*(4*F)=4*(q*F):=by grind
  have g2:(q:Int)*(5*S)=5*(q*S):=by grind
  have g3:(q:Int)*(-S)=-(q*S):=by grind
  have ed:(((0+q*1:Nat):Int)*S)=(q:Int)*S:=by simp
  have ed1:((1:Nat):Int)*S=S:=by simp
  rw [g1,g2] at f1
  rw [g1,g3] at f2
  obtain ⟨R,e,r1,r2,w1,w2,w3,w4⟩:=sure (b:=0) (d:=1) hm hS hp (by omega) t1 t2 hF.symm (by rw [ed1];omega) (by rw [ed1];omega) hE.symm (by rw [ed];omega) (by rw [ed];omega)
  exact ⟨Y,R,(Eu.refl X Y).step e,r1,r2,w1,w2,w3,w4⟩
 ·have hq:1≤q:=by
   rcases Nat.eq_zero_or_pos q with h | h
   ·subst h;omega
   ·exact h
  have hqc:=Nat.mul_le_mul hq hc
  refine Or.inr ⟨by omega,by omega,?_,by omega,by omega,ht,fun m S X Y hm hS L=>?_⟩
  ·have:=Nat.mul_le_mul_left q hcd;omega
  obtain ⟨X',Y',eu,y0,yx,u1,u2,u3,u4⟩:=H m S X Y hm hS L
  generalize hE:(m:Int)*X' - p*S=E at u1 u2
  generalize hF:(m:Int)*Y' - r*S=F at u3 u4
  have f1:(q:Int)*(4*F)≤q*(6*(d*S)):=Int.mul_le_mul_of_nonneg_left u4 (by omega)
  have f2:(q:Int)*(-(6*(d*S)))≤q*(4*F):=Int.mul_le_mul_of_nonneg_left u3 (by omega)
  have g1:(q:Int)*(4*F)=4*(q*F):=by grind
  have g2:(q:Int)*(6*(d*S))=6*(q*d*S):=by grind
  have g3:(q:Int)*(-(6*(d*S)))=-(6*(q*d*S)):=by grind
  have ed:(((b+q*d:Nat):Int)*S)=(b:Int)*S+q*d*S:=by push_cast;grind
  rw [g1,g2] at f1
  rw [g1,g3] at f2
  obtain ⟨R,e,r1,r2,w1,w2,w3,w4⟩:=sure (b:=b) (d:=d) hm hS hp (by omega) t1 t2 hF.symm u3 u4 hE.symm (by rw [ed];omega) (by rw [ed];omega)
  exact ⟨Y',R,eu.step e,r1,r2,w1,w2,w3,w4⟩
end M
namespace M
theorem Few.small {x y a b c d p r K:Nat} (h:Few x y a b c d p r) (hb:b<K) (hd:d<K):a<K∧c<K∧1≤d:=by
 rcases h with ⟨h1,h2,h3,h4,-⟩ | ⟨-,h2,h3,h4,h5,-⟩ <;> omega
theorem Few.eu {x y a b c d p r:Nat} (h:Few x y a b c d p r) {m S X Y:Nat} (hm:0<m) (hS:0<S) (L:Lead m S x y X Y) (hYX:Y≤X) :
  ∃ X' Y',Eu a b c d X Y X' Y'∧Y'≤X'∧((a=1∧b=0∧c=0∧d=1)∨(0<Y'∧Y'<X'∧1≤b∧1≤c∧1≤d)):=by
 rcases h with ⟨rfl,rfl,rfl,rfl,-⟩ | ⟨h1,h2,h3,h4,h5,h6,H⟩
 ·exact ⟨X,Y,Eu.refl X Y,hYX,Or.inl ⟨rfl,rfl,rfl,rfl⟩⟩
 ·obtain ⟨X',Y',eu,k1,k2,-⟩:=H m S X Y hm hS L
  exact ⟨X',Y',eu,by omega,Or.inr ⟨k1,k2,h1,h2,h5⟩⟩
theorem lead_of {m S x y X Y e f:Nat} (h1:m*X=x*S+e) (he:e<S) (h2:m*Y=y*S+f) (hf:f<S):Lead m S x y X Y:=by
 have a1:(m:Int)*X - x*S=e:=by
  have:((m*X:Nat):Int)=((x*S+e:Nat):Int):=by rw [h1]
  push_cast at this;omega
 have a2:(m:Int)*Y - y*S=f:=by
  have:((m*Y:Nat):Int)=((y*S+f:Nat):Int):=by rw [h2]
  push_cast at this;omega
 refine ⟨?_,?_,?_,?_⟩ <;> first | rw [a1] | rw [a2]
 all_goals omega
theorem between {a b K R s t:Nat} (ha:a≤K) (hb:b≤K) (hs:s<R) (ht:t<R):-((K*R:Nat):Int)≤a*s - b*t∧(a:Int)*s - b*t≤((K*R:Nat):Int):=by
 have h1:a*s≤K*R:=Nat.mul_le_mul ha (by omega)
 have h2:b*t≤K*R:=Nat.mul_le_mul hb (by omega)
 have e1:(a:Int)*s=((a*s:Nat):Int):=by push_cast;rfl
 have e2:(b:Int)*t=((b*t:Nat):Int):=by push_cast;rfl
 rw [e1,e2]
 omega
theorem Eu.near {a b c d X Y X' Y' U V U' V' m R s t K:Nat} (h:Eu a b c d X Y X' Y') (k:Eu a b c d U V U' V') (hX:m*X=U*R+s) (hY:m*Y=V*R+t) (hs:s<R) (ht:t<R)
  (ha:a≤K) (hb:b≤K) (hc:c≤K) (hd:d≤K) :
  (-((K*R:Nat):Int)≤m*X' - U'*R∧(m:Int)*X' - U'*R≤((K*R:Nat):Int))∧(-((K*R:Nat):Int)≤m*Y' - V'*R∧(m:Int)*Y' - V'*R≤((K*R:Nat):Int)):=by
 have iX:(m:Int)*X=U*R+s:=by exact_mod_cast hX
 have iY:(m:Int)*Y=V*R+t:=by exact_mod_cast hY
 have b1:=between ha hb hs ht
 have b2:=between hd hc ht hs
 have hx:(X:Int)=d*X'+b*Y':=by exact_mod_cast h.x
 have hy:(Y:Int)=c*X'+a*Y':=by exact_mod_cast h.y
 have kx:(U:Int)=d*U'+b*V':=by exact_mod_cast k.x
 have ky:(V:Int)=c*U'+a*V':=by exact_mod_cast k.y
 rcases h.u with u | u
 ·have iu:(a:Int)*d=b*c+1:=by exact_mod_cast u
  have e1:(m:Int)*X' - U'*R=a*s - b*t:=by grind
  have e2:(m:Int)*Y' - V'*R=d*t - c*s:=by grind
  rw [e1,e2]
  exact ⟨b1,b2⟩
 ·have iu:(b:Int)*c=a*d+1:=by exact_mod_cast u
  have e1:(m:Int)*X' - U'*R=-(a*s - b*t):=by grind
  have e2:(m:Int)*Y' - V'*R=-(d*t - c*s):=by grind
  rw [e1,e2]
  omega
end M
namespace M
theorem first_steps {X Y T R p q p' q' s t a b c d u v:Nat} (hT:0<T) (hR:0<R) (hX:T*X=(p+18446744073709551616*q)*R+s) (hs:s<R)
  (hY:T*Y=(p'+18446744073709551616*q')*R+t) (ht:t<R) (hp:p<18446744073709551616) (hp':p'<18446744073709551616) (hq:9223372036854775808≤q) (hYX:Y≤X)
  (f:Few q q' a b c d u v) (hb:b<1073741824) (hd:d<1073741824) :
  ∃ tX tY X1 Y1,Eu a b c d (p+18446744073709551616*q) (p'+18446744073709551616*q') tX tY∧tY≤tX∧tX≤p+18446744073709551616*q∧79228162514264337593543950336≤tX ∧
   Eu a b c d X Y X1 Y1∧Y1≤X1∧((a=1∧b=0∧c=0∧d=1)∨(0<Y1∧Y1<X1∧1≤b∧1≤c∧1≤d)):=by
 obtain ⟨U,hU⟩:∃ U,p+18446744073709551616*q=U:=⟨_,rfl⟩
 obtain ⟨V,hV⟩:∃ V,p'+18446744073709551616*q'=V:=⟨_,rfl⟩
 rw [hU] at hX ⊢
 rw [hV] at hY ⊢
 have hVU:V≤U:=by
  have h1:T*Y≤T*X:=Nat.mul_le_mul_left T hYX
  rcases Nat.lt_or_ge U V with h | h
  ·have h2:(U+1)*R≤V*R:=Jo R h
   rw [Nat.add_mul,Nat.one_mul] at h2
   omega
  ·exact h
 have L1:Lead (1:Nat) (18446744073709551616:Nat) q q' U V:=lead_of (m:=1) (S:=18446744073709551616) (e:=p) (f:=p') (by omega) hp (by omega) hp'
 have L2:Lead T ((18446744073709551616*R:Nat):Int) q q' X Y:=by
  refine lead_of (m:=T) (S:=18446744073709551616*R) (e:=p*R+s) (f:=p'*R+t) ?_ ?_ ?_ ?_
  ·rw [hX,← hU];grind
  ·have:(p+1)*R≤18446744073709551616*R:=Jo R hp
   rw [Nat.add_mul,Nat.one_mul] at this
   omega
  ·rw [hY,← hV];grind
  ·have:(p'+1)*R≤18446744073709551616*R:=Jo R hp'
   rw [Nat.add_mul,Nat.one_mul] at this
   omega
 obtain ⟨tX,tY,e1,l1,-⟩:=f.eu (by omega) (by omega) L1 hVU
 obtain ⟨X1,Y1,e2,l2,z2⟩:=f.eu hT (Nat.mul_pos (by omega) hR) L2 hYX
 have hd1:=(f.small hb hd).2.2
 refine ⟨tX,tY,X1,Y1,e1,l1,?_,?_,e2,l2,z2⟩
 ·have:=e1.x
  have h2:=Jo tX hd1
  omega
 ·have h1:=e1.x
  have h2:d*tX≤1073741823*tX:=Jo tX (by omega)
  have h3:b*tY≤1073741823*tX:=Nat.mul_le_mul (by omega) l1
  omega
theorem second_steps {X Y X1 Y1 U V tX tY T T2 R s t a b c d x2 y2 e2 f2 a2 b2 c2 d2 u v:Nat} (hT:0<T) (hT2:0<T2) (hT3:T2≤2147483648) (hR:0<R) (hX:T*X=U*R+s) (hs:s<R) (hY:T*Y=V*R+t) (ht:t<R)
  (ha:a<1073741824) (hb:b<1073741824) (hc:c<1073741824) (hd:d<1073741824) (h1:Eu a b c d X Y X1 Y1) (h2:Eu a b c d U V tX tY) (hl:Y1≤X1)
  (hz:(a=1∧b=0∧c=0∧d=1)∨(0<Y1∧Y1<X1∧1≤b∧1≤c∧1≤d))
  (g1:T2*tX=x2*18446744073709551616+e2) (he:e2<18446744073709551616) (g2:T2*tY=y2*18446744073709551616+f2) (hf:f2<18446744073709551616)
  (f:Few x2 y2 a2 b2 c2 d2 u v) :
  a2*b+b2*d=0∨∃ X' Y',Eu (a2*a+b2*c) (a2*b+b2*d) (c2*a+d2*c) (c2*b+d2*d) X Y X' Y'∧0<Y'∧Y'<X'∧1≤c2*a+d2*c∧1≤c2*b+d2*d:=by
 obtain ⟨⟨n1,n2⟩,⟨n3,n4⟩⟩:=Eu.near h1 h2 hX hY hs ht (K:=1073741824) (by omega) (by omega) (by omega) (by omega)
 have key:∀ (B K Z tZ z e:Nat),B=18446744073709551616→K=1073741824→T2*tZ=z*B+e→e<B→-((K*R:Nat):Int)≤T*Z - tZ*R→(T:Int)*Z - tZ*R≤((K*R:Nat):Int) →
   -((B*R:Nat):Int)<4*(((T2*T:Nat):Int)*Z - z*((B*R:Nat):Int))∧4*(((T2*T:Nat):Int)*Z - z*((B*R:Nat):Int))<5*((B*R:Nat):Int):=by
  intro B K Z tZ z e hB hK k1 k2 k3 k4
  generalize hD:(T:Int)*Z - tZ*R=D at k3 k4
  have i1:(T2:Int)*tZ=z*B+e:=by exact_mod_cast k1
  have eq:((T2*T:Nat):Int)*Z - z*((B*R:Nat):Int)=T2*D+R*e:=by
   rw [← hD]
   push_cast
   grind
  have c2:((B*R:Nat):Int)=18446744073709551616*(R:Int):=by rw [Int.natCast_mul,hB];rfl
  have c1:((K*R:Nat):Int)=1073741824*(R:Int):=by rw [Int.natCast_mul,hK];rfl
  rw [eq,c2]
  rw [c1] at k3 k4
  clear eq i1 hD c1 c2
  have m1:(T2:Int)*D≤T2*(1073741824*R):=Int.mul_le_mul_of_nonneg_left k4 (by omega)
  have m2:(T2:Int)*(-(1073741824*R))≤T2*D:=Int.mul_le_mul_of_nonneg_left k3 (by omega)
  have m3:(T2:Int)*(1073741824*R)≤2147483648*(1073741824*R):=Int.mul_le_mul_of_nonneg_right (by omega) (by omega)
  have m4:(T2:Int)*(-(1073741824*R))=-(T2*(1073741824*R)):=by grind
  have m5:(R:Int)*e≤R*18446744073709551615:=Int.mul_le_mul_of_nonneg_left (by omega) (by omega)
  have m6:(0:Int)≤R*e:=Int.mul_nonneg (by omega) (by omega)
  omega
 obtain ⟨k1,k2⟩:=key 18446744073709551616 1073741824 X1 tX x2 e2 rfl rfl g1 he n1 n2
 obtain ⟨k3,k4⟩:=key 18446744073709551616 1073741824 Y1 tY y2 f2 rfl rfl g2 hf n3 n4
 obtain ⟨X2,Y2,eu,l2,z2⟩:=f.eu (Nat.mul_pos hT2 hT) (Nat.mul_pos (by omega) hR) ⟨k1,k2,k3,k4⟩ hl
 have tr:=h1.trans eu
 rcases z2 with ⟨rfl,rfl,rfl,rfl⟩ | ⟨w1,w2,w3,w4,w5⟩
 ·rcases hz with ⟨rfl,rfl,rfl,rfl⟩ | ⟨v1,v2,v3,v4,v5⟩
  ·left;omega
  ·right
   have ex:=eu.x
   have ey:=eu.y
   exact ⟨X2,Y2,tr,by omega,by omega,by omega,by omega⟩
 ·rcases hz with ⟨rfl,rfl,rfl,rfl⟩ | ⟨v1,v2,v3,v4,v5⟩
  ·right
   exact ⟨X2,Y2,tr,w1,w2,by omega,by omega⟩
  ·right
   have p1:=Nat.mul_le_mul w5 v4
   have p2:=Nat.mul_le_mul w5 v5
   exact ⟨X2,Y2,tr,w1,w2,by omega,by omega⟩
end M
namespace L
def Near (V D g:Nat):Prop:=V<g*D+D∧g*D<V+D
theorem near_three {b P d1 be Dl U low Vl g:Nat} (hd1:1≤d1) (hDl:Dl<P) (hVl:Vl<P) (hg:g<b) (h1:g*(d1*b+be)≤U*b+low) (h2:U*b+low<g*(d1*b+be)+(d1*b+be)) :
  Near ((U*b+low)*P+Vl) ((d1*b+be)*P+Dl) g:=by
 have q:b*P≤(d1*b+be)*P:=Jo _ (by
  have:1*b≤d1*b:=Jo _ hd1
  omega)
 generalize d1*b+be=D2 at *
 generalize U*b+low=U3 at *
 have e1:g*(D2*P+Dl)=g*D2*P+g*Dl:=by rw [Nat.mul_add,Nat.mul_assoc]
 have e2:(g*D2+D2)*P=g*D2*P+D2*P:=Nat.add_mul _ _ _
 have p1:(U3+1)*P≤(g*D2+D2)*P:=Jo _ h2
 rw [Nat.add_mul,Nat.one_mul] at p1
 have p2:g*D2*P≤U3*P:=Jo _ h1
 have p3:g*Dl≤g*P:=Nat.mul_le_mul_left _ (by omega)
 have p4:(g+1)*P≤b*P:=Jo _ hg
 rw [Nat.add_mul,Nat.one_mul] at p4
 unfold Near
 omega
theorem near_top {b P d1 be Dl top V:Nat} (hb:be<b) (hDl:Dl<P) (hd:b≤2*d1) (ht:d1≤top) (hVt:top*(b*(b*P))≤V) (hV:V<b*((d1*b+be)*P+Dl)) :
  Near V ((d1*b+be)*P+Dl) (b - 1):=by
 have p1:d1*(b*(b*P))≤top*(b*(b*P)):=Jo _ ht
 have p2:b*((d1*b+be)*P+Dl+1)≤b*((d1*b+b)*P):=Nat.mul_le_mul_left _ (by
  have:(d1*b+be+1)*P≤(d1*b+b)*P:=Jo _ (by omega)
  rw [Nat.add_mul _ 1,Nat.one_mul] at this
  omega)
 have e2:b*((d1*b+b)*P)=d1*(b*(b*P))+b*(b*P):=by
  rw [Nat.add_mul,Nat.mul_add,Nat.mul_assoc d1,Nat.mul_left_comm b d1]
 have p3:b*(b*P)≤2*((d1*b+be)*P+Dl):=by
  have:b*(b*P)≤(2*d1)*(b*P):=Jo _ hd
  have e:(d1*b+be)*P=d1*(b*P)+be*P:=by rw [Nat.add_mul,Nat.mul_assoc]
  rw [Nat.mul_assoc 2] at this
  omega
 generalize (d1*b+be)*P+Dl=D at *
 rw [Nat.mul_add] at p2
 have e3:(b - 1)*D+D=b*D:=by
  have:b - 1+1=b:=by omega
  rw [← Nat.succ_mul,Nat.succ_eq_add_one,this]
 have hD:0<D:=by
  rcases Nat.eq_zero_or_pos D with h | h
  ·subst h;omega
  ·exact h
 unfold Near
 refine ⟨by omega,?_⟩
 omega
theorem noBorrow {Bn D V g vs vs' ab c:Nat} (hV:V=vs+Bn*ab) (hn:Near V D g) (hD:D≤Bn) (e:vs'+D*g=vs+Bn*c) (h:c≤ab):ab=c∧vs'<D∧V=g*D+vs':=by
 obtain ⟨n1,n2⟩:=hn
 obtain ⟨d,rfl⟩:∃ d,ab=c+d:=⟨ab - c,by omega⟩
 rw [Nat.mul_add] at hV
 rw [Nat.mul_comm D] at e
 have hd:d=0:=by
  rcases Nat.eq_zero_or_pos d with h | h
  ·exact h
  ·have:Bn*1≤Bn*d:=Nat.mul_le_mul_left _ h
   omega
 subst hd
 omega
theorem borrow {Bn D V g vs vs' ab c:Nat} (hV:V=vs+Bn*ab) (hn:Near V D g) (hD:D≤Bn) (hv:vs'<Bn) (e:vs'+D*g=vs+Bn*c) (h:ab<c) :
  c=ab+1∧0<g∧∀ vt c2,vt<Bn→c2≤1→vt+Bn*c2=vs'+D→c2=1∧V=(g - 1)*D+vt∧vt<D:=by
 obtain ⟨n1,n2⟩:=hn
 obtain ⟨d,rfl⟩:∃ d,c=ab+1+d:=⟨c - ab - 1,by omega⟩
 rw [Nat.mul_add,Nat.mul_add] at e
 rw [Nat.mul_comm D] at e
 have hd:d=0:=by
  rcases Nat.eq_zero_or_pos d with h | h
  ·exact h
  ·have:Bn*1≤Bn*d:=Nat.mul_le_mul_left _ h
   omega
 subst hd
 have hg:0<g:=by
  rcases Nat.eq_zero_or_pos g with h | h
  ·subst h;omega
  ·exact h
 refine ⟨rfl,hg,?_⟩
 intro vt c2 h1 h2 h3
 obtain ⟨p,rfl⟩:∃ p,g=p+1:=⟨g - 1,by omega⟩
 rw [Nat.add_sub_cancel]
 rw [Nat.add_mul] at *
 have h4:c2=0∨c2=1:=by omega
 rcases h4 with rfl | rfl <;> omega
def LAt (b:Nat) (rs hi qs:List Nat) (n D t k:Nat):Prop:=hi.length=n∧M.Low b hi∧M.Low b qs∧qs.length+k=t∧M.val b hi<D∧M.val b (rs.drop k)=M.val b qs*D+M.val b hi
theorem LAt.step {b:Nat} {rs hi qs hi':List Nat} {n D t j q:Nat} (h:LAt b rs hi qs n D t (j+1)) (hj:j<rs.length) (h1:hi'.length=n) (h2:M.Low b hi') (h3:q<b) (h4:M.val b hi'<D) (h5:rs.getD j 0+b*M.val b hi=q*D+M.val b hi') :
  LAt b rs hi' (q :: qs) n D t j:=by
 obtain ⟨a1,a2,a3,a4,a5,a6⟩:=h
 refine ⟨h1,h2,M.Low.cons h3 a3,by simp;omega,h4,?_⟩
 have e:rs.drop j=rs.getD j 0 :: rs.drop (j+1):=by
  rw [List.drop_eq_getElem_cons hj];simp [List.getD,hj]
 rw [e,M.val_cons,a6,M.val_cons,Nat.add_mul,Nat.mul_add,Nat.mul_assoc]
 omega
theorem fin {X Y S D Q R:Nat} (hS:0<S) (hD:D=Y*S) (h:X*S=Q*D+R) (hR:R<D):Q=X / Y∧R / S=X % Y:=by
 subst hD
 have hY:0<Y:=by
  rcases Nat.eq_zero_or_pos Y with h | h
  ·subst h;rw [Nat.zero_mul] at hR;omega
  ·exact h
 rw [← Nat.mul_assoc] at h
 have h1:Q*Y≤X:=by
  have:Q*Y*S≤X*S:=by omega
  exact Nat.le_of_mul_le_mul_right this hS
 obtain ⟨Z,rfl⟩:∃ Z,X=Q*Y+Z:=⟨X - Q*Y,by omega⟩
 rw [Nat.add_mul] at h
 have hRZ:R=Z*S:=by omega
 subst hRZ
 have hZ:Z<Y:=Nat.lt_of_mul_lt_mul_right hR
 rw [Nat.mul_div_cancel _ hS,Nat.mul_comm Q,Nat.mul_add_div hY,Nat.div_eq_of_lt hZ,Nat.mul_add_mod,Nat.mod_eq_of_lt hZ]
 exact ⟨rfl,rfl⟩
theorem top_lt {b S n t Y X R V:Nat} (hY:b ^ n≤Y) (hX:X<b ^ (n+t)) (h:X*S=R+b ^ t*V) (hS:0<S):V<Y*S:=by
 have h1:b ^ t*V<b ^ t*(Y*S):=by
  have e1:X*S<b ^ (n+t)*S:=Nat.mul_lt_mul_of_pos_right hX hS
  have e2:b ^ n*S≤Y*S:=Jo _ hY
  have e3:b ^ t*(b ^ n*S)≤b ^ t*(Y*S):=Nat.mul_le_mul_left _ e2
  have e4:b ^ (n+t)*S=b ^ t*(b ^ n*S):=by rw [Nat.pow_add,Nat.mul_comm (b ^ n),Nat.mul_assoc]
  omega
 exact Nat.lt_of_mul_lt_mul_left h1
theorem shift_lt {b P S Z T R:Nat} (hb:b=S*Z) (hR:R<P) (hT:T*S<b) (hS:0<S):(R+P*T)*S<P*b:=by
 have h1:T<Z:=by rw [hb,Nat.mul_comm] at hT;exact Nat.lt_of_mul_lt_mul_left hT
 have h2:R+P*T<P*Z:=by
  have:P*(T+1)≤P*Z:=Nat.mul_le_mul_left _ h1
  rw [Nat.mul_add] at this
  omega
 have h3:(R+P*T)*S<P*Z*S:=Nat.mul_lt_mul_of_pos_right h2 hS
 rw [hb,Nat.mul_comm S,← Nat.mul_assoc]
 exact h3
theorem shift_hi {P S T R H Rl d:Nat} (hP:Rl<P) (hH:H≤T*S) (e:Rl+P*d=(R+P*T)*S):H≤d:=by
 have h1:P*H≤P*(T*S):=Nat.mul_le_mul_left _ hH
 rw [Nat.add_mul,Nat.mul_assoc] at e
 by_cases h:H≤d
 ·exact h
 ·have:P*(d+1)≤P*H:=Nat.mul_le_mul_left _ (by omega)
  rw [Nat.mul_add] at this
  omega
theorem top_zero {P V e:Nat} (h:V+P*e<P):e=0:=by
 rcases Nat.eq_zero_or_pos e with h0 | h0
 ·exact h0
 ·have:P*1≤P*e:=Nat.mul_le_mul_left _ h0
  omega
theorem part_lt {b x h D:Nat} (hx:x<b) (hh:h<D):x+b*h<b*D:=by
 have:b*(h+1)≤b*D:=Nat.mul_le_mul_left _ hh
 rw [Nat.mul_add] at this
 omega
theorem last1 (xs:List Nat) (h:xs≠[]):∃ ys a,xs=ys ++ [a]:=⟨xs.dropLast,xs.getLast h,(List.dropLast_concat_getLast h).symm⟩
theorem last2 (xs:List Nat) (h:2≤xs.length):∃ ys a b,xs=ys ++ [a,b]:=by
 obtain ⟨y1,b,rfl⟩:=last1 xs (by intro h0;subst h0;simp at h)
 obtain ⟨y2,a,rfl⟩:=last1 y1 (by intro h0;subst h0;simp at h)
 exact ⟨y2,a,b,by simp⟩
end L
namespace M
theorem Trim.tail {y:Nat} {ys:List Nat} (ht:Trim (y :: ys)):Trim ys:=by
 intro n hn
 have:=ht (n+1) (by simp [hn])
 simpa using this
theorem pow_le_val {b:Nat}:∀ (ys:List Nat),Trim ys→ys≠[]→b ^ (ys.length - 1)≤val b ys
 | [],_,h=>absurd rfl h
 | y :: ys,ht,_=>by
  by_cases hy:ys=[]
  ·subst hy;have:=ht 0 rfl;simp at this;simp [val];omega
  ·have:=pow_le_val (b:=b) ys ht.tail hy
   rw [val_cons]
   have hlen:(y :: ys).length - 1=(ys.length - 1)+1:=by
    have:0<ys.length:=List.length_pos_iff.2 hy
    simp;omega
   rw [hlen,Nat.pow_succ,Nat.mul_comm _ b]
   have:=Nat.mul_le_mul_left b this
   omega
theorem lt_of_length {b:Nat} (hb:0<b) {xs ys:List Nat} (la:Low b xs) (ht:Trim ys) (h:xs.length<ys.length):val b xs<val b ys:=by
 have h1:=val_lt hb la
 have h2:=pow_le_val (b:=b) ys ht (by intro e;rw [e] at h;simp at h)
 have h3:b ^ xs.length≤b ^ (ys.length - 1):=Nat.pow_le_pow_right hb (by omega)
 omega
theorem digs_len_of_lt {b k n:Nat} (hb:2≤b) (h:n<b ^ k):(digs b n).length≤k:=by
 by_cases hk:(digs b n).length≤k
 ·exact hk
 ·exfalso
  have h1:=pow_le_val (b:=b) (digs b n) (trim_digs hb n) (by intro e;rw [e] at hk;simp at hk)
  rw [val_digs hb] at h1
  have h2:b ^ k≤b ^ ((digs b n).length - 1):=Nat.pow_le_pow_right (by omega) (by omega)
  omega
theorem val_lt_pow {b k:Nat} (hb:0<b) {xs:List Nat} (h:Low b xs) (hk:xs.length≤k):val b xs<b ^ k :=
 Jl (val_lt hb h) (Nat.pow_le_pow_right hb hk)
theorem add_lt_pow {b k m n:Nat} (hb:2≤b) (h1:m<b ^ k) (h2:n<b ^ k):m+n<b ^ (k+1):=by
 rw [Nat.pow_succ]
 have:b ^ k*2≤b ^ k*b:=Nat.mul_le_mul_left _ hb
 omega
theorem half_carry {b V c s1 s2 k:Nat} (hb:2≤b) (h1:s1<b ^ k) (h2:s2<b ^ k) (hc:c≤1) (h:V+b ^ (k+1)*c=s1+b ^ k*0+s2):V=s1+s2:=by
 rw [Nat.pow_succ] at h
 have e3:b ^ k*2≤b ^ k*b:=Nat.mul_le_mul_left _ hb
 have e4:c=0∨c=1:=by omega
 rcases e4 with rfl | rfl <;> omega
end M
namespace R
theorem digit {b:Nat} (hb:0<b) {xs:List Nat} (hl:M.Low b xs) (m:Nat):M.val b xs / b ^ m % b=xs.getD m 0:=by
 have hp:0<b ^ m:=Nat.pow_pos hb
 have e:M.val b xs=M.val b (xs.take m)+b ^ m*M.val b (xs.drop m):=by
  by_cases h:m≤xs.length
  ·have:=M.val_append b (xs.take m) (xs.drop m)
   rwa [List.take_append_drop,List.length_take,Nat.min_eq_left h] at this
  ·rw [M.val_take_all _ _ _ (by omega),List.drop_of_length_le (by omega)];simp [M.val]
 have hlt:M.val b (xs.take m)<b ^ m:=M.val_lt_pow hb (hl.take m) (by simp;omega)
 rw [e,Nat.add_mul_div_left _ _ hp,Nat.div_eq_of_lt hlt,Nat.zero_add]
 have e2:=M.val_hd b (xs.drop m)
 have hg:(xs.drop m).getD 0 0=xs.getD m 0:=by
  rw [Jh,Jh,List.getElem?_drop,Nat.add_zero]
 rw [e2,hg,Nat.add_mul_mod_self_left,Nat.mod_eq_of_lt (hl.getD hb m)]
theorem val_set {b:Nat}:∀ (xs:List Nat) (m e:Nat),m<xs.length→M.val b (xs.set m (xs.getD m 0+e))=M.val b xs+b ^ m*e
 | [],m,e,h=>by simp at h
 | x :: xs,0,e,_=>by
  rw [List.set_cons_zero,M.val_cons,M.val_cons,List.getD_cons_zero,Nat.pow_zero,Nat.one_mul];omega
 | x :: xs,m+1,e,h=>by
  rw [List.set_cons_succ,M.val_cons,M.val_cons,List.getD_cons_succ,val_set xs m e (by simpa using h),Nat.mul_add,Nat.pow_succ,← Nat.mul_assoc,Nat.mul_comm b (b ^ m)]
  omega
theorem low_set {b:Nat} {xs:List Nat} (hl:M.Low b xs) (m y:Nat) (hy:y<b):M.Low b (xs.set m y):=by
 intro x hx
 rcases List.mem_or_eq_of_mem_set hx with h | h
 ·exact hl x h
 ·rw [h];exact hy
theorem bit {V D m t:Nat} (hD:D=4294967296) (ht:t<32):V / 2 ^ (32*m+t) % 2=V / D ^ m % D / 2 ^ t % 2:=by
 have e1:2 ^ (32*m+t)=D ^ m*2 ^ t:=by
  rw [Nat.pow_add,Nat.pow_mul,hD]
 rw [e1,← Nat.div_div_eq_div_mul]
 generalize V / D ^ m=W
 have e2:D=2 ^ t*2 ^ (32 - t):=by rw [← Nat.pow_add,show t+(32 - t)=32 by omega,hD]
 have e3:2 ^ (32 - t)=2*2 ^ (31 - t):=by rw [show 32 - t=(31 - t)+1 by omega,Nat.pow_succ,Nat.mul_comm]
 have hT:0<2 ^ t:=Nat.pow_pos (by omega)
 have e4:W % D / 2 ^ t=W / 2 ^ t % 2 ^ (32 - t):=by
  rw [e2,Nat.mod_mul_right_div_self]
 rw [e4,e3,Nat.mod_mul_right_mod]
theorem room {Q D m t:Nat} (hD:D=4294967296) (ht:t<32):Q*2 ^ (32*m+t+1) / D ^ m % D+2 ^ t<D:=by
 have e1:2 ^ (32*m+t+1)=2 ^ (t+1)*D ^ m:=by
  rw [show 32*m+t+1=(t+1)+32*m by omega,Nat.pow_add,Nat.pow_mul,hD]
 have hp:0<D ^ m:=Nat.pow_pos (by omega)
 rw [e1,← Nat.mul_assoc,Nat.mul_div_cancel _ hp]
 have e2:D=2 ^ (31 - t)*2 ^ (t+1):=by rw [← Nat.pow_add,show 31 - t+(t+1)=32 by omega,hD]
 have h1:Q*2 ^ (t+1) % D=Q % 2 ^ (31 - t)*2 ^ (t+1):=by
  rw [e2,Nat.mul_mod_mul_right]
 rw [h1]
 have h2:Q % 2 ^ (31 - t)+1≤2 ^ (31 - t):=Nat.mod_lt _ (Nat.pow_pos (by omega))
 have h3:(Q % 2 ^ (31 - t)+1)*2 ^ (t+1)≤2 ^ (31 - t)*2 ^ (t+1):=Jo _ h2
 rw [← e2,Nat.add_mul,Nat.one_mul] at h3
 have h4:2 ^ t<2 ^ (t+1):=Nat.pow_lt_pow_right (by omega) (by omega)
 omega
theorem stepN {X Y j:Nat} (hY:0<Y) :
  (2*(X / 2 ^ (j+1) % Y)+X / 2 ^ j % 2<Y→X / 2 ^ j % Y=2*(X / 2 ^ (j+1) % Y)+X / 2 ^ j % 2∧X / 2 ^ j / Y=2*(X / 2 ^ (j+1) / Y)) ∧
  (Y≤2*(X / 2 ^ (j+1) % Y)+X / 2 ^ j % 2→X / 2 ^ j % Y=2*(X / 2 ^ (j+1) % Y)+X / 2 ^ j % 2 - Y∧X / 2 ^ j / Y=2*(X / 2 ^ (j+1) / Y)+1):=by
 have e1:X / 2 ^ (j+1)=X / 2 ^ j / 2:=by rw [Nat.pow_succ,Nat.div_div_eq_div_mul]
 rw [e1]
 generalize X / 2 ^ j=Z
 have h1:=Nat.div_add_mod Z 2
 have h2:=Nat.div_add_mod (Z / 2) Y
 have h3:=Nat.mod_lt (Z / 2) hY
 have h4:Z % 2<2:=Nat.mod_lt _ (by omega)
 generalize Z / 2 % Y=r at *
 generalize Z / 2 / Y=q at *
 generalize Z % 2=c at *
 have e:Z=Y*(2*q)+(2*r+c):=by rw [Nat.mul_left_comm];omega
 refine ⟨fun h=>?_,fun h=>?_⟩
 ·rw [e,Nat.mul_add_mod,Nat.mod_eq_of_lt h,Nat.mul_add_div hY,Nat.div_eq_of_lt h]
  exact ⟨rfl,rfl⟩
 ·have e':Z=Y*(2*q+1)+(2*r+c - Y):=by rw [Nat.mul_add,Nat.mul_one];omega
  have hlt:2*r+c - Y<Y:=by omega
  rw [e',Nat.mul_add_mod,Nat.mod_eq_of_lt hlt,Nat.mul_add_div hY,Nat.div_eq_of_lt hlt]
  exact ⟨by omega,rfl⟩
end R
end Go.Proofs.YtnplifkgeeicjaaGreatDoor
