namespace Go.Proofs.YtnplifkgeeicjaaGreatDoor
namespace Q
theorem mk_low {z:Int} {m:Nat} (hm:0<m) (hc:Nat.gcd z.natAbs m=1):(mkRat z m).num=z∧(mkRat z m).den=m:=by
 rw [Rat.num_mkRat,Rat.den_mkRat,if_neg (by omega),if_neg (by omega),Nat.gcd_comm m,hc]
 simp
theorem make_low (n d:Int) (hd:d≠0) (g:Nat) (hg:g=Nat.gcd n.natAbs d.natAbs) :
  (Rat.divInt n d).num=(if d<0 then -n else n) / g∧(Rat.divInt n d).den=d.natAbs / g:=by
 rw [Rat.num_divInt,Rat.den_divInt,if_neg hd]
 have e:d.gcd n=g:=by rw [hg,Nat.gcd_comm];rfl
 rw [e]
 refine ⟨?_,rfl⟩
 congr 1
 by_cases h:d<0
 ·rw [if_pos h,Int.sign_eq_neg_one_of_neg h];omega
 ·rw [if_neg h,Int.sign_eq_one_of_pos (by omega)];omega
end Q
namespace M
theorem odd_cop {n:Nat} (h:n % 2=1) (k:Nat):Nat.Coprime (2 ^ k) n:=by
 apply Nat.Coprime.pow_left
 show Nat.gcd 2 n=1
 rw [Nat.gcd_rec,h]
 exact Nat.gcd_one_left 2
theorem gcd_odd_right {n:Nat} (h:n % 2=1) (k m:Nat):Nat.gcd n (2 ^ k*m)=Nat.gcd n m:=Nat.Coprime.gcd_mul_left_cancel_right m (odd_cop h k)
theorem gcd_odd_left {n:Nat} (h:n % 2=1) (k m:Nat):Nat.gcd (2 ^ k*m) n=Nat.gcd m n:=Nat.Coprime.gcd_mul_left_cancel m (odd_cop h k)
theorem gcd_min_max (a b:Nat):Nat.gcd (min a b) (max a b - min a b)=Nat.gcd a b:=by
 rcases Nat.le_total a b with h | h
 ·rw [Nat.min_eq_left h,Nat.max_eq_right h,Nat.gcd_sub_self_right h]
 ·rw [Nat.min_eq_right h,Nat.max_eq_left h,Nat.gcd_sub_self_right h,Nat.gcd_comm]
theorem even_pow {k m:Nat} (h:0<k):2 ^ k*m % 2=0:=by
 obtain ⟨j,rfl⟩:∃ j,k=j+1:=⟨k - 1,by omega⟩
 rw [Nat.pow_succ,Nat.mul_assoc,Nat.mul_left_comm,Nat.mul_mod_right]
theorem gcd_twos {x y t i x':Nat} (hx:x=2 ^ i*x') (ho:x' % 2=1) (d1:2 ^ t ∣ x) (d2:2 ^ t ∣ y) (hb:x / 2 ^ t % 2=1∨y / 2 ^ t % 2=1):Nat.gcd x y=Nat.gcd x' y*2 ^ t:=by
 obtain ⟨a,rfl⟩:=d1
 obtain ⟨b,rfl⟩:=d2
 have hp:0<2 ^ t:=Nat.pow_pos (by omega)
 rw [Nat.mul_div_cancel_left _ hp,Nat.mul_div_cancel_left _ hp] at hb
 rw [Nat.gcd_mul_left,Nat.mul_comm,gcd_odd_right ho]
 congr 1
 have hti:t≤i:=by
  rcases Nat.lt_or_ge i t with g | g
  ·have e:2 ^ t=2 ^ i*2 ^ (t - i):=by rw [← Nat.pow_add,show i+(t - i)=t by omega]
   rw [e,Nat.mul_assoc] at hx
   have:=Nat.eq_of_mul_eq_mul_left (Nat.pow_pos (by omega)) hx
   have h2:=even_pow (k:=t - i) (m:=a) (by omega)
   omega
  ·exact g
 have e:2 ^ i=2 ^ t*2 ^ (i - t):=by rw [← Nat.pow_add,show t+(i - t)=i by omega]
 rw [e,Nat.mul_assoc] at hx
 have ha:=Nat.eq_of_mul_eq_mul_left hp hx
 rcases hb with h | h
 ·rcases Nat.eq_zero_or_pos (i - t) with g | g
  ·rw [g,Nat.pow_zero,Nat.one_mul] at ha;rw [ha]
  ·have h2:=even_pow (k:=i - t) (m:=x') g
   omega
 ·rw [ha,gcd_odd_left h]
theorem or_twos {x y t m:Nat} (h:x ||| y=2 ^ t*(2*m+1)):2 ^ t ∣ x∧2 ^ t ∣ y∧(x / 2 ^ t % 2=1∨y / 2 ^ t % 2=1):=by
 have hp:0<2 ^ t:=Nat.pow_pos (by omega)
 have h0:(x ||| y) % 2 ^ t=0:=by rw [h,Nat.mul_mod_right]
 rw [Nat.or_mod_two_pow] at h0
 obtain ⟨a,b⟩:=Nat.or_eq_zero_iff.1 h0
 refine ⟨Nat.dvd_of_mod_eq_zero a,Nat.dvd_of_mod_eq_zero b,?_⟩
 have h1:(x ||| y).testBit t=true:=by
  rw [Nat.testBit_eq_decide_div_mod_eq,h,Nat.mul_div_cancel_left _ hp]
  simp
 rw [Nat.testBit_or,Bool.or_eq_true,Nat.testBit_eq_decide_div_mod_eq,Nat.testBit_eq_decide_div_mod_eq] at h1
 simpa using h1
end M
namespace K
def Inv (u d1 d0 Y l q r:Int):Prop:=q*d1+r=u∧u*4294967296+l<q*d1*4294967296+q*d0+Y∧0≤q∧q≤17179869184∧0≤r∧r<4294967296
def Right (u Y l q:Int):Prop:=0≤q∧q<4294967296∧q*Y≤u*4294967296+l∧u*4294967296+l<q*Y+Y
structure Set0 (u d1 d0 Y l:Int):Prop where
 hY:Y=d1*4294967296+d0
 a1:2147483648≤d1
 a2:d1<4294967296
 b1:0≤d0
 b2:d0<4294967296
 u1:0≤u
 u2:u<Y
 l1:0≤l
 l2:l<4294967296
variable {u d1 d0 Y l q r:Int}
theorem qY (hY:Y=d1*4294967296+d0):q*Y=q*d1*4294967296+q*d0:=by
 rw [hY,Int.mul_add,Int.mul_assoc]
theorem start (h:Set0 u d1 d0 Y l):Inv u d1 d0 Y l (u / d1) (u - u / d1*d1):=by
 obtain ⟨hY,a1,a2,b1,b2,u1,u2,l1,l2⟩:=h
 have e:=Int.mul_ediv_add_emod u d1
 have m0:=Int.emod_nonneg u (show d1≠0 by omega)
 have m1:=Int.emod_lt_of_pos u (show 0<d1 by omega)
 have q0:0≤u / d1:=Int.ediv_nonneg u1 (by omega)
 rw [Int.mul_comm d1] at e
 generalize u / d1=q at *
 generalize u % d1=m at *
 have p1:0≤q*d0:=Int.mul_nonneg q0 b1
 have p2:q*2147483648≤q*d1:=Int.mul_le_mul_of_nonneg_left a1 q0
 refine ⟨by omega,by omega,q0,by omega,by omega,by omega⟩
theorem right_of (h:Set0 u d1 d0 Y l) (i1:q*d1+r=u) (i2:u*4294967296+l<q*d1*4294967296+q*d0+Y) (i3:0≤q) (hle:q*d0≤4294967296*r+l):Right u Y l q:=by
 obtain ⟨hY,a1,a2,b1,b2,u1,u2,l1,l2⟩:=h
 have e:=qY (q:=q) hY
 refine ⟨i3,?_,by omega,by omega⟩
 by_cases hq:q<4294967296
 ·exact hq
 ·exfalso
  have p1:4294967296*d1≤q*d1:=Int.mul_le_mul_of_nonneg_right (by omega) (by omega)
  have p2:4294967296*d0≤q*d0:=Int.mul_le_mul_of_nonneg_right (by omega) b1
  omega
theorem no (h:Set0 u d1 d0 Y l) (i:Inv u d1 d0 Y l q r) (hle:q*d0≤4294967296*r+l):Right u Y l q:=right_of h i.1 i.2.1 i.2.2.1 hle
theorem down (h:Set0 u d1 d0 Y l) (i:Inv u d1 d0 Y l q r) (ht:4294967296≤q∨4294967296*r+l<q*d0) :
  (q - 1)*d1+(r+d1)=u∧u*4294967296+l<(q - 1)*d1*4294967296+(q - 1)*d0+Y∧0≤q - 1:=by
 obtain ⟨hY,a1,a2,b1,b2,u1,u2,l1,l2⟩:=h
 obtain ⟨i1,i2,i3,i4,i5,i6⟩:=i
 have s1:(q - 1)*d1=q*d1 - d1:=by rw [Int.sub_mul,Int.one_mul]
 have s2:(q - 1)*d0=q*d0 - d0:=by rw [Int.sub_mul,Int.one_mul]
 rw [s1,s2]
 have key:u*4294967296+l<q*d1*4294967296+q*d0:=by
  rcases ht with ht | ht
  ·have p1:4294967296*d1≤q*d1:=Int.mul_le_mul_of_nonneg_right ht (by omega)
   have p2:4294967296*d0≤q*d0:=Int.mul_le_mul_of_nonneg_right ht b1
   omega
  ·omega
 refine ⟨by omega,by omega,?_⟩
 rcases Int.lt_or_le 0 q with hq | hq
 ·omega
 ·have:q=0:=by omega
  subst this
  simp at key
  omega
theorem yes (h:Set0 u d1 d0 Y l) (i:Inv u d1 d0 Y l q r) (ht:4294967296≤q∨4294967296*r+l<q*d0) (hr:r+d1<4294967296):Inv u d1 d0 Y l (q - 1) (r+d1):=by
 obtain ⟨g1,g2,g3⟩:=down h i ht
 have:=h.a1
 exact ⟨g1,g2,g3,by have:=i.2.2.2.1;omega,by have:=i.2.2.2.2.1;omega,hr⟩
theorem brk (h:Set0 u d1 d0 Y l) (i:Inv u d1 d0 Y l q r) (ht:4294967296≤q∨4294967296*r+l<q*d0) (hr:4294967296≤r+d1):Right u Y l (q - 1):=by
 obtain ⟨g1,g2,g3⟩:=down h i ht
 refine right_of h g1 g2 g3 ?_
 obtain ⟨hY,a1,a2,b1,b2,u1,u2,l1,l2⟩:=h
 have hq:q - 1<4294967296:=by
  by_cases hq:q - 1<4294967296
  ·exact hq
  ·exfalso
   have p1:4294967296*d1≤(q - 1)*d1:=Int.mul_le_mul_of_nonneg_right (by omega) (by omega)
   omega
 have p2:(q - 1)*d0≤4294967296*d0:=Int.mul_le_mul_of_nonneg_right (by omega) b1
 omega
theorem fin {hi lo y S L l1 l0 q1 q0 R R2:Int} (hS:0<S) (hy:0<y) (eL:(hi*18446744073709551616+lo)*S=u*18446744073709551616+L) (eY:Y=y*S) (el:L=l1*4294967296+l0)
  (e1:R=u*4294967296+l1 - q1*Y) (e2:R2=R*4294967296+l0 - q0*Y) (r0:0≤R2) (r1:R2<Y) :
  (hi*18446744073709551616+lo) / y=q1*4294967296+q0∧(hi*18446744073709551616+lo) % y=R2 / S:=by
 generalize hi*18446744073709551616+lo=N at *
 have e3:R2=(N - (q1*4294967296+q0)*y)*S:=by
  rw [Int.sub_mul,eL,Int.mul_assoc,← eY,Int.add_mul,Int.mul_right_comm]
  omega
 have e4:R2 / S=N - (q1*4294967296+q0)*y:=by rw [e3,Int.mul_ediv_cancel _ (by omega)]
 have n0:0≤N - (q1*4294967296+q0)*y:=by
  rw [← e4];exact Int.ediv_nonneg r0 (by omega)
 have n1:N - (q1*4294967296+q0)*y<y:=by
  rw [← e4]
  apply Int.ediv_lt_of_lt_mul hS
  rw [← eY];exact r1
 have e5:N / y=q1*4294967296+q0:=by
  have:N=(N - (q1*4294967296+q0)*y)+(q1*4294967296+q0)*y:=by omega
  rw [this,Int.add_mul_ediv_right _ _ (by omega),Int.ediv_eq_zero_of_lt n0 n1]
  omega
 refine ⟨e5,?_⟩
 rw [e4,Int.emod_def,e5,Int.mul_comm y]
end K
end Go.Proofs.YtnplifkgeeicjaaGreatDoor
