import Derived.Lib.FieldsP
namespace Go.Proofs.YtnplifkgeeicjaaGreatDoor
open Go.Lib
def bl (n:Nat):Bool:=n == 32 || (n == 9 || n == 10)
def bt (s:ByteArray) (i:Nat):Nat:=(s.get! i).toNat
def Pj (s:ByteArray):Nat→Nat→Nat→List ByteArray
 | 0,a,i=>if a<i then [s.extract a i] else []
 | n+1,a,i=>if bl (bt s i) then (if a<i then s.extract a i :: Pj s n (i+1) (i+1) else Pj s n (i+1) (i+1)) else Pj s n a (i+1)
def Cy (s:ByteArray):List ByteArray:=Pj s s.size 0 0
theorem Ut (s:ByteArray) (a:Nat):∀ (k n i:Nat),(∀ j,j<k→bl (bt s (i+j))=false)→Pj s (k+n) a i=Pj s n a (i+k)
 | 0,n,i,_=>by rw [Nat.zero_add];rfl
 | k+1,n,i,h=>by
  have e:k+1+n=(k+n)+1:=by omega
  rw [e,Pj,if_neg (by have:=h 0 (by omega);rw [Nat.add_zero] at this;rw [this];decide)]
  rw [Ut s a k n (i+1) (fun j hj=>by have:=h (j+1) (by omega);rwa [show i+1+j=i+(j+1) by omega]),show i+1+k=i+(k+1) by omega]
theorem Bex (s:ByteArray) (i:Nat) (h:bl (bt s i)=true):Utf8.decode s i=(bt s i,1):=by
 rw [decode_at]
 unfold decodeN
 have:bt s i<128:=by unfold bl at h;simp at h;omega
 rw [if_pos (show (s.get! i).toNat<128 from this)]
 rfl
theorem Bew (s:ByteArray) (i:Nat) (hi:i<s.size) (h:bl (bt s i)=false) :
  bl (Utf8.decode s i).1=false∧1≤(Utf8.decode s i).2∧i+(Utf8.decode s i).2≤s.size∧∀ j,j<(Utf8.decode s i).2→bl (bt s (i+j))=false:=by
 have nb:∀ n,128≤n→bl n=false:=fun n hn=>by unfold bl;simp;omega
 have nl:∀ n,n / 64=2→bl n=false:=fun n hn=>by unfold bl;simp;omega
 have hw:=width_pos s i
 have hn:=decodeN_le_n' (s.size - i) (s.get! i).toNat (s.get! (i+1)).toNat (s.get! (i+2)).toNat (s.get! (i+3)).toNat (by omega)
 rw [← decode_at] at hn
 refine ⟨?_,hw,by omega,?_⟩
 ·rw [decode_at]
  unfold decodeN
  split
  ·exact h
  ·(repeat' split) <;> first | exact nb _ (by decide) | (apply nb;simp only;omega)
 ·have q:(2≤(Utf8.decode s i).2→bt s (i+1) / 64=2)∧(3≤(Utf8.decode s i).2→bt s (i+2) / 64=2)∧(4≤(Utf8.decode s i).2→bt s (i+3) / 64=2)∧(Utf8.decode s i).2≤4:=by
   unfold bt
   rw [decode_at]
   unfold decodeN
   (repeat' split) <;> simp only <;> omega
  obtain ⟨q1,q2,q3,q4⟩:=q
  intro j hj
  obtain rfl | rfl | rfl | rfl:j=0∨j=1∨j=2∨j=3:=by omega
  ·exact h
  ·exact nl _ (q1 (by omega))
  ·exact nl _ (q2 (by omega))
  ·exact nl _ (q3 (by omega))
theorem Lf (s:ByteArray):∀ (f pos:Nat) (st:Option Nat) (acc:List (Nat × Nat)),s.size≤pos+f→pos≤s.size→(∀ a,st=some a→a<pos) →
  (closeSpans s (spansFromP bl s f pos st acc)).map (fun x=>s.extract x.1 x.2)=acc.map (fun x=>s.extract x.1 x.2) ++ Pj s (s.size - pos) (st.getD pos) pos
 | 0,pos,st,acc,h,hp,hst=>by
  obtain rfl:pos=s.size:=by omega
  rw [Nat.sub_self]
  cases st with
  | none=>simp [spansFromP,closeSpans,Pj]
  | some a=>have:=hst a rfl;simp [spansFromP,closeSpans,Pj,this]
 | f+1,pos,st,acc,h,hp,hst=>by
  by_cases hlt:pos<s.size
  ·simp only [spansFromP,if_pos hlt]
   cases hb:bl (bt s pos) with
   | true =>
    rw [Bex s pos hb]
    simp only [hb,if_true]
    obtain ⟨n,hn⟩:∃ n,s.size - pos=n+1:=⟨s.size - pos - 1,by omega⟩
    have e:s.size - (pos+1)=n:=by omega
    rw [hn,Pj,if_pos hb]
    cases st with
    | none =>
     have:=Lf s f (pos+1) none acc (by omega) (by omega) (fun a h=>by cases h)
     rw [e] at this
     simpa using this
    | some a =>
     have:=Lf s f (pos+1) none (acc ++ [(a,pos)]) (by omega) (by omega) (fun a h=>by cases h)
     rw [e] at this
     have ha:=hst a rfl
     simpa [ha] using this
   | false =>
    obtain ⟨h1,h2,h3,h4⟩:=Bew s pos hlt hb
    generalize Utf8.decode s pos=x at *
    simp only [h1]
    have e:s.size - pos=x.2+(s.size - (pos+x.2)):=by omega
    rw [e]
    cases st with
    | none =>
     have:=Lf s f (pos+x.2) (some pos) acc (by omega) (by omega) (fun a h=>by cases h;omega)
     rw [Ut s _ _ _ _ h4]
     simpa using this
    | some a =>
     have:=Lf s f (pos+x.2) (some a) acc (by omega) (by omega) (fun b h=>by cases h;have:=hst a rfl;omega)
     rw [Ut s _ _ _ _ h4]
     simpa using this
  ·obtain rfl:pos=s.size:=by omega
   rw [spansFromP_end _ _ _ _ _ _ hlt,Nat.sub_self]
   cases st with
   | none=>simp [closeSpans,Pj]
   | some a=>have:=hst a rfl;simp [closeSpans,Pj,this]
theorem Ye (s:ByteArray):goFieldsP bl s=Cy s:=by
 unfold goFieldsP spansOfP Cy
 rw [Lf s s.size 0 none [] (by omega) (by omega) (fun a h=>by cases h)]
 simp
end Go.Proofs.YtnplifkgeeicjaaGreatDoor
