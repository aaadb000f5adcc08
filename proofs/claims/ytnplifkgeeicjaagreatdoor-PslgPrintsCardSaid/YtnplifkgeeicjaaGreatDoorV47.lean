import Derived.Test.YtnplifkgeeicjaaGreatDoorV01
import Derived.Test.YtnplifkgeeicjaaGreatDoorV43
namespace Go.Proofs.YtnplifkgeeicjaaGreatDoor
def cl8 (c:List UInt8):List ByteArray:=if c=[] then [] else [⟨c.toArray⟩]
def Su:List UInt8→List UInt8→List ByteArray
 | [],c=>cl8 c
 | x :: l,c=>if bl x.toNat then cl8 c ++ Su l [] else Su l (c ++ [x])
theorem Bfk (s:ByteArray):∀ (n a i:Nat),i+n=s.size→a≤i→Pj s n a i=Su (s.data.toList.drop i) ((s.data.toList.take i).drop a)
 | 0,a,i,h,ha=>by
  have hl:s.data.toList.length=s.size:=Array.length_toList
  have e:s.data.toList.drop i=[]:=List.drop_eq_nil_of_le (by omega)
  rw [e,Pj,Su,cl8]
  by_cases h1:a<i
  ·have hne:(s.data.toList.take i).drop a≠[]:=by
    intro e
    have:=congrArg List.length e
    rw [List.length_drop,List.length_take,List.length_nil] at this
    omega
   rw [if_pos h1,if_neg hne]
   congr 1
   apply ByteArray.ext
   rw [ByteArray.data_extract]
   apply Array.toList_inj.1
   rw [Array.toList_extract,List.extract_eq_take_drop,List.drop_take]
  ·have:(s.data.toList.take i).drop a=[]:=List.drop_eq_nil_of_le (by rw [List.length_take];omega)
   rw [if_neg h1,if_pos this]
 | n+1,a,i,h,ha=>by
  have hl:s.data.toList.length=s.size:=Array.length_toList
  have hi:i<s.data.toList.length:=by omega
  have e:s.data.toList.drop i=s.data.toList[i] :: s.data.toList.drop (i+1):=List.drop_eq_getElem_cons hi
  have hb:bt s i=(s.data.toList[i]).toNat:=by
   unfold bt
   have hi':i<s.data.size:=by rw [← Array.length_toList];exact hi
   rw [show s.get! i=s.data[i]! from rfl,getElem!_pos s.data i hi']
   rfl
  rw [e,Pj,Su,← hb]
  have e0:(s.data.toList.take (i+1)).drop (i+1)=[]:=List.drop_eq_nil_of_le (by rw [List.length_take];omega)
  have e1:=Bfk s n (i+1) (i+1) (by omega) (Jb _)
  rw [e0] at e1
  have e2:=Bfk s n a (i+1) (by omega) (by omega)
  by_cases h1:bl (bt s i)=true
  ·rw [if_pos h1,if_pos h1,e1]
   by_cases h2:a<i
   ·have hne:(s.data.toList.take i).drop a≠[]:=by
     intro e
     have:=congrArg List.length e
     rw [List.length_drop,List.length_take,List.length_nil] at this
     omega
    rw [if_pos h2,cl8,if_neg hne]
    show _ :: _=_ :: _
    congr 1
    apply ByteArray.ext
    rw [ByteArray.data_extract]
    apply Array.toList_inj.1
    rw [Array.toList_extract,List.extract_eq_take_drop,List.drop_take]
   ·have:(s.data.toList.take i).drop a=[]:=List.drop_eq_nil_of_le (by rw [List.length_take];omega)
    rw [if_neg h2,this,cl8,if_pos rfl]
    rfl
  ·rw [if_neg h1,if_neg h1,e2]
   congr 1
   rw [List.take_succ_eq_append_getElem hi,List.drop_append_of_le_length (by rw [List.length_take];omega)]
theorem Bi3 (s:ByteArray):Cy s=Su s.data.toList []:=by
 have:=Bfk s s.size 0 0 (by omega) (Jb _)
 rw [Cy,this]
 rfl
theorem Qe (b:UInt8) (hb:bl b.toNat=true) (r:List UInt8):∀ (l c:List UInt8),Su (l ++ b :: r) c=Su l c ++ Su r []
 | [],c=>by
  show (if bl b.toNat then cl8 c ++ Su r [] else Su r (c ++ [b]))=cl8 c ++ Su r []
  rw [if_pos hb]
 | x :: l,c=>by
  rw [List.cons_append,Su,Su]
  by_cases h:bl x.toNat=true
  ·rw [if_pos h,if_pos h,Qe b hb r l [],List.append_assoc]
  ·rw [if_neg h,if_neg h,Qe b hb r l (c ++ [x])]
theorem Bbk:∀ (l c:List UInt8),(∀ x∈l,bl x.toNat=false)→Su l c=cl8 (c ++ l)
 | [],c,_=>by rw [Su,List.append_nil]
 | x :: l,c,h=>by
  rw [Su,if_neg (by rw [h x List.mem_cons_self];simp),Bbk l (c ++ [x]) (fun y hy=>h y (List.mem_cons_of_mem _ hy)),List.append_assoc]
  rfl
def Tok (t:ByteArray):Prop:=t.size≠0∧∀ x∈t.data.toList,bl x.toNat=false
theorem Wo {t:ByteArray} (h:Tok t):Su t.data.toList []=[t]:=by
 rw [Bbk _ _ h.2,List.nil_append,cl8,if_neg]
 intro e
 have hl:t.data.toList.length=t.size:=Array.length_toList
 rw [e] at hl
 exact h.1 hl.symm
end Go.Proofs.YtnplifkgeeicjaaGreatDoor
