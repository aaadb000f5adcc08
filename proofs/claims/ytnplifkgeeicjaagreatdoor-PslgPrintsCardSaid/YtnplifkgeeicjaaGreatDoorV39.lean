import Derived.Test.YtnplifkgeeicjaaGreatDoorV38
import Derived.Test.YtnplifkgeeicjaaGreatDoorV44
set_option maxRecDepth 100000
set_option maxHeartbeats 8000000
namespace Go.Proofs.YtnplifkgeeicjaaGreatDoor
open Go.RowKit Go.Shelf
theorem R7 (s:ByteArray) (w:World) :
  Calls Tryz.prog 269 #[I s,I ⟨#[47]⟩] w fun e w'=>e=.returned (.int .i64 (Lib.index s.data.toList [47]))∧w'=w:=by
 rw [Lib.index_one]
 exact Any.stringslite_Index_one (ρ:=Px) { Bkl with } s 47 w
theorem Zg (s:ByteArray) (w:World) (h:Lib.index s.data.toList [47]=-1) :
  Calls Tryz.prog 245 #[I s,I ⟨#[47]⟩] w (Re w (.tuple #[I s,I ⟨#[]⟩,Iz false])):=by
 have H:=R7 s
 rw [h] at H
 replace H:=Ba H
 clear h
 go_enter Tryz.func245,Tryz.ntmps245
 go_wp2_with fail
 go_fit (H.out _)
 rintro e w1 ⟨rfl,rfl⟩
 go_wp2
 go_ret3
 exact ⟨rfl,Jg _ _⟩
theorem Bdi (s:ByteArray) (i:Nat) (w:World) (h:Lib.index s.data.toList [47]=(i:Int)) (hi:i+1≤s.size) (hz:s.size≤9223372036854775807) :
  Calls Tryz.prog 245 #[I s,I ⟨#[47]⟩] w (Re w (.tuple #[I (s.extract 0 i),I (s.extract (i+1) s.size),Iz true])):=by
 have H:=R7 s
 rw [h] at H
 replace H:=Ba H
 have c1:(0:Int)≤(i:Int):=by omega
 have c2:(i:Int)≤(s.size:Int):=by omega
 have c3:(0:Int)≤(i:Int)+1:=by omega
 have c4:(i:Int)+1≤(s.size:Int):=by omega
 have c5:(s.size:Int)≤9223372036854775807:=by omega
 clear h
 go_enter Tryz.func245,Tryz.ntmps245
 go_wp2_with fail
 go_fit (H.out _)
 rintro e w1 ⟨rfl,rfl⟩
 go_wp2_with fail
 go_quiet (fail)
 go_wp2
 go_ret3
 exact ⟨rfl,below_drewN (Jg _ _) _⟩
theorem Eh (s:ByteArray) (w:World) (h:Lib.index s.data.toList [47]=-1) :
  Calls Tryz.prog 215 #[I s,I ⟨#[47]⟩] w (Re w (.tuple #[I s,I ⟨#[]⟩,Iz false])):=by
 have H:=Ba (fun w=>Zg s w h)
 clear h
 go_enter Tryz.func215,Tryz.ntmps215
 go_wp2_with fail
 go_fit (H.out _)
 rintro e w1 ⟨rfl,b1⟩
 go_wp2
 go_ret3
 exact ⟨rfl,b1⟩
theorem Lu (s:ByteArray) (i:Nat) (w:World) (h:Lib.index s.data.toList [47]=(i:Int)) (hi:i+1≤s.size) (hz:s.size≤9223372036854775807) :
  Calls Tryz.prog 215 #[I s,I ⟨#[47]⟩] w (Re w (.tuple #[I (s.extract 0 i),I (s.extract (i+1) s.size),Iz true])):=by
 have H:=Ba (fun w=>Bdi s i w h hi hz)
 clear h
 go_enter Tryz.func215,Tryz.ntmps215
 go_wp2_with fail
 go_fit (H.out _)
 rintro e w1 ⟨rfl,b1⟩
 go_wp2
 go_ret3
 exact ⟨rfl,b1⟩
open Go.RowKit Go.Shelf
theorem Kn (nN rN:Bool) (s o u nS dS rS rD:ByteArray) (hd:dS.toList.isEmpty=false) (w:World)
  (HC:Hid (∀ w1,Below w.heap.size w w1→Calls Tryz.prog 215 #[I s,I ⟨#[47]⟩] w1 (Re w1 (.tuple #[I o,I u,Iz true]))))
  (HN:Hid (∀ w1,Calls Tryz.prog 216 #[I o] w1 (Re w1 (.tuple #[.agg #[Iz nN,I nS],.int .i64 0]))))
  (HD:Hid (∀ w1,Calls Tryz.prog 216 #[I u] w1 (Re w1 (.tuple #[.agg #[Iz false,I dS],.int .i64 0]))))
  (HM:Hid (∀ w1,Below w.heap.size w w1→Calls Tryz.prog 217 #[.agg #[Iz nN,I nS],.agg #[Iz false,I dS]] w1 (Re w1 (.tuple #[(D8 rN rS rD),.int .i64 0])))) :
  Calls Tryz.prog 184 #[I s] w (Re w (.tuple #[(D8 rN rS rD),.int .i64 0])):=by
 go_enter Tryz.func184,Tryz.ntmps184
 go_wp2_with fail
 go_fit (HC.out _ (ba (Jg _ _) _))
 rintro e w1 ⟨rfl,b1⟩
 obtain ⟨kr,b1⟩:=Hv b1
 have sz:=b1.size
 have bb:=b1
 clear b1
 have tr:=kr.lt
 go_wp2_with fail
 go_fit (HN.out _)
 rintro e w2 ⟨rfl,b1⟩
 have sz:=b1.size
 replace kr:=kr.b b1
 replace bb:=Ia bb b1
 clear b1
 go_wp2_with fail
 go_fit (HD.out _)
 rintro e w3 ⟨rfl,b1⟩
 obtain ⟨kn,b1⟩:=Hv b1
 have sz:=b1.size
 replace kr:=kr.b b1
 replace bb:=Ia bb b1
 clear b1
 have tn:=kn.lt
 obtain ⟨cn_0,cn_1⟩:=Dc kn
 obtain ⟨cn_2,cn_3⟩:=Dc (kn.alloc (.cells #[Iz false,I dS] 24))
 go_wp2_with fail
 clear cn_0 cn_1 cn_2 cn_3
 go_fit (HM.out _ (ba bb _))
 rintro e w4 ⟨rfl,b1⟩
 obtain ⟨kd,b1⟩:=Hv b1
 have sz:=b1.size
 replace kr:=kr.b b1
 replace kn:=kn.b b1
 replace bb:=Ia bb b1
 clear b1
 have td:=kd.lt
 have cr_0:=Cw kr
 have fr_1:=Bi.o kr 0
 have cr_2:=Cv kr
 have fr_3:=Bi.o kr 1
 have cr_4:=Cu kr
 have fr_5:=Bi.o kr 2
 go_wp2
 exact Dt (p:=2) (u:=3) (by kernel_rfl) rfl rfl rfl (((kr.set 0 _).set 1 _).set 2 _) ⟨rfl,Cr (Cr (Cr bb (by omega) 0 _) (by omega) 1 _) (by omega) 2 _⟩
theorem Km (nN rN:Bool) (s o u nS dS rS rD:ByteArray) (hd:dS.toList.isEmpty=false) (w:World)
  (HC:Hid (∀ w1,Below w.heap.size w w1→Calls Tryz.prog 215 #[I s,I ⟨#[47]⟩] w1 (Re w1 (.tuple #[I o,I u,Iz false]))))
  (HN:Hid (∀ w1,Calls Tryz.prog 216 #[I o] w1 (Re w1 (.tuple #[.agg #[Iz nN,I nS],.int .i64 0]))))
  (HD:Hid (∀ w1,Calls Tryz.prog 216 #[I ⟨#[49]⟩] w1 (Re w1 (.tuple #[.agg #[Iz false,I dS],.int .i64 0]))))
  (HM:Hid (∀ w1,Below w.heap.size w w1→Calls Tryz.prog 217 #[.agg #[Iz nN,I nS],.agg #[Iz false,I dS]] w1 (Re w1 (.tuple #[(D8 rN rS rD),.int .i64 0])))) :
  Calls Tryz.prog 184 #[I s] w (Re w (.tuple #[(D8 rN rS rD),.int .i64 0])):=by
 go_enter Tryz.func184,Tryz.ntmps184
 go_wp2_with fail
 go_fit (HC.out _ (ba (Jg _ _) _))
 rintro e w1 ⟨rfl,b1⟩
 obtain ⟨kr,b1⟩:=Hv b1
 have sz:=b1.size
 have bb:=b1
 clear b1
 have tr:=kr.lt
 go_wp2_with fail
 go_fit (HN.out _)
 rintro e w2 ⟨rfl,b1⟩
 have sz:=b1.size
 replace kr:=kr.b b1
 replace bb:=Ia bb b1
 clear b1
 go_wp2_with fail
 go_fit (HD.out _)
 rintro e w3 ⟨rfl,b1⟩
 obtain ⟨kn,b1⟩:=Hv b1
 have sz:=b1.size
 replace kr:=kr.b b1
 replace bb:=Ia bb b1
 clear b1
 have tn:=kn.lt
 obtain ⟨cn_0,cn_1⟩:=Dc kn
 obtain ⟨cn_2,cn_3⟩:=Dc (kn.alloc (.cells #[Iz false,I dS] 24))
 go_wp2_with fail
 clear cn_0 cn_1 cn_2 cn_3
 go_fit (HM.out _ (ba bb _))
 rintro e w4 ⟨rfl,b1⟩
 obtain ⟨kd,b1⟩:=Hv b1
 have sz:=b1.size
 replace kr:=kr.b b1
 replace kn:=kn.b b1
 replace bb:=Ia bb b1
 clear b1
 have td:=kd.lt
 have cr_0:=Cw kr
 have fr_1:=Bi.o kr 0
 have cr_2:=Cv kr
 have fr_3:=Bi.o kr 1
 have cr_4:=Cu kr
 have fr_5:=Bi.o kr 2
 go_wp2
 exact Dt (p:=2) (u:=3) (by kernel_rfl) rfl rfl rfl (((kr.set 0 _).set 1 _).set 2 _) ⟨rfl,Cr (Cr (Cr bb (by omega) 0 _) (by omega) 1 _) (by omega) 2 _⟩
theorem Zl (n0:Bool) (s0 d0 t:ByteArray) (h:(d0.toList == [1])=true) (w:World)
  (H1:Hid (∀ w1,Calls Tryz.prog 109 #[.agg #[Iz n0,I s0]] w1 (Re w1 (I t)))) :
  Calls Tryz.prog 56 #[(D8 n0 s0 d0)] w (Re w (I t)):=by
 go_enter Tryz.func56,Tryz.ntmps56
 go_wp2_with fail
 go_fit (H1.out _)
 rintro e w1 ⟨rfl,b1⟩
 obtain ⟨ka,b1⟩:=Hv b1
 have sz:=b1.size
 have bb:=b1
 clear b1
 have ta:=ka.lt
 obtain ⟨ca_0,ca_1,ca_2⟩:=Hw ka
 go_wp2
 go_ret
 exact ⟨rfl,bb⟩
theorem Zk (n0:Bool) (s0 d0 t v:ByteArray) (h:(d0.toList == [1])=false) (ht:t.size≤10000) (hv:v.size≤10000) (w:World)
  (H1:Hid (∀ w1,Calls Tryz.prog 109 #[.agg #[Iz n0,I s0]] w1 (Re w1 (I t))))
  (H2:Hid (∀ w1,Calls Tryz.prog 109 #[.agg #[Iz false,I d0]] w1 (Re w1 (I v)))) :
  Calls Tryz.prog 56 #[(D8 n0 s0 d0)] w (Re w (I ((t ++ ⟨#[47]⟩) ++ v))):=by
 go_enter Tryz.func56,Tryz.ntmps56
 go_wp2_with fail
 go_fit (H1.out _)
 rintro e w1 ⟨rfl,b1⟩
 obtain ⟨ka,b1⟩:=Hv b1
 have sz:=b1.size
 have bb:=b1
 clear b1
 have ta:=ka.lt
 obtain ⟨ca_0,ca_1,ca_2⟩:=Hw ka
 go_wp2_with fail
 clear ca_0 ca_1 ca_2
 go_fit (Rp _ _ _ _)
 rintro e w2 ⟨rfl,b1⟩
 have sz:=b1.size
 replace ka:=ka.b b1
 replace bb:=Ia bb b1
 clear b1
 go_wp2_with fail
 go_fit (H2.out _)
 rintro e w3 ⟨rfl,b1⟩
 have sz:=b1.size
 replace ka:=ka.b b1
 replace bb:=Ia bb b1
 clear b1
 go_wp2
 go_ret
 exact ⟨rfl,bb⟩
open Go.RowKit Go.Shelf
theorem Xm {n:Bool} {s d:ByteArray} (h:Yv n s d):((D8 n s d):Value)=qI (qOf n s d):=by
 unfold qI
 rw [h.parts.1,h.parts.2.1,h.parts.2.2]
theorem Vt {V t:Nat} (h:t∈dt V):48≤t∧t<58:=by
 unfold dt at h
 rw [List.mem_reverse,List.mem_map] at h
 obtain ⟨x,hx,rfl⟩:=h
 have:=M.digs_lt (b:=10) (by omega) V x hx
 omega
theorem Bbm {l:List Nat} (h:∀ t∈l,45=t∨(48≤t∧t<58)):∀ x∈(Cs l).data.toList,x≠47:=by
 intro x hx e
 unfold Cs at hx
 rw [List.mem_map] at hx
 obtain ⟨t,ht,rfl⟩:=hx
 have h1:=h t ht
 have h2:=congrArg UInt8.toNat e
 rw [UInt8.toNat_ofNat'] at h2
 have h3:(47:UInt8).toNat=47:=rfl
 rw [h3] at h2
 omega
theorem Bbz (n:Bool) (s:ByteArray):∀ x∈(Dh n s).data.toList,x≠47:=by
 unfold Dh
 split
 ·decide
 ·split
  ·refine Bbm fun t ht=>?_
   rcases List.mem_cons.1 ht with rfl | h
   ·exact Or.inl rfl
   ·exact Or.inr (Vt h)
  ·exact Bbm fun t ht=>Or.inr (Vt ht)
theorem Rg (n:Bool) (s d:ByteArray) (w:World) (o:Yv n s d) (zs:s.size≤400) (zd:d.size≤400) :
  Calls Tryz.prog 56 #[(D8 n s d)] w (Re w (I (Gc n s d))):=by
 have H1:=fun w1=>Rh n s w1 zs _ rfl
 have H2:=fun w1=>Rh false d w1 zd _ rfl
 unfold Gc
 by_cases h1:Bc d=1
 ·rw [if_pos h1]
  have ed:d=⟨#[1]⟩:=(L8 o.2.1).2 h1
  subst ed
  exact Zl n s ⟨#[1]⟩ (Dh n s) (by rw [ByteArray.toList_eq];rfl) w H1
 ·rw [if_neg h1]
  exact Zk n s d (Dh n s) (Dh false d) (Ue (fun e=>h1 (by rw [e,Ch]))) (Jf (Fb n s zs) (by omega)) (Jf (Fb false d zd) (by omega)) w H1 H2
open Go.RowKit Go.Shelf
theorem Ns (nN:Bool) (s o u nS:ByteArray) (c:Int) (hc:¬ c=0) (w:World)
  (HC:Hid (∀ w1,Below w.heap.size w w1→Calls Tryz.prog 215 #[I s,I ⟨#[47]⟩] w1 (Re w1 (.tuple #[I o,I u,Iz true]))))
  (HN:Hid (∀ w1,Calls Tryz.prog 216 #[I o] w1 (Re w1 (.tuple #[.agg #[Iz nN,I nS],.int .i64 c])))) :
  Calls Tryz.prog 184 #[I s] w (Re w (.tuple #[(D8 false eB eB),.int .i64 c])):=by
 go_enter Tryz.func184,Tryz.ntmps184
 go_wp2_with fail
 go_fit (HC.out _ (ba (Jg _ _) _))
 rintro e w1 ⟨rfl,b1⟩
 obtain ⟨kr,b1⟩:=Hv b1
 have sz:=b1.size
 have bb:=b1
 clear b1
 have tr:=kr.lt
 go_wp2_with fail
 go_fit (HN.out _)
 rintro e w2 ⟨rfl,b1⟩
 have sz:=b1.size
 replace kr:=kr.b b1
 replace bb:=Ia bb b1
 clear b1
 have cr_0:=Cw kr
 have fr_1:=Bi.o kr 0
 have cr_2:=Cv kr
 have fr_3:=Bi.o kr 1
 have cr_4:=Cu kr
 have fr_5:=Bi.o kr 2
 have cr_6:=Cw (kr.alloc (.cells #[Iz nN,I nS] 24))
 have fr_7:=Bi.o (kr.alloc (.cells #[Iz nN,I nS] 24)) 0
 have cr_8:=Cv (kr.alloc (.cells #[Iz nN,I nS] 24))
 have fr_9:=Bi.o (kr.alloc (.cells #[Iz nN,I nS] 24)) 1
 have cr_10:=Cu (kr.alloc (.cells #[Iz nN,I nS] 24))
 have fr_11:=Bi.o (kr.alloc (.cells #[Iz nN,I nS] 24)) 2
 go_wp2
 exact Dt (p:=2) (u:=3) (by kernel_rfl) rfl rfl rfl ((((kr.alloc _).set 0 _).set 1 _).set 2 _) ⟨rfl,Cr (Cr (Cr (ba bb _) (by omega) 0 _) (by omega) 1 _) (by omega) 2 _⟩
theorem Gk (nN:Bool) (s o u nS:ByteArray) (c:Int) (hc:¬ c=0) (w:World)
  (HC:Hid (∀ w1,Below w.heap.size w w1→Calls Tryz.prog 215 #[I s,I ⟨#[47]⟩] w1 (Re w1 (.tuple #[I o,I u,Iz false]))))
  (HN:Hid (∀ w1,Calls Tryz.prog 216 #[I o] w1 (Re w1 (.tuple #[.agg #[Iz nN,I nS],.int .i64 c])))) :
  Calls Tryz.prog 184 #[I s] w (Re w (.tuple #[(D8 false eB eB),.int .i64 c])):=by
 go_enter Tryz.func184,Tryz.ntmps184
 go_wp2_with fail
 go_fit (HC.out _ (ba (Jg _ _) _))
 rintro e w1 ⟨rfl,b1⟩
 obtain ⟨kr,b1⟩:=Hv b1
 have sz:=b1.size
 have bb:=b1
 clear b1
 have tr:=kr.lt
 go_wp2_with fail
 go_fit (HN.out _)
 rintro e w2 ⟨rfl,b1⟩
 have sz:=b1.size
 replace kr:=kr.b b1
 replace bb:=Ia bb b1
 clear b1
 have cr_0:=Cw kr
 have fr_1:=Bi.o kr 0
 have cr_2:=Cv kr
 have fr_3:=Bi.o kr 1
 have cr_4:=Cu kr
 have fr_5:=Bi.o kr 2
 have cr_6:=Cw (kr.alloc (.cells #[Iz nN,I nS] 24))
 have fr_7:=Bi.o (kr.alloc (.cells #[Iz nN,I nS] 24)) 0
 have cr_8:=Cv (kr.alloc (.cells #[Iz nN,I nS] 24))
 have fr_9:=Bi.o (kr.alloc (.cells #[Iz nN,I nS] 24)) 1
 have cr_10:=Cu (kr.alloc (.cells #[Iz nN,I nS] 24))
 have fr_11:=Bi.o (kr.alloc (.cells #[Iz nN,I nS] 24)) 2
 go_wp2
 exact Dt (p:=2) (u:=3) (by kernel_rfl) rfl rfl rfl ((((kr.alloc _).set 0 _).set 1 _).set 2 _) ⟨rfl,Cr (Cr (Cr (ba bb _) (by omega) 0 _) (by omega) 1 _) (by omega) 2 _⟩
theorem Nv (nN:Bool) (s o u nS:ByteArray) (dN:Bool) (dS:ByteArray) (c:Int) (hc:¬ c=0) (w:World)
  (HC:Hid (∀ w1,Below w.heap.size w w1→Calls Tryz.prog 215 #[I s,I ⟨#[47]⟩] w1 (Re w1 (.tuple #[I o,I u,Iz true]))))
  (HN:Hid (∀ w1,Calls Tryz.prog 216 #[I o] w1 (Re w1 (.tuple #[.agg #[Iz nN,I nS],.int .i64 0]))))
  (HD:Hid (∀ w1,Calls Tryz.prog 216 #[I u] w1 (Re w1 (.tuple #[.agg #[Iz dN,I dS],.int .i64 c])))) :
  Calls Tryz.prog 184 #[I s] w (Re w (.tuple #[(D8 false eB eB),.int .i64 4])):=by
 go_enter Tryz.func184,Tryz.ntmps184
 go_wp2_with fail
 go_fit (HC.out _ (ba (Jg _ _) _))
 rintro e w1 ⟨rfl,b1⟩
 obtain ⟨kr,b1⟩:=Hv b1
 have sz:=b1.size
 have bb:=b1
 clear b1
 have tr:=kr.lt
 go_wp2_with fail
 go_fit (HN.out _)
 rintro e w2 ⟨rfl,b1⟩
 have sz:=b1.size
 replace kr:=kr.b b1
 replace bb:=Ia bb b1
 clear b1
 go_wp2_with fail
 go_fit (HD.out _)
 rintro e w3 ⟨rfl,b1⟩
 obtain ⟨kn,b1⟩:=Hv b1
 have sz:=b1.size
 replace kr:=kr.b b1
 replace bb:=Ia bb b1
 clear b1
 have tn:=kn.lt
 have cr_0:=Cw kr
 have fr_1:=Bi.o kr 0
 have cr_2:=Cv kr
 have fr_3:=Bi.o kr 1
 have cr_4:=Cu kr
 have fr_5:=Bi.o kr 2
 have cr_6:=Cw (kr.alloc (.cells #[Iz dN,I dS] 24))
 have fr_7:=Bi.o (kr.alloc (.cells #[Iz dN,I dS] 24)) 0
 have cr_8:=Cv (kr.alloc (.cells #[Iz dN,I dS] 24))
 have fr_9:=Bi.o (kr.alloc (.cells #[Iz dN,I dS] 24)) 1
 have cr_10:=Cu (kr.alloc (.cells #[Iz dN,I dS] 24))
 have fr_11:=Bi.o (kr.alloc (.cells #[Iz dN,I dS] 24)) 2
 go_wp2
 exact Dt (p:=2) (u:=3) (by kernel_rfl) rfl rfl rfl ((((kr.alloc _).set 0 _).set 1 _).set 2 _) ⟨rfl,Cr (Cr (Cr (ba bb _) (by omega) 0 _) (by omega) 1 _) (by omega) 2 _⟩
theorem Nu (nN:Bool) (s o u nS:ByteArray) (dS:ByteArray) (w:World)
  (HC:Hid (∀ w1,Below w.heap.size w w1→Calls Tryz.prog 215 #[I s,I ⟨#[47]⟩] w1 (Re w1 (.tuple #[I o,I u,Iz true]))))
  (HN:Hid (∀ w1,Calls Tryz.prog 216 #[I o] w1 (Re w1 (.tuple #[.agg #[Iz nN,I nS],.int .i64 0]))))
  (HD:Hid (∀ w1,Calls Tryz.prog 216 #[I u] w1 (Re w1 (.tuple #[.agg #[Iz true,I dS],.int .i64 0])))) :
  Calls Tryz.prog 184 #[I s] w (Re w (.tuple #[(D8 false eB eB),.int .i64 4])):=by
 go_enter Tryz.func184,Tryz.ntmps184
 go_wp2_with fail
 go_fit (HC.out _ (ba (Jg _ _) _))
 rintro e w1 ⟨rfl,b1⟩
 obtain ⟨kr,b1⟩:=Hv b1
 have sz:=b1.size
 have bb:=b1
 clear b1
 have tr:=kr.lt
 go_wp2_with fail
 go_fit (HN.out _)
 rintro e w2 ⟨rfl,b1⟩
 have sz:=b1.size
 replace kr:=kr.b b1
 replace bb:=Ia bb b1
 clear b1
 go_wp2_with fail
 go_fit (HD.out _)
 rintro e w3 ⟨rfl,b1⟩
 obtain ⟨kn,b1⟩:=Hv b1
 have sz:=b1.size
 replace kr:=kr.b b1
 replace bb:=Ia bb b1
 clear b1
 have tn:=kn.lt
 have cr_0:=Cw kr
 have fr_1:=Bi.o kr 0
 have cr_2:=Cv kr
 have fr_3:=Bi.o kr 1
 have cr_4:=Cu kr
 have fr_5:=Bi.o kr 2
 have cr_6:=Cw (kr.alloc (.cells #[Iz true,I dS] 24))
 have fr_7:=Bi.o (kr.alloc (.cells #[Iz true,I dS] 24)) 0
 have cr_8:=Cv (kr.alloc (.cells #[Iz true,I dS] 24))
 have fr_9:=Bi.o (kr.alloc (.cells #[Iz true,I dS] 24)) 1
 have cr_10:=Cu (kr.alloc (.cells #[Iz true,I dS] 24))
 have fr_11:=Bi.o (kr.alloc (.cells #[Iz true,I dS] 24)) 2
 go_wp2
 exact Dt (p:=2) (u:=3) (by kernel_rfl) rfl rfl rfl ((((kr.alloc _).set 0 _).set 1 _).set 2 _) ⟨rfl,Cr (Cr (Cr (ba bb _) (by omega) 0 _) (by omega) 1 _) (by omega) 2 _⟩
theorem Nt (nN:Bool) (s o u nS:ByteArray) (w:World)
  (HC:Hid (∀ w1,Below w.heap.size w w1→Calls Tryz.prog 215 #[I s,I ⟨#[47]⟩] w1 (Re w1 (.tuple #[I o,I u,Iz true]))))
  (HN:Hid (∀ w1,Calls Tryz.prog 216 #[I o] w1 (Re w1 (.tuple #[.agg #[Iz nN,I nS],.int .i64 0]))))
  (HD:Hid (∀ w1,Calls Tryz.prog 216 #[I u] w1 (Re w1 (.tuple #[.agg #[Iz false,.string { data:=#[] }],.int .i64 0])))) :
  Calls Tryz.prog 184 #[I s] w (Re w (.tuple #[(D8 false eB eB),.int .i64 4])):=by
 go_enter Tryz.func184,Tryz.ntmps184
 go_wp2_with fail
 go_fit (HC.out _ (ba (Jg _ _) _))
 rintro e w1 ⟨rfl,b1⟩
 obtain ⟨kr,b1⟩:=Hv b1
 have sz:=b1.size
 have bb:=b1
 clear b1
 have tr:=kr.lt
 go_wp2_with fail
 go_fit (HN.out _)
 rintro e w2 ⟨rfl,b1⟩
 have sz:=b1.size
 replace kr:=kr.b b1
 replace bb:=Ia bb b1
 clear b1
 go_wp2_with fail
 go_fit (HD.out _)
 rintro e w3 ⟨rfl,b1⟩
 obtain ⟨kn,b1⟩:=Hv b1
 have sz:=b1.size
 replace kr:=kr.b b1
 replace bb:=Ia bb b1
 clear b1
 have tn:=kn.lt
 have cr_0:=Cw kr
 have fr_1:=Bi.o kr 0
 have cr_2:=Cv kr
 have fr_3:=Bi.o kr 1
 have cr_4:=Cu kr
 have fr_5:=Bi.o kr 2
 have cr_6:=Cw (kr.alloc (.cells #[Iz false,.string { data:=#[] }] 24))
 have fr_7:=Bi.o (kr.alloc (.cells #[Iz false,.string { data:=#[] }] 24)) 0
 have cr_8:=Cv (kr.alloc (.cells #[Iz false,.string { data:=#[] }] 24))
 have fr_9:=Bi.o (kr.alloc (.cells #[Iz false,.string { data:=#[] }] 24)) 1
 have cr_10:=Cu (kr.alloc (.cells #[Iz false,.string { data:=#[] }] 24))
 have fr_11:=Bi.o (kr.alloc (.cells #[Iz false,.string { data:=#[] }] 24)) 2
 go_wp2
 exact Dt (p:=2) (u:=3) (by kernel_rfl) rfl rfl rfl ((((kr.alloc _).set 0 _).set 1 _).set 2 _) ⟨rfl,Cr (Cr (Cr (ba bb _) (by omega) 0 _) (by omega) 1 _) (by omega) 2 _⟩
open Go.RowKit Go.Shelf
theorem Zt (s:ByteArray) (hz:s.size≤9223372036854775807) (hA:∀ (i:Nat) (h:i<s.size),¬ s[i]'h=47) (nN:Bool) (nS:ByteArray) (c:Int) (hc:¬ c=0) (w:World)
  (HN:Hid (∀ w1,Calls Tryz.prog 187 #[I s] w1 (Re w1 (.tuple #[.agg #[Iz nN,I nS],.int .i64 c])))) :
  Calls Tryz.prog 153 #[I s] w (Re w (.tuple #[(D8 false eB eB),.int .i64 c])):=by
 go_enter Tryz.func153,Tryz.ntmps153
 go_wp2_with fail
 obtain ⟨w1,hw,kr,b1⟩:=Es w (D6 false eB eB) 26
 rw [← hw]
 clear hw
 have sz:=b1.size
 have tr:=kr.lt
 have bb:=b1
 clear b1
 go_wp2
 go_loopw [4,5] (fun av iv wr=>∃ i:Nat,av=.int .i64 (-1)∧iv=.int .i64 (i:Int)∧i≤s.size∧wr=w1) (fun _ iv _=>s.size - (intOf iv).toNat)
 case atStart=>exact ⟨0,rfl,rfl,by omega,rfl⟩
 case round =>
  obtain ⟨i,rfl,rfl,hi,rfl⟩:=hrel
  by_cases hlt:i<s.size
  ·have hlt':(i:Int)<(s.size:Int):=by omega
   have p3:=hA i hlt
   have p2:¬ ((s[i]).toNat:Int)=47:=fun h=>p3 (UInt8.toNat.inj (by show _=47;omega))
   clear hA
   go_wp2
   refine ⟨⟨i+1,rfl,by simp,by omega,by first | rfl | trivial⟩,?_⟩
   simp [intOf];omega
  ·have hge:¬ (i:Int)<(s.size:Int):=by omega
   clear hA
   go_wp2_with fail
   go_fit (HN.out _)
   rintro e w2 ⟨rfl,b1⟩
   have sz:=b1.size
   replace kr:=kr.b b1
   replace bb:=Ia bb b1
   clear b1
   have cr_0:=Cw kr
   have fr_1:=Bi.o kr 0
   have cr_2:=Cv kr
   have fr_3:=Bi.o kr 1
   have cr_4:=Cu kr
   have fr_5:=Bi.o kr 2
   have cr_6:=Cw (kr.alloc (.cells #[Iz nN,I nS] 24))
   have fr_7:=Bi.o (kr.alloc (.cells #[Iz nN,I nS] 24)) 0
   have cr_8:=Cv (kr.alloc (.cells #[Iz nN,I nS] 24))
   have fr_9:=Bi.o (kr.alloc (.cells #[Iz nN,I nS] 24)) 1
   have cr_10:=Cu (kr.alloc (.cells #[Iz nN,I nS] 24))
   have fr_11:=Bi.o (kr.alloc (.cells #[Iz nN,I nS] 24)) 2
   go_wp2
   exact Dt (p:=2) (u:=3) (by kernel_rfl) rfl rfl rfl ((((kr.alloc _).set 0 _).set 1 _).set 2 _) ⟨rfl,Cr (Cr (Cr (ba bb _) (by omega) 0 _) (by omega) 1 _) (by omega) 2 _⟩
theorem Zs (s:ByteArray) (hz:s.size≤9223372036854775807) (hA:∀ (i:Nat) (h:i<s.size),¬ s[i]'h=47) (nN:Bool) (nS:ByteArray) (w:World)
  (HN:Hid (∀ w1,Calls Tryz.prog 187 #[I s] w1 (Re w1 (.tuple #[.agg #[Iz nN,I nS],.int .i64 0])))) :
  Calls Tryz.prog 153 #[I s] w (Re w (.tuple #[(D8 nN nS ⟨#[1]⟩),.int .i64 0])):=by
 go_enter Tryz.func153,Tryz.ntmps153
 go_wp2_with fail
 obtain ⟨w1,hw,kr,b1⟩:=Es w (D6 false eB eB) 26
 rw [← hw]
 clear hw
 have sz:=b1.size
 have tr:=kr.lt
 have bb:=b1
 clear b1
 go_wp2
 go_loopw [4,5] (fun av iv wr=>∃ i:Nat,av=.int .i64 (-1)∧iv=.int .i64 (i:Int)∧i≤s.size∧wr=w1) (fun _ iv _=>s.size - (intOf iv).toNat)
 case atStart=>exact ⟨0,rfl,rfl,by omega,rfl⟩
 case round =>
  obtain ⟨i,rfl,rfl,hi,rfl⟩:=hrel
  by_cases hlt:i<s.size
  ·have hlt':(i:Int)<(s.size:Int):=by omega
   have p3:=hA i hlt
   have p2:¬ ((s[i]).toNat:Int)=47:=fun h=>p3 (UInt8.toNat.inj (by show _=47;omega))
   clear hA
   go_wp2
   refine ⟨⟨i+1,rfl,by simp,by omega,by first | rfl | trivial⟩,?_⟩
   simp [intOf];omega
  ·have hge:¬ (i:Int)<(s.size:Int):=by omega
   clear hA
   go_wp2_with fail
   go_fit (HN.out _)
   rintro e w2 ⟨rfl,b1⟩
   have sz:=b1.size
   replace kr:=kr.b b1
   replace bb:=Ia bb b1
   clear b1
   have cr_0:=Cw kr
   have fr_1:=Bi.o kr 0
   have cr_2:=Cv kr
   have fr_3:=Bi.o kr 1
   have cr_4:=Cu kr
   have fr_5:=Bi.o kr 2
   have cr_6:=Cw (kr.alloc (.cells #[Iz nN,I nS] 24))
   have fr_7:=Bi.o (kr.alloc (.cells #[Iz nN,I nS] 24)) 0
   have cr_8:=Cv (kr.alloc (.cells #[Iz nN,I nS] 24))
   have fr_9:=Bi.o (kr.alloc (.cells #[Iz nN,I nS] 24)) 1
   have cr_10:=Cu (kr.alloc (.cells #[Iz nN,I nS] 24))
   have fr_11:=Bi.o (kr.alloc (.cells #[Iz nN,I nS] 24)) 2
   go_wp2
   exact Dt (p:=2) (u:=3) (by kernel_rfl) rfl rfl rfl ((((kr.alloc _).set 0 _).set 1 _).set 2 _) ⟨rfl,Cr (Cr (Cr (ba bb _) (by omega) 0 _) (by omega) 1 _) (by omega) 2 _⟩
theorem Zr (s o u:ByteArray) (hz:s.size≤9223372036854775807) (K:Nat) (hK:K<s.size) (hB:∀ (i:Nat) (h:i<K),¬ s[i]'(Nat.lt_trans h hK)=47) (hk:s[K]'hK=47) (HO:Hid (s.extract 0 K=o)) (HU:Hid (s.extract (K+1) s.size=u)) (nN:Bool) (nS:ByteArray) (dN:Bool) (dS:ByteArray) (c c2:Int) (hc:¬ c=0) (w:World)
  (HN:Hid (∀ w1,Calls Tryz.prog 187 #[I o] w1 (Re w1 (.tuple #[.agg #[Iz nN,I nS],.int .i64 c]))))
  (HD:Hid (∀ w1,Calls Tryz.prog 187 #[I u] w1 (Re w1 (.tuple #[.agg #[Iz dN,I dS],.int .i64 c2])))) :
  Calls Tryz.prog 153 #[I s] w (Re w (.tuple #[(D8 false eB eB),.int .i64 4])):=by
 go_enter Tryz.func153,Tryz.ntmps153
 go_wp2_with fail
 obtain ⟨w1,hw,kr,b1⟩:=Es w (D6 false eB eB) 26
 rw [← hw]
 clear hw
 have sz:=b1.size
 have tr:=kr.lt
 have bb:=b1
 clear b1
 go_wp2
 go_loopw [4,5] (fun av iv wr=>∃ i:Nat,((i≤K∧av=.int .i64 (-1))∨(K<i∧av=.int .i64 (K:Int)))∧iv=.int .i64 (i:Int)∧i≤s.size∧wr=w1) (fun _ iv _=>s.size - (intOf iv).toNat)
 case atStart=>exact ⟨0,Or.inl ⟨by omega,rfl⟩,rfl,by omega,rfl⟩
 case round =>
  obtain ⟨i,hcase,rfl,hi,rfl⟩:=hrel
  by_cases hlt:i<s.size
  ·have hlt':(i:Int)<(s.size:Int):=by omega
   rcases hcase with ⟨hc,rfl⟩ | ⟨hc,rfl⟩
   ·by_cases hk0:i<K
    ·have p3:=hB i hk0
     have p2:¬ ((s[i]).toNat:Int)=47:=fun h=>p3 (UInt8.toNat.inj (by show _=47;omega))
     clear hB hk
     go_wp2
     refine ⟨⟨i+1,Or.inl ⟨by omega,rfl⟩,by simp,by omega,by first | rfl | trivial⟩,?_⟩
     simp [intOf];omega
    ·obtain rfl:i=K:=by omega
     have p2:((s[i]).toNat:Int)=47:=by rw [hk];rfl
     clear hB
     go_wp2
     refine ⟨⟨i+1,Or.inr ⟨by omega,rfl⟩,by simp,by omega,by first | rfl | trivial⟩,?_⟩
     simp [intOf];omega
   ·have q1:¬ ((K:Int)<0):=by omega
    clear hB hk
    by_cases p3:s[i]=47
    ·have p2:((s[i]).toNat:Int)=47:=by rw [p3];rfl
     go_wp2
     refine ⟨⟨i+1,Or.inr ⟨by omega,rfl⟩,by simp,by omega,by first | rfl | trivial⟩,?_⟩
     simp [intOf];omega
    ·have p2:¬ ((s[i]).toNat:Int)=47:=fun h=>p3 (UInt8.toNat.inj (by show _=47;omega))
     go_wp2
     refine ⟨⟨i+1,Or.inr ⟨by omega,rfl⟩,by simp,by omega,by first | rfl | trivial⟩,?_⟩
     simp [intOf];omega
  ·have hge:¬ (i:Int)<(s.size:Int):=by omega
   rcases hcase with ⟨hc,rfl⟩ | ⟨hc,rfl⟩
   ·omega
   have q1:¬ ((K:Int)<0):=by omega
   have q2:(K:Int)≤(s.size:Int):=by omega
   have q3:(K:Int)+1≤(s.size:Int):=by omega
   have q4:(s.size:Int)≤9223372036854775807:=by omega
   clear hB hk
   have hO:=HO.out
   have hU:=HU.out
   go_wp2_with fail
   go_fit (HN.out _)
   rintro e w2 ⟨rfl,b1⟩
   have sz:=b1.size
   replace kr:=kr.b b1
   replace bb:=Ia bb b1
   clear b1
   go_wp2_with fail
   go_fit (HD.out _)
   rintro e w3 ⟨rfl,b1⟩
   obtain ⟨kn,b1⟩:=Hv b1
   have sz:=b1.size
   replace kr:=kr.b b1
   replace bb:=Ia bb b1
   clear b1
   have tn:=kn.lt
   have cr_0:=Cw kr
   have fr_1:=Bi.o kr 0
   have cr_2:=Cv kr
   have fr_3:=Bi.o kr 1
   have cr_4:=Cu kr
   have fr_5:=Bi.o kr 2
   have cr_6:=Cw (kr.alloc (.cells #[Iz dN,I dS] 24))
   have fr_7:=Bi.o (kr.alloc (.cells #[Iz dN,I dS] 24)) 0
   have cr_8:=Cv (kr.alloc (.cells #[Iz dN,I dS] 24))
   have fr_9:=Bi.o (kr.alloc (.cells #[Iz dN,I dS] 24)) 1
   have cr_10:=Cu (kr.alloc (.cells #[Iz dN,I dS] 24))
   have fr_11:=Bi.o (kr.alloc (.cells #[Iz dN,I dS] 24)) 2
   go_wp2
   exact Dt (p:=2) (u:=3) (by kernel_rfl) rfl rfl rfl ((((kr.alloc _).set 0 _).set 1 _).set 2 _) ⟨rfl,Cr (Cr (Cr (ba bb _) (by omega) 0 _) (by omega) 1 _) (by omega) 2 _⟩
theorem Zq (s o u:ByteArray) (hz:s.size≤9223372036854775807) (K:Nat) (hK:K<s.size) (hB:∀ (i:Nat) (h:i<K),¬ s[i]'(Nat.lt_trans h hK)=47) (hk:s[K]'hK=47) (HO:Hid (s.extract 0 K=o)) (HU:Hid (s.extract (K+1) s.size=u)) (nN:Bool) (nS:ByteArray) (dN:Bool) (dS:ByteArray) (c:Int) (hc:¬ c=0) (w:World)
  (HN:Hid (∀ w1,Calls Tryz.prog 187 #[I o] w1 (Re w1 (.tuple #[.agg #[Iz nN,I nS],.int .i64 0]))))
  (HD:Hid (∀ w1,Calls Tryz.prog 187 #[I u] w1 (Re w1 (.tuple #[.agg #[Iz dN,I dS],.int .i64 c])))) :
  Calls Tryz.prog 153 #[I s] w (Re w (.tuple #[(D8 false eB eB),.int .i64 4])):=by
 go_enter Tryz.func153,Tryz.ntmps153
 go_wp2_with fail
 obtain ⟨w1,hw,kr,b1⟩:=Es w (D6 false eB eB) 26
 rw [← hw]
 clear hw
 have sz:=b1.size
 have tr:=kr.lt
 have bb:=b1
 clear b1
 go_wp2
 go_loopw [4,5] (fun av iv wr=>∃ i:Nat,((i≤K∧av=.int .i64 (-1))∨(K<i∧av=.int .i64 (K:Int)))∧iv=.int .i64 (i:Int)∧i≤s.size∧wr=w1) (fun _ iv _=>s.size - (intOf iv).toNat)
 case atStart=>exact ⟨0,Or.inl ⟨by omega,rfl⟩,rfl,by omega,rfl⟩
 case round =>
  obtain ⟨i,hcase,rfl,hi,rfl⟩:=hrel
  by_cases hlt:i<s.size
  ·have hlt':(i:Int)<(s.size:Int):=by omega
   rcases hcase with ⟨hc,rfl⟩ | ⟨hc,rfl⟩
   ·by_cases hk0:i<K
    ·have p3:=hB i hk0
     have p2:¬ ((s[i]).toNat:Int)=47:=fun h=>p3 (UInt8.toNat.inj (by show _=47;omega))
     clear hB hk
     go_wp2
     refine ⟨⟨i+1,Or.inl ⟨by omega,rfl⟩,by simp,by omega,by first | rfl | trivial⟩,?_⟩
     simp [intOf];omega
    ·obtain rfl:i=K:=by omega
     have p2:((s[i]).toNat:Int)=47:=by rw [hk];rfl
     clear hB
     go_wp2
     refine ⟨⟨i+1,Or.inr ⟨by omega,rfl⟩,by simp,by omega,by first | rfl | trivial⟩,?_⟩
     simp [intOf];omega
   ·have q1:¬ ((K:Int)<0):=by omega
    clear hB hk
    by_cases p3:s[i]=47
    ·have p2:((s[i]).toNat:Int)=47:=by rw [p3];rfl
     go_wp2
     refine ⟨⟨i+1,Or.inr ⟨by omega,rfl⟩,by simp,by omega,by first | rfl | trivial⟩,?_⟩
     simp [intOf];omega
    ·have p2:¬ ((s[i]).toNat:Int)=47:=fun h=>p3 (UInt8.toNat.inj (by show _=47;omega))
     go_wp2
     refine ⟨⟨i+1,Or.inr ⟨by omega,rfl⟩,by simp,by omega,by first | rfl | trivial⟩,?_⟩
     simp [intOf];omega
  ·have hge:¬ (i:Int)<(s.size:Int):=by omega
   rcases hcase with ⟨hc,rfl⟩ | ⟨hc,rfl⟩
   ·omega
   have q1:¬ ((K:Int)<0):=by omega
   have q2:(K:Int)≤(s.size:Int):=by omega
   have q3:(K:Int)+1≤(s.size:Int):=by omega
   have q4:(s.size:Int)≤9223372036854775807:=by omega
   clear hB hk
   have hO:=HO.out
   have hU:=HU.out
   go_wp2_with fail
   go_fit (HN.out _)
   rintro e w2 ⟨rfl,b1⟩
   have sz:=b1.size
   replace kr:=kr.b b1
   replace bb:=Ia bb b1
   clear b1
   go_wp2_with fail
   go_fit (HD.out _)
   rintro e w3 ⟨rfl,b1⟩
   obtain ⟨kn,b1⟩:=Hv b1
   have sz:=b1.size
   replace kr:=kr.b b1
   replace bb:=Ia bb b1
   clear b1
   have tn:=kn.lt
   have cr_0:=Cw kr
   have fr_1:=Bi.o kr 0
   have cr_2:=Cv kr
   have fr_3:=Bi.o kr 1
   have cr_4:=Cu kr
   have fr_5:=Bi.o kr 2
   have cr_6:=Cw (kr.alloc (.cells #[Iz dN,I dS] 24))
   have fr_7:=Bi.o (kr.alloc (.cells #[Iz dN,I dS] 24)) 0
   have cr_8:=Cv (kr.alloc (.cells #[Iz dN,I dS] 24))
   have fr_9:=Bi.o (kr.alloc (.cells #[Iz dN,I dS] 24)) 1
   have cr_10:=Cu (kr.alloc (.cells #[Iz dN,I dS] 24))
   have fr_11:=Bi.o (kr.alloc (.cells #[Iz dN,I dS] 24)) 2
   go_wp2
   exact Dt (p:=2) (u:=3) (by kernel_rfl) rfl rfl rfl ((((kr.alloc _).set 0 _).set 1 _).set 2 _) ⟨rfl,Cr (Cr (Cr (ba bb _) (by omega) 0 _) (by omega) 1 _) (by omega) 2 _⟩
theorem Zp (s o u:ByteArray) (hz:s.size≤9223372036854775807) (K:Nat) (hK:K<s.size) (hB:∀ (i:Nat) (h:i<K),¬ s[i]'(Nat.lt_trans h hK)=47) (hk:s[K]'hK=47) (HO:Hid (s.extract 0 K=o)) (HU:Hid (s.extract (K+1) s.size=u)) (nN:Bool) (nS:ByteArray) (dS:ByteArray) (w:World)
  (HN:Hid (∀ w1,Calls Tryz.prog 187 #[I o] w1 (Re w1 (.tuple #[.agg #[Iz nN,I nS],.int .i64 0]))))
  (HD:Hid (∀ w1,Calls Tryz.prog 187 #[I u] w1 (Re w1 (.tuple #[.agg #[Iz true,I dS],.int .i64 0])))) :
  Calls Tryz.prog 153 #[I s] w (Re w (.tuple #[(D8 false eB eB),.int .i64 4])):=by
 go_enter Tryz.func153,Tryz.ntmps153
 go_wp2_with fail
 obtain ⟨w1,hw,kr,b1⟩:=Es w (D6 false eB eB) 26
 rw [← hw]
 clear hw
 have sz:=b1.size
 have tr:=kr.lt
 have bb:=b1
 clear b1
 go_wp2
 go_loopw [4,5] (fun av iv wr=>∃ i:Nat,((i≤K∧av=.int .i64 (-1))∨(K<i∧av=.int .i64 (K:Int)))∧iv=.int .i64 (i:Int)∧i≤s.size∧wr=w1) (fun _ iv _=>s.size - (intOf iv).toNat)
 case atStart=>exact ⟨0,Or.inl ⟨by omega,rfl⟩,rfl,by omega,rfl⟩
 case round =>
  obtain ⟨i,hcase,rfl,hi,rfl⟩:=hrel
  by_cases hlt:i<s.size
  ·have hlt':(i:Int)<(s.size:Int):=by omega
   rcases hcase with ⟨hc,rfl⟩ | ⟨hc,rfl⟩
   ·by_cases hk0:i<K
    ·have p3:=hB i hk0
     have p2:¬ ((s[i]).toNat:Int)=47:=fun h=>p3 (UInt8.toNat.inj (by show _=47;omega))
     clear hB hk
     go_wp2
     refine ⟨⟨i+1,Or.inl ⟨by omega,rfl⟩,by simp,by omega,by first | rfl | trivial⟩,?_⟩
     simp [intOf];omega
    ·obtain rfl:i=K:=by omega
     have p2:((s[i]).toNat:Int)=47:=by rw [hk];rfl
     clear hB
     go_wp2
     refine ⟨⟨i+1,Or.inr ⟨by omega,rfl⟩,by simp,by omega,by first | rfl | trivial⟩,?_⟩
     simp [intOf];omega
   ·have q1:¬ ((K:Int)<0):=by omega
    clear hB hk
    by_cases p3:s[i]=47
    ·have p2:((s[i]).toNat:Int)=47:=by rw [p3];rfl
     go_wp2
     refine ⟨⟨i+1,Or.inr ⟨by omega,rfl⟩,by simp,by omega,by first | rfl | trivial⟩,?_⟩
     simp [intOf];omega
    ·have p2:¬ ((s[i]).toNat:Int)=47:=fun h=>p3 (UInt8.toNat.inj (by show _=47;omega))
     go_wp2
     refine ⟨⟨i+1,Or.inr ⟨by omega,rfl⟩,by simp,by omega,by first | rfl | trivial⟩,?_⟩
     simp [intOf];omega
  ·have hge:¬ (i:Int)<(s.size:Int):=by omega
   rcases hcase with ⟨hc,rfl⟩ | ⟨hc,rfl⟩
   ·omega
   have q1:¬ ((K:Int)<0):=by omega
   have q2:(K:Int)≤(s.size:Int):=by omega
   have q3:(K:Int)+1≤(s.size:Int):=by omega
   have q4:(s.size:Int)≤9223372036854775807:=by omega
   clear hB hk
   have hO:=HO.out
   have hU:=HU.out
   go_wp2_with fail
   go_fit (HN.out _)
   rintro e w2 ⟨rfl,b1⟩
   have sz:=b1.size
   replace kr:=kr.b b1
   replace bb:=Ia bb b1
   clear b1
   go_wp2_with fail
   go_fit (HD.out _)
   rintro e w3 ⟨rfl,b1⟩
   obtain ⟨kn,b1⟩:=Hv b1
   have sz:=b1.size
   replace kr:=kr.b b1
   replace bb:=Ia bb b1
   clear b1
   have tn:=kn.lt
   have cr_0:=Cw kr
   have fr_1:=Bi.o kr 0
   have cr_2:=Cv kr
   have fr_3:=Bi.o kr 1
   have cr_4:=Cu kr
   have fr_5:=Bi.o kr 2
   have cr_6:=Cw (kr.alloc (.cells #[Iz true,I dS] 24))
   have fr_7:=Bi.o (kr.alloc (.cells #[Iz true,I dS] 24)) 0
   have cr_8:=Cv (kr.alloc (.cells #[Iz true,I dS] 24))
   have fr_9:=Bi.o (kr.alloc (.cells #[Iz true,I dS] 24)) 1
   have cr_10:=Cu (kr.alloc (.cells #[Iz true,I dS] 24))
   have fr_11:=Bi.o (kr.alloc (.cells #[Iz true,I dS] 24)) 2
   go_wp2
   exact Dt (p:=2) (u:=3) (by kernel_rfl) rfl rfl rfl ((((kr.alloc _).set 0 _).set 1 _).set 2 _) ⟨rfl,Cr (Cr (Cr (ba bb _) (by omega) 0 _) (by omega) 1 _) (by omega) 2 _⟩
theorem Zo (s o u:ByteArray) (hz:s.size≤9223372036854775807) (K:Nat) (hK:K<s.size) (hB:∀ (i:Nat) (h:i<K),¬ s[i]'(Nat.lt_trans h hK)=47) (hk:s[K]'hK=47) (HO:Hid (s.extract 0 K=o)) (HU:Hid (s.extract (K+1) s.size=u)) (nN:Bool) (nS:ByteArray) (w:World)
  (HN:Hid (∀ w1,Calls Tryz.prog 187 #[I o] w1 (Re w1 (.tuple #[.agg #[Iz nN,I nS],.int .i64 0]))))
  (HD:Hid (∀ w1,Calls Tryz.prog 187 #[I u] w1 (Re w1 (.tuple #[.agg #[Iz false,.string { data:=#[] }],.int .i64 0])))) :
  Calls Tryz.prog 153 #[I s] w (Re w (.tuple #[(D8 false eB eB),.int .i64 4])):=by
 go_enter Tryz.func153,Tryz.ntmps153
 go_wp2_with fail
 obtain ⟨w1,hw,kr,b1⟩:=Es w (D6 false eB eB) 26
 rw [← hw]
 clear hw
 have sz:=b1.size
 have tr:=kr.lt
 have bb:=b1
 clear b1
 go_wp2
 go_loopw [4,5] (fun av iv wr=>∃ i:Nat,((i≤K∧av=.int .i64 (-1))∨(K<i∧av=.int .i64 (K:Int)))∧iv=.int .i64 (i:Int)∧i≤s.size∧wr=w1) (fun _ iv _=>s.size - (intOf iv).toNat)
 case atStart=>exact ⟨0,Or.inl ⟨by omega,rfl⟩,rfl,by omega,rfl⟩
 case round =>
  obtain ⟨i,hcase,rfl,hi,rfl⟩:=hrel
  by_cases hlt:i<s.size
  ·have hlt':(i:Int)<(s.size:Int):=by omega
   rcases hcase with ⟨hc,rfl⟩ | ⟨hc,rfl⟩
   ·by_cases hk0:i<K
    ·have p3:=hB i hk0
     have p2:¬ ((s[i]).toNat:Int)=47:=fun h=>p3 (UInt8.toNat.inj (by show _=47;omega))
     clear hB hk
     go_wp2
     refine ⟨⟨i+1,Or.inl ⟨by omega,rfl⟩,by simp,by omega,by first | rfl | trivial⟩,?_⟩
     simp [intOf];omega
    ·obtain rfl:i=K:=by omega
     have p2:((s[i]).toNat:Int)=47:=by rw [hk];rfl
     clear hB
     go_wp2
     refine ⟨⟨i+1,Or.inr ⟨by omega,rfl⟩,by simp,by omega,by first | rfl | trivial⟩,?_⟩
     simp [intOf];omega
   ·have q1:¬ ((K:Int)<0):=by omega
    clear hB hk
    by_cases p3:s[i]=47
    ·have p2:((s[i]).toNat:Int)=47:=by rw [p3];rfl
     go_wp2
     refine ⟨⟨i+1,Or.inr ⟨by omega,rfl⟩,by simp,by omega,by first | rfl | trivial⟩,?_⟩
     simp [intOf];omega
    ·have p2:¬ ((s[i]).toNat:Int)=47:=fun h=>p3 (UInt8.toNat.inj (by show _=47;omega))
     go_wp2
     refine ⟨⟨i+1,Or.inr ⟨by omega,rfl⟩,by simp,by omega,by first | rfl | trivial⟩,?_⟩
     simp [intOf];omega
  ·have hge:¬ (i:Int)<(s.size:Int):=by omega
   rcases hcase with ⟨hc,rfl⟩ | ⟨hc,rfl⟩
   ·omega
   have q1:¬ ((K:Int)<0):=by omega
   have q2:(K:Int)≤(s.size:Int):=by omega
   have q3:(K:Int)+1≤(s.size:Int):=by omega
   have q4:(s.size:Int)≤9223372036854775807:=by omega
   clear hB hk
   have hO:=HO.out
   have hU:=HU.out
   go_wp2_with fail
   go_fit (HN.out _)
   rintro e w2 ⟨rfl,b1⟩
   have sz:=b1.size
   replace kr:=kr.b b1
   replace bb:=Ia bb b1
   clear b1
   go_wp2_with fail
   go_fit (HD.out _)
   rintro e w3 ⟨rfl,b1⟩
   obtain ⟨kn,b1⟩:=Hv b1
   have sz:=b1.size
   replace kr:=kr.b b1
   replace bb:=Ia bb b1
   clear b1
   have tn:=kn.lt
   have cr_0:=Cw kr
   have fr_1:=Bi.o kr 0
   have cr_2:=Cv kr
   have fr_3:=Bi.o kr 1
   have cr_4:=Cu kr
   have fr_5:=Bi.o kr 2
   have cr_6:=Cw (kr.alloc (.cells #[Iz false,.string { data:=#[] }] 24))
   have fr_7:=Bi.o (kr.alloc (.cells #[Iz false,.string { data:=#[] }] 24)) 0
   have cr_8:=Cv (kr.alloc (.cells #[Iz false,.string { data:=#[] }] 24))
   have fr_9:=Bi.o (kr.alloc (.cells #[Iz false,.string { data:=#[] }] 24)) 1
   have cr_10:=Cu (kr.alloc (.cells #[Iz false,.string { data:=#[] }] 24))
   have fr_11:=Bi.o (kr.alloc (.cells #[Iz false,.string { data:=#[] }] 24)) 2
   go_wp2
   exact Dt (p:=2) (u:=3) (by kernel_rfl) rfl rfl rfl ((((kr.alloc _).set 0 _).set 1 _).set 2 _) ⟨rfl,Cr (Cr (Cr (ba bb _) (by omega) 0 _) (by omega) 1 _) (by omega) 2 _⟩
theorem Zn (s o u:ByteArray) (hz:s.size≤9223372036854775807) (K:Nat) (hK:K<s.size) (hB:∀ (i:Nat) (h:i<K),¬ s[i]'(Nat.lt_trans h hK)=47) (hk:s[K]'hK=47) (HO:Hid (s.extract 0 K=o)) (HU:Hid (s.extract (K+1) s.size=u)) (nN:Bool) (nS:ByteArray) (rN:Bool) (dS rS rD:ByteArray) (hd:dS.toList.isEmpty=false) (w:World)
  (HN:Hid (∀ w1,Calls Tryz.prog 187 #[I o] w1 (Re w1 (.tuple #[.agg #[Iz nN,I nS],.int .i64 0]))))
  (HD:Hid (∀ w1,Calls Tryz.prog 187 #[I u] w1 (Re w1 (.tuple #[.agg #[Iz false,I dS],.int .i64 0]))))
  (HL:Hid (∀ w1,Calls Tryz.prog 57 #[.agg #[Iz nN,I nS],.agg #[Iz false,I dS]] w1 (Re w1 ((D8 rN rS rD))))) :
  Calls Tryz.prog 153 #[I s] w (Re w (.tuple #[(D8 rN rS rD),.int .i64 0])):=by
 go_enter Tryz.func153,Tryz.ntmps153
 go_wp2_with fail
 obtain ⟨w1,hw,kr,b1⟩:=Es w (D6 false eB eB) 26
 rw [← hw]
 clear hw
 have sz:=b1.size
 have tr:=kr.lt
 have bb:=b1
 clear b1
 go_wp2
 go_loopw [4,5] (fun av iv wr=>∃ i:Nat,((i≤K∧av=.int .i64 (-1))∨(K<i∧av=.int .i64 (K:Int)))∧iv=.int .i64 (i:Int)∧i≤s.size∧wr=w1) (fun _ iv _=>s.size - (intOf iv).toNat)
 case atStart=>exact ⟨0,Or.inl ⟨by omega,rfl⟩,rfl,by omega,rfl⟩
 case round =>
  obtain ⟨i,hcase,rfl,hi,rfl⟩:=hrel
  by_cases hlt:i<s.size
  ·have hlt':(i:Int)<(s.size:Int):=by omega
   rcases hcase with ⟨hc,rfl⟩ | ⟨hc,rfl⟩
   ·by_cases hk0:i<K
    ·have p3:=hB i hk0
     have p2:¬ ((s[i]).toNat:Int)=47:=fun h=>p3 (UInt8.toNat.inj (by show _=47;omega))
     clear hB hk
     go_wp2
     refine ⟨⟨i+1,Or.inl ⟨by omega,rfl⟩,by simp,by omega,by first | rfl | trivial⟩,?_⟩
     simp [intOf];omega
    ·obtain rfl:i=K:=by omega
     have p2:((s[i]).toNat:Int)=47:=by rw [hk];rfl
     clear hB
     go_wp2
     refine ⟨⟨i+1,Or.inr ⟨by omega,rfl⟩,by simp,by omega,by first | rfl | trivial⟩,?_⟩
     simp [intOf];omega
   ·have q1:¬ ((K:Int)<0):=by omega
    clear hB hk
    by_cases p3:s[i]=47
    ·have p2:((s[i]).toNat:Int)=47:=by rw [p3];rfl
     go_wp2
     refine ⟨⟨i+1,Or.inr ⟨by omega,rfl⟩,by simp,by omega,by first | rfl | trivial⟩,?_⟩
     simp [intOf];omega
    ·have p2:¬ ((s[i]).toNat:Int)=47:=fun h=>p3 (UInt8.toNat.inj (by show _=47;omega))
     go_wp2
     refine ⟨⟨i+1,Or.inr ⟨by omega,rfl⟩,by simp,by omega,by first | rfl | trivial⟩,?_⟩
     simp [intOf];omega
  ·have hge:¬ (i:Int)<(s.size:Int):=by omega
   rcases hcase with ⟨hc,rfl⟩ | ⟨hc,rfl⟩
   ·omega
   have q1:¬ ((K:Int)<0):=by omega
   have q2:(K:Int)≤(s.size:Int):=by omega
   have q3:(K:Int)+1≤(s.size:Int):=by omega
   have q4:(s.size:Int)≤9223372036854775807:=by omega
   clear hB hk
   have hO:=HO.out
   have hU:=HU.out
   go_wp2_with fail
   go_fit (HN.out _)
   rintro e w2 ⟨rfl,b1⟩
   have sz:=b1.size
   replace kr:=kr.b b1
   replace bb:=Ia bb b1
   clear b1
   go_wp2_with fail
   go_fit (HD.out _)
   rintro e w3 ⟨rfl,b1⟩
   obtain ⟨kn,b1⟩:=Hv b1
   have sz:=b1.size
   replace kr:=kr.b b1
   replace bb:=Ia bb b1
   clear b1
   have tn:=kn.lt
   obtain ⟨cn_0,cn_1⟩:=Dc kn
   obtain ⟨cn_2,cn_3⟩:=Dc (kn.alloc (.cells #[Iz false,I dS] 24))
   go_wp2_with fail
   clear cn_0 cn_1 cn_2 cn_3
   go_fit (HL.out _)
   rintro e w4 ⟨rfl,b1⟩
   obtain ⟨kd,b1⟩:=Hv b1
   have sz:=b1.size
   replace kr:=kr.b b1
   replace kn:=kn.b b1
   replace bb:=Ia bb b1
   clear b1
   have td:=kd.lt
   have cr_0:=Cw kr
   have fr_1:=Bi.o kr 0
   have cr_2:=Cv kr
   have fr_3:=Bi.o kr 1
   have cr_4:=Cu kr
   have fr_5:=Bi.o kr 2
   go_wp2
   exact Dt (p:=2) (u:=3) (by kernel_rfl) rfl rfl rfl (((kr.set 0 _).set 1 _).set 2 _) ⟨rfl,Cr (Cr (Cr bb (by omega) 0 _) (by omega) 1 _) (by omega) 2 _⟩
open Go.RowKit Go.Shelf
theorem V7 {n:Bool} {V:Nat} (h:V<Bb ^ 4):Bd (Fk n V) 32:=by
 unfold Bd
 have e:Bb ^ 4=256 ^ 32:=by unfold Bb;decide
 have a:(Fk n V).natAbs=V:=by cases n <;> simp [Fk]
 rw [a,← e]
 exact h
theorem O6 (s:ByteArray):∃ n E:Int,(E=0∨E=4)∧Bd n 32 ∧
  (∀ w,Calls Tryz.prog 216 #[I s] w (Re w (.tuple #[zI n,.int .i64 E]))) ∧
  (∀ w,Calls Tryz.prog 187 #[I s] w (Re w (.tuple #[zI n,.int .i64 E]))):=by
 by_cases hn:0<s.size∧lm (Bj s) 0=45
 ·by_cases h0:s=⟨#[45,48]⟩
  ·subst h0
   exact ⟨0,4,Or.inr rfl,Bd.zero _,fun w=>Xt w,fun w=>Tu _ w hn _ rfl (Or.inr (Or.inr (by decide)))⟩
  ·by_cases h:Lp (Bj (s.extract 1 s.size))
   ·have h':=h
    obtain ⟨a1,a2,a3,a4⟩:=h'
    have hb:=Me h
    rw [Bt] at a1 a2 a3 a4 hb
    have h3:lm (Bj (s.extract 1 s.size)) 0=48→False:=fun e=>by
     have l1:=a3 e
     have l2:(s.extract 1 s.size).size=s.size - 1:=by rw [ByteArray.size_extract];omega
     have l3:s.size=2:=by omega
     rw [l3] at e
     exact h0 (Bc8 _ l3 hn.2 e)
    exact ⟨_,0,Or.inl rfl,V7 hb,fun w=>L7 s w hn h0 h,fun w=>Rk s w hn _ rfl a1 a2 h3 true ⟨fun _=>a4,fun _=>rfl⟩⟩
   ·refine ⟨0,4,Or.inr rfl,Bd.zero _,fun w=>Nz s w hn h0 h,fun w=>?_⟩
    by_cases hb:(s.extract 1 s.size).size<1∨60<(s.extract 1 s.size).size∨lm (Bj (s.extract 1 s.size)) 0=48
    ·exact Tu s w hn _ rfl hb
    ·refine Rk s w hn _ rfl (by omega) (by omega) (by omega) false ⟨(fun h=>by cases h),fun a=>absurd ?_ h⟩
     unfold Lp
     rw [Bt]
     exact ⟨by omega,by omega,by omega,a⟩
 ·by_cases h:Lp (Bj s)
  ·have h':=h
   obtain ⟨a1,a2,a3,a4⟩:=h'
   have hb:=Me h
   rw [Bt] at a1 a2 a3 a4 hb
   exact ⟨_,0,Or.inl rfl,V7 hb,fun w=>Gr s w hn h,fun w=>Rj s w hn a1 a2 a3 true ⟨fun _=>a4,fun _=>rfl⟩⟩
  ·refine ⟨0,4,Or.inr rfl,Bd.zero _,fun w=>Gm s w hn h,fun w=>?_⟩
   by_cases hb:s.size<1∨60<s.size∨(lm (Bj s) 0=48∧1<s.size)
   ·exact Bdl s w hn hb
   ·refine Rj s w hn (by omega) (by omega) (by omega) false ⟨(fun h=>by cases h),fun a=>absurd ?_ h⟩
    unfold Lp
    rw [Bt]
    exact ⟨by omega,by omega,by omega,a⟩
theorem Bm6 (l:List UInt8) (c:UInt8) (i:Nat):Lib.occAt l [c] i=true↔l[i]?=some c:=by
 unfold Lib.occAt
 have h:(l.drop i)[0]?=l[i]?:=by rw [List.getElem?_drop,Nat.add_zero]
 rw [← h]
 cases l.drop i with
 | nil=>simp
 | cons a t =>
  have e:List.isPrefixOf [c] (a :: t)=(c == a):=by simp [List.isPrefixOf]
  rw [e,beq_iff_eq,Jn,Option.some.injEq]
  exact eq_comm
theorem Bnt (s:ByteArray) (i:Nat) (h:i<s.size):s.data.toList[i]?=some 47↔s[i]'h=47:=by
 have h':i<s.data.size:=h
 rw [Array.getElem?_toList,Array.getElem?_eq_getElem h',Option.some.injEq]
 rfl
theorem Bbg (s:ByteArray):(Lib.index s.data.toList [47]=-1∧∀ (i:Nat) (h:i<s.size),¬ s[i]'h=47)∨∃ (K:Nat) (hK:K<s.size),Lib.index s.data.toList [47]=(K:Int)∧s[K]'hK=47∧∀ (i:Nat) (h:i<K),¬ s[i]'(Nat.lt_trans h hK)=47:=by
 have hl:s.data.toList.length=s.size:=by
  show s.data.toList.length=s.data.size
  exact Array.length_toList
 rcases Lib.index_spec s.data.toList [47] with ⟨h1,h2⟩ | ⟨K,h1,h2,h3,h4⟩
 ·refine Or.inl ⟨h1,fun i h e=>?_⟩
  have:=h2 i (by omega)
  rw [(Bm6 _ _ _).2 ((Bnt s i h).2 e)] at this
  cases this
 ·have h5:=(Bm6 _ _ _).1 h3
  have hK:K<s.size:=by
   have:=(List.getElem?_eq_some_iff.1 h5).1
   omega
  refine Or.inr ⟨K,hK,h1,(Bnt s K hK).1 h5,fun i h e=>?_⟩
  have:=h4 i h
  rw [(Bm6 _ _ _).2 ((Bnt s i (Nat.lt_trans h hK)).2 e)] at this
  cases this
theorem Bgj (s:ByteArray) (hz:s.size≤9223372036854775807):∃ (rN:Bool) (rS rD:ByteArray) (E:Int),
  (∀ w,G9 w→Calls Tryz.prog 184 #[I s] w (Re w (.tuple #[(D8 rN rS rD),.int .i64 E]))) ∧
  (∀ w,Calls Tryz.prog 153 #[I s] w (Re w (.tuple #[(D8 rN rS rD),.int .i64 E]))):=by
 obtain ⟨nf,sf,hf,hok,hsz,hzz,hnat,hneg,hstr,hnn,hfn⟩:=Rx
 obtain ⟨nq,sq,dq,hq,-⟩:=Bm7
 rcases Bbg s with ⟨h1,hA⟩ | ⟨K,hK,h1,hk,hB⟩
 ·obtain ⟨n,E,hE,bn,P1,P2⟩:=O6 s
  simp only [hf] at P1 P2
  have zn:(sf n).size≤32:=hsz _ _ bn
  rcases hE with rfl | rfl
  ·refine ⟨nf n,sf n,⟨#[1]⟩,0,fun w hT=>?_,fun w=>Zs s hz hA (nf n) (sf n) w P2⟩
   refine Km (nf n) (nf n) s s ⟨#[]⟩ (sf n) ⟨#[1]⟩ (sf n) ⟨#[1]⟩ (isE (by rw [Ch];omega)) w (fun w1 b=>Eh s w1 h1) P1 (fun w1=>?_) (fun w1 b=>?_)
   ·have:=Ey false ⟨#[1]⟩ w1 Gy (by decide)
    rwa [Nw] at this
   ·have:=Hk (nf n) false (sf n) ⟨#[1]⟩ w1 (hT.b b) (hok n) Gy (K:=32) (by omega) zn (by decide) (by rw [Ch];omega)
    have e1:Eg false ⟨#[1]⟩=1:=by rw [E9,Ch];rfl
    have e2:Rat.divInt n 1=(n:Rat):=by
     rw [show (1:Int)=((1:Nat):Int) from rfl,Rat.divInt_ofNat]
     exact Rat.ext (Q.mk_low (by omega) (by simp)).1 (Q.mk_low (by omega) (by simp)).2
    rw [hzz,e1,e2,Va n (hf n)] at this
    exact this
  ·exact ⟨false,{ data:=#[] },{ data:=#[] },4,fun w hT=>Gk (nf n) s s ⟨#[]⟩ (sf n) 4 (by omega) w (fun w1 b=>Eh s w1 h1) P1,fun w=>Zt s hz hA (nf n) (sf n) 4 (by omega) w P2⟩
 ·obtain ⟨n,E1,hE1,bn,P1,P2⟩:=O6 (s.extract 0 K)
  obtain ⟨d,E2,hE2,bd,R1,R2⟩:=O6 (s.extract (K+1) s.size)
  simp only [hf] at P1 P2 R1 R2
  have zn:(sf n).size≤32:=hsz _ _ bn
  have zd:(sf d).size≤32:=hsz _ _ bd
  have HC:=fun (w1:World)=>Lu s K w1 h1 (by omega) hz
  rcases hE1 with rfl | rfl
  ·rcases hE2 with rfl | rfl
   ·cases hd:nf d with
    | true =>
     rw [hd] at R1 R2
     exact ⟨false,{ data:=#[] },{ data:=#[] },4,fun w hT=>Nu (nf n) s _ _ (sf n) (sf d) w (fun w1 b=>HC w1) P1 R1,fun w=>Zp s _ _ hz K hK hB hk (Ba rfl) (Ba rfl) (nf n) (sf n) (sf d) w P2 R2⟩
    | false =>
     rw [hd] at R1 R2
     have okd:=hok d
     rw [hd] at okd
     by_cases h0:0<Bc (sf d)
     ·have hl:=fun w1=>Bb9 (nf n) false (sf n) (sf d) w1 (hok n) okd (by omega) (by omega) h0
      have hm:=fun (w1:World) (hT:G9 w1)=>Hk (nf n) false (sf n) (sf d) w1 hT (hok n) okd (K:=32) (by omega) zn zd h0
      simp only [hq] at hl hm
      exact ⟨_,_,_,0,fun w hT=>Kn (nf n) _ s _ _ (sf n) (sf d) _ _ (isE h0) w (fun w1 b=>HC w1) P1 R1 (fun w1 b=>hm w1 (hT.b b)),fun w=>Zn s _ _ hz K hK hB hk (Ba rfl) (Ba rfl) (nf n) (sf n) _ (sf d) _ _ (isE h0) w P2 R2 hl⟩
     ·have e0:sf d={ data:=#[] }:=by
       by_cases hs:0<(sf d).size
       ·have:=Dw okd.1 hs
        omega
       ·exact ByteArray.size_eq_zero_iff.1 (by omega)
      rw [e0] at R1 R2
      exact ⟨false,{ data:=#[] },{ data:=#[] },4,fun w hT=>Nt (nf n) s _ _ (sf n) w (fun w1 b=>HC w1) P1 R1,fun w=>Zo s _ _ hz K hK hB hk (Ba rfl) (Ba rfl) (nf n) (sf n) w P2 R2⟩
   ·exact ⟨false,{ data:=#[] },{ data:=#[] },4,fun w hT=>Nv (nf n) s _ _ (sf n) (nf d) (sf d) 4 (by omega) w (fun w1 b=>HC w1) P1 R1,fun w=>Zq s _ _ hz K hK hB hk (Ba rfl) (Ba rfl) (nf n) (sf n) (nf d) (sf d) 4 (by omega) w P2 R2⟩
  ·exact ⟨false,{ data:=#[] },{ data:=#[] },4,fun w hT=>Ns (nf n) s _ _ (sf n) 4 (by omega) w (fun w1 b=>HC w1) P1,fun w=>Zr s _ _ hz K hK hB hk (Ba rfl) (Ba rfl) (nf n) (sf n) (nf d) (sf d) 4 E2 (by omega) w P2 R2⟩
end Go.Proofs.YtnplifkgeeicjaaGreatDoor
