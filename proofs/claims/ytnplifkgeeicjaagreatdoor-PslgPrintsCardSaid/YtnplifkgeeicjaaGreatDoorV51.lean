import Derived.Test.YtnplifkgeeicjaaGreatDoorV39
import Derived.Test.YtnplifkgeeicjaaGreatDoorV45
namespace Go.Proofs.YtnplifkgeeicjaaGreatDoor
open Go.RowKit
theorem Fa (n:Bool) (s t:ByteArray) (w:World) (hT:G9 w) (o:Yv n s ⟨#[1]⟩) (zs:s.size≤24) (ht:Dh n s=t) (hi:Lib.index t.data.toList [47]=-1) :
  Calls Tryz.prog 184 #[I t] w (Re w (.tuple #[(D8 n s ⟨#[1]⟩),.int .i64 0])):=by
 have HN:=fun w1=>Ey n s w1 o.1 zs
 rw [ht] at HN
 refine Km n n _ _ _ s ⟨#[1]⟩ s ⟨#[1]⟩ (isE (by rw [Ch];omega)) w (fun w1 b=>Eh t w1 hi) HN (fun w1=>?_) (fun w1 b=>?_)
 ·have:=Ey false ⟨#[1]⟩ w1 Gy (by decide)
  rwa [Nw] at this
 ·have:=Hk n false s ⟨#[1]⟩ w1 (hT.b b) o.1 Gy (K:=24) (by omega) zs (by decide) (by rw [Ch];omega)
  rw [E9,Rat.divInt_ofNat] at this
  rw [Xm o]
  exact this
theorem Xl (w:World) (hT:G9 w) (o:Yv false ⟨#[1]⟩ ⟨#[2]⟩) :
  Calls Tryz.prog 184 #[I ⟨#[49,47,50]⟩] w (Re w (.tuple #[.agg #[Iz false,I ⟨#[1]⟩,I ⟨#[2]⟩],.int .i64 0])):=by
 have od:Hc false ⟨#[2]⟩:=⟨o.2.1,fun h=>by cases h⟩
 have H1:∀ w1,Calls Tryz.prog 216 #[I ⟨#[49]⟩] w1 (Re w1 (.tuple #[.agg #[Iz false,I ⟨#[1]⟩],.int .i64 0])):=fun w1=>by
  have:=Ey false ⟨#[1]⟩ w1 Gy (by decide)
  rwa [show Dh false ⟨#[1]⟩=⟨#[49]⟩ by kernel_rfl] at this
 have H2:∀ w1,Calls Tryz.prog 216 #[I ⟨#[50]⟩] w1 (Re w1 (.tuple #[.agg #[Iz false,I ⟨#[2]⟩],.int .i64 0])):=fun w1=>by
  have:=Ey false ⟨#[2]⟩ w1 od (by decide)
  rwa [show Dh false ⟨#[2]⟩=⟨#[50]⟩ by kernel_rfl] at this
 have HC:∀ w1,Calls Tryz.prog 215 #[I ⟨#[49,47,50]⟩,I ⟨#[47]⟩] w1 (Re w1 (.tuple #[I ⟨#[49]⟩,I ⟨#[50]⟩,Iz true])):=fun w1=>by
  have:=Lu ⟨#[49,47,50]⟩ 1 w1 (by decide +kernel) (by decide) (by decide)
  rwa [show (ByteArray.extract ⟨#[49,47,50]⟩ 0 1)=⟨#[49]⟩ by decide +kernel,show (ByteArray.extract ⟨#[49,47,50]⟩ (1+1) (ByteArray.size ⟨#[49,47,50]⟩))=⟨#[50]⟩ by decide +kernel] at this
 refine Kn false false _ _ _ ⟨#[1]⟩ ⟨#[2]⟩ ⟨#[1]⟩ ⟨#[2]⟩ (isE o.2.2.1) w (fun w1 b=>HC w1) H1 H2 (fun w1 b=>?_)
 have:=Hk false false ⟨#[1]⟩ ⟨#[2]⟩ w1 (hT.b b) o.1 od (K:=24) (by omega) (by decide) (by decide) o.2.2.1
 rw [show Eg false ⟨#[2]⟩=((Bc ⟨#[2]⟩:Nat):Int) from E9 _,Rat.divInt_ofNat] at this
 rw [Xm o]
 exact this
theorem Bdw (w:World):Calls Tryz.prog 184 #[I ⟨#[63]⟩] w (Re w (.tuple #[.agg #[Iz false,I ⟨#[]⟩,I ⟨#[]⟩],.int .i64 4])):=by
 have HN:∀ w1,Calls Tryz.prog 216 #[I ⟨#[63]⟩] w1 (Re w1 (.tuple #[.agg #[Iz false,I ⟨#[]⟩],.int .i64 4])):=fun w1=>by
  have:=Gm ⟨#[63]⟩ w1 (by decide) (fun h=>absurd (h.2.2.2 0 (by decide)).2 (by decide))
  exact this
 exact Gk false ⟨#[63]⟩ ⟨#[63]⟩ ⟨#[]⟩ ⟨#[]⟩ 4 (by decide) w (fun w1 b=>Eh ⟨#[63]⟩ w1 (by decide +kernel)) HN
theorem Box (w:World) (o:Obj):Below w.heap.size w (w.alloc o):=(Jg _ _).alloc (Jb _) _
theorem T5 (w:World) (hT:G9 w):Calls Tryz.prog 155 #[.agg #[Iz false,I ⟨#[]⟩,I ⟨#[]⟩]] w (Re w (.tuple #[I ⟨#[]⟩,.int .i64 1])):=by
 have HC:Hid (∀ w1,Below w.heap.size w w1→Calls Tryz.prog 163 #[.agg #[Iz false,I ⟨#[]⟩,I ⟨#[]⟩]] w1 (Re w1 (.int .i64 1))):=fun w1 b=>by
  have:=Nr false ⟨#[]⟩ ⟨#[]⟩ w1 (hT.b b)
  rwa [show Ed false ⟨#[]⟩ ⟨#[]⟩=1 by decide +kernel] at this
 go_enter Tryz.func155,Tryz.ntmps155
 go_wp2_with fail
 go_fit (HC.out _ (ba (Jg _ _) _))
 rintro e w1 ⟨rfl,b1⟩
 have bb:=Ia (Box w _) b1
 clear b1
 go_wp2_with fail
 go_ret2
 exact ⟨rfl,bb⟩
theorem Z9 (w:World):Calls Tryz.prog 184 #[I ⟨#[]⟩] w (Re w (.tuple #[.agg #[Iz false,I ⟨#[]⟩,I ⟨#[]⟩],.int .i64 4])):=by
 have HN:∀ w1,Calls Tryz.prog 216 #[I ⟨#[]⟩] w1 (Re w1 (.tuple #[.agg #[Iz false,I ⟨#[]⟩],.int .i64 4])):=fun w1=>by
  have:=Gm ⟨#[]⟩ w1 (by decide) (fun h=>absurd h.1 (by decide))
  exact this
 exact Gk false ⟨#[]⟩ ⟨#[]⟩ ⟨#[]⟩ ⟨#[]⟩ 4 (by decide) w (fun w1 b=>Eh ⟨#[]⟩ w1 (by decide +kernel)) HN
open Go.RowKit Go.Shelf
set_option maxRecDepth 100000 in
set_option maxHeartbeats 4000000 in
theorem Bab (n:Bool) (s d t u:ByteArray) (w:World) (hd:(d.toList == [1])=false) (ht:t.size≤30000) (hu:u.size≤30000)
  (HC:Hid (∀ w1,Below w.heap.size w w1→Calls Tryz.prog 163 #[(D8 n s d)] w1 (Re w1 (.int .i64 0))))
  (H1:Hid (∀ w1,Below w.heap.size w w1→Calls Tryz.prog 189 #[.agg #[Iz n,I s]] w1 (Re w1 (.tuple #[I t,.int .i64 0]))))
  (H2:Hid (∀ w1,Below w.heap.size w w1→Calls Tryz.prog 189 #[.agg #[Iz false,I d]] w1 (Re w1 (.tuple #[I u,.int .i64 0])))) :
  Calls Tryz.prog 155 #[(D8 n s d)] w (Re w (.tuple #[I ((t ++ ⟨#[47]⟩) ++ u),.int .i64 0])):=by
 go_enter Tryz.func155,Tryz.ntmps155
 go_wp2_with fail
 go_fit (HC.out _ (ba (Jg _ _) _))
 rintro e w1 ⟨rfl,b1⟩
 obtain ⟨ka,b1⟩:=Hv b1
 have sz:=b1.size
 have bb:=b1
 clear b1
 have ta:=ka.lt
 obtain ⟨ca_0,ca_1,ca_2⟩:=Hw ka
 go_wp2_with fail
 clear ca_0 ca_1 ca_2
 go_fit (H1.out _ bb)
 rintro e w2 ⟨rfl,b1⟩
 have sz:=b1.size
 replace ka:=ka.b b1
 replace bb:=Ia bb b1
 clear b1
 obtain ⟨ca_0,ca_1,ca_2⟩:=Hw ka
 go_wp2_with fail
 clear ca_0 ca_1 ca_2
 go_fit (Qn _ _ _ _)
 rintro e w3 ⟨rfl,b1⟩
 have sz:=b1.size
 replace ka:=ka.b b1
 replace bb:=Ia bb b1
 clear b1
 go_wp2_with fail
 go_fit (H2.out _ bb)
 rintro e w4 ⟨rfl,b1⟩
 have sz:=b1.size
 replace ka:=ka.b b1
 replace bb:=Ia bb b1
 clear b1
 go_wp2
 go_ret2
 exact ⟨rfl,bb⟩
theorem Kp (n:Bool) (s:ByteArray) (h:s.size≤8000):(Dh n s).size≤24001:=by
 have:=Md s 8000 h
 unfold Dh
 split
 ·decide
 ·split
  ·rw [Cl,List.length_cons];omega
  ·rw [Cl];omega
theorem Z5 (n:Bool) (s d:ByteArray) (w:World) (hT:G9 w) (hP:Ee w) (h:Ed n s d=0) :
  Calls Tryz.prog 155 #[(D8 n s d)] w (Re w (.tuple #[I (Gc n s d),.int .i64 0])):=by
 obtain ⟨o,zs,zd⟩:=C6 h
 have HC:Hid (∀ w1,Below w.heap.size w w1→Calls Tryz.prog 163 #[(D8 n s d)] w1 (Re w1 (.int .i64 0))):=by
  intro w1 b
  have:=Nr n s d w1 (hT.b b)
  rwa [h] at this
 have pe:∀ (n:Bool) (s:ByteArray) (w:World),Ee w→Hc n s→s.size≤8000→Calls Tryz.prog 189 #[.agg #[Iz n,I s]] w (Re w (.tuple #[I (Dh n s),.int .i64 0])):=fun n s w hT o z=>Bac n s w hT o z _ rfl
 unfold Gc
 by_cases h1:Bc d=1
 ·rw [if_pos h1]
  exact T6 n s d _ w (eq1 ((L8 o.2.1).2 h1)) HC (fun w1 b=>pe n s w1 (hP.bel b) o.1 zs)
 ·rw [if_neg h1]
  exact Bab n s d _ _ w (Ue fun e=>h1 ((L8 o.2.1).1 e)) (Jf (Kp n s zs) (by omega)) (Jf (Kp false d zd) (by omega)) HC (fun w1 b=>pe n s w1 (hP.bel b) o.1 zs) (fun w1 b=>pe false d w1 (hP.bel b) ⟨o.2.1,fun h=>by cases h⟩ zd)
theorem Z8 (n:Bool) (s d:ByteArray) (w:World) (hT:G9 w) (h:Ed n s d≠0):Calls Tryz.prog 155 #[(D8 n s d)] w (Re w (.tuple #[I ⟨#[]⟩,.int .i64 (Ed n s d)])):=by
 obtain ⟨E,hE⟩:∃ E:Int,E=Ed n s d:=⟨_,rfl⟩
 have HC:Hid (∀ w1,Below w.heap.size w w1→Calls Tryz.prog 163 #[(D8 n s d)] w1 (Re w1 (.int .i64 E))):=fun w1 b=>by
  have:=Nr n s d w1 (hT.b b)
  rwa [← hE] at this
 have hE0:¬ E=0:=by omega
 rw [← hE]
 clear hE h
 go_enter Tryz.func155,Tryz.ntmps155
 go_wp2_with fail
 go_fit (HC.out _ (ba (Jg _ _) _))
 rintro e w1 ⟨rfl,b1⟩
 have bb:=Ia (Box w _) b1
 clear b1
 go_wp2_with fail
 go_ret2
 exact ⟨rfl,bb⟩
def TE (q:Q3):ByteArray:=if Ed q.1 q.2.1 q.2.2=0 then Gc q.1 q.2.1 q.2.2 else ⟨#[63]⟩
theorem Blp (q:Q3):(TE q).size≤50000:=by
 unfold TE
 split
 ·rename_i h
  obtain ⟨o,zs,zd⟩:=C6 h
  have h1:=Kp q.1 q.2.1 zs
  have h2:=Kp false q.2.2 zd
  unfold Gc
  split
  ·omega
  ·rw [Cd,Cd]
   show _+1+_≤50000
   omega
 ·decide
theorem txE (q:Q3) (w:World) (hT:G9 w) (hP:Ee w):TX TE q w:=fun w1 b=>by
 by_cases h:Ed q.1 q.2.1 q.2.2=0
 ·refine (Z5 q.1 q.2.1 q.2.2 w1 (hT.b b) (hP.bel b) h).mono ?_
  rintro e w' ⟨rfl,k⟩
  exact ⟨_,_,rfl,if_pos h,k⟩
 ·refine (Z8 q.1 q.2.1 q.2.2 w1 (hT.b b) h).mono ?_
  rintro e w' ⟨rfl,k⟩
  refine ⟨_,_,rfl,?_,k⟩
  unfold TE
  rw [if_neg h,if_neg (by omega)]
end Go.Proofs.YtnplifkgeeicjaaGreatDoor
