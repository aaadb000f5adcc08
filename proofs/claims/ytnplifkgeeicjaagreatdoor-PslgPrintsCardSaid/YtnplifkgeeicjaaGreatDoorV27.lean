import Derived.Lib.SliceRun
import Derived.Test.YtnplifkgeeicjaaGreatDoorV26
namespace Go.Proofs.YtnplifkgeeicjaaGreatDoor
open Go.RowKit
theorem Hi (w:World) (a:Option Addr) (cap:Nat) (xs:List Nat) (hv:Rd w (.slice a xs.length cap) xs) (hl:M.Low Bb xs) (hm:xs.length≤1000000) :
  Calls Tryz.prog 208 #[.slice a xs.length cap] w fun e w'=>∃ k,e=.returned (.slice a k cap)∧k≤xs.length∧xs.take k=M.digs Bb (M.val Bb xs)∧w'=w:=by
 obtain ⟨a',cap',e',hcap,hc⟩:=hv
 simp only [Value.slice.injEq,true_and] at e'
 obtain ⟨rfl,rfl⟩:=e'
 go_enter Tryz.func208,Tryz.ntmps208
 go_wp2
 go_loop [0] (fun n=>∃ k:Nat,k≤xs.length∧n=.slice a k cap∧∀ j,k≤j→lm xs j=0) (fun n=>Nl n)
 case atStart=>exact ⟨xs.length,Jb _,rfl,fun j hj=>Ek hj⟩
 case round =>
  obtain ⟨k,hk,rfl,hz⟩:=hrel
  have HZ:Hid (∀ j,k≤j→lm xs j=0):=hz
  clear hz
  have fin:(∀ j,k=j+1→lm xs j≠0)→xs.take k=M.digs Bb (M.val Bb xs):=fun ht=>M.take_eq_digs Be hl hk HZ.out ht
  have FIN:Hid ((∀ j,k=j+1→lm xs j≠0)→xs.take k=M.digs Bb (M.val Bb xs)):=fin
  clear fin
  match k with
  | 0 =>
   go_wp2
   go_ret
   exact ⟨0,rfl,by omega,FIN.out (fun j hj=>by omega),rfl⟩
  | k+1 =>
   obtain ⟨b,off,rfl,hcell⟩:=hc k (by omega)
   clear hc
   have i1:((k:Int)+1)≤cap:=by omega
   have i2:(k:Int)≤cap:=by omega
   by_cases h0:lm xs k=0
   ·go_wp2
    exact ⟨⟨k,by omega,rfl,fun j hj=>by
     by_cases e:j=k
     ·subst e;exact h0
     ·exact HZ.out j (by omega)⟩,by simp [Nl]⟩
   ·go_wp2
    go_ret
    exact ⟨k+1,rfl,by omega,FIN.out (fun j hj=>by
     have:j=k:=by omega
     subst this;exact h0),rfl⟩
theorem Bmc (w:World):(zeroValue 170).run Tryz.prog w=.ok (.int .u64 0) w:=by kernel_rfl
theorem Ul:∀ (n:Nat) (w:World) (g:Nat) (p q:List Nat),Cm w g (p ++ q)→n≤q.length→Cm (w.setCells g p.length (List.replicate n (.int .u64 0))) g (p ++ List.replicate n 0 ++ q.drop n)∧Bu g w (w.setCells g p.length (List.replicate n (.int .u64 0)))
 | 0,w,g,p,q,h,_=>⟨by simpa [World.setCells] using h,Bu.refl _ _⟩
 | n+1,w,g,p,x :: q,h,hn=>by
  have h1:Cm (w.setCell ⟨g,p.length,none⟩ (.int .u64 ((0:Nat):Int))) g ((p ++ [0]) ++ q):=by
   have:=h.set p.length 0
   rwa [show (p ++ x :: q).set p.length 0=(p ++ [0]) ++ q by simp] at this
  have r:=Ul n _ g (p ++ [0]) q h1 (by simpa using hn)
  rw [Ji,List.length_singleton] at r
  refine ⟨?_,?_⟩
  ·have:=r.1
   rw [show p ++ List.replicate (n+1) 0 ++ (x :: q).drop (n+1)=p ++ [0] ++ List.replicate n 0 ++ q.drop n by simp [List.replicate_succ]]
   exact this
  ·exact ((Bu.refl g w).setCell _ _).trans r.2
 | n+1,w,g,p,[],h,hn=>by simp at hn
set_option maxRecDepth 100000 in
theorem Rz (g:Nat) (xs q:List Nat) (n cap:Nat) (w:World) (hb:Cm w g (xs ++ q)) (h1:xs.length≤n) (h2:n≤(xs ++ q).length) (hc:cap=(xs ++ q).length) (hm:n≤1000000) :
  Calls Tryz.prog 206 #[.slice (some ⟨g,0,none⟩) xs.length cap,.int .i64 (n:Nat)] w fun e w'=>e=.returned (.slice (some ⟨g,0,none⟩) n cap)∧Cm w' g (xs ++ List.replicate (n - xs.length) 0 ++ q.drop (n - xs.length))∧Bu g w w':=by
 obtain ⟨m,rfl⟩:∃ m,n=xs.length+m:=⟨n - xs.length,by omega⟩
 have hq:m≤q.length:=by rw [Ji] at h2;omega
 have i1:(xs.length:Int)+m≤cap:=by rw [hc,Ji];omega
 have i2:(xs.length:Int)≤cap:=by rw [hc,Ji];omega
 have R:=Ba (Ul m w g xs q hb hq)
 rw [show xs.length+m - xs.length=m by omega]
 rcases Nat.eq_zero_or_pos m with h0 | h0
 ·subst h0
  have hcl:∀ ty a c,(Builtin.clear_ #[64] ty #[.slice a 0 c]).run Tryz.prog w=.ok (.tuple #[]) w:=fun ty a c=>by
   cases a <;> simp [Builtin.clear_,run_underlying Tryz.underlying64]
  clear hb h1 h2 hc hq
  go_enter Tryz.func206,Tryz.ntmps206
  go_wp2_with (simp only [hcl])
  all_goals go_ret
  all_goals exact ⟨rfl,by simpa [World.setCells] using R.out.1,Bu.refl _ _⟩
 ·have hcl:∀ ty c,(Builtin.clear_ #[64] ty #[.slice (some ⟨g,xs.length,none⟩) m c]).run Tryz.prog w=.ok (.tuple #[]) (w.setCells g xs.length (List.replicate m (.int .u64 0))) :=
   fun ty c=>Lib.run_clear_slice w _ _ ty _ Tryz.underlying64 Bmc rfl rfl g xs.length m c h0 (fun j hj=>by rw [hb.cell (by rw [Ji];omega)];rfl) (fun j hj=>hb.o _)
  clear hb h1 h2 hc hq
  go_enter Tryz.func206,Tryz.ntmps206
  go_wp2_with (simp only [hcl])
  go_ret
  exact ⟨rfl,R.out.1,R.out.2⟩
end Go.Proofs.YtnplifkgeeicjaaGreatDoor
