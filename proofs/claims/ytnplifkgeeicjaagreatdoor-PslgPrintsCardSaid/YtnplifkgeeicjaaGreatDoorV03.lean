import Derived.BigQuiet
import Derived.Deep.QuietTactic
import Derived.Handy
import Derived.WalkKit
import Derived.Test.YtnplifkgeeicjaaGreatDoorV01
import Derived.Test.YtnplifkgeeicjaaGreatDoorV02
namespace Go.Proofs.YtnplifkgeeicjaaGreatDoor
open Go.RowKit
def lm (xs:List Nat) (j:Nat):Nat:=xs.getD j 0
theorem Ek {xs:List Nat} {j:Nat} (h:xs.length≤j):lm xs j=0:=by simp [lm,List.getElem?_eq_none h]
theorem Ci {b:Nat} (hb:0<b) {xs:List Nat} (h:M.Low b xs) (j:Nat):lm xs j<b:=h.getD hb j
def Rd (w:World) (v:Value) (xs:List Nat):Prop :=
 ∃ a cap,v=.slice a xs.length cap∧xs.length≤cap∧∀ j,j<xs.length→∃ b off,a=some ⟨b,off,none⟩∧w.cell? ⟨b,off+j,none⟩=some (.int .u64 (lm xs j:Nat))
theorem Rd.b {w w':World} {v:Value} {xs:List Nat} (h:Rd w v xs) (hb:Below w.heap.size w w'):Rd w' v xs:=by
 obtain ⟨a,cap,rfl,hc,h⟩:=h
 refine ⟨a,cap,rfl,hc,fun j hj=>?_⟩
 obtain ⟨b,off,rfl,hcell⟩:=h j hj
 exact ⟨b,off,rfl,by rw [hb.cell (World.block_lt_of_cell? w _ hcell)];exact hcell⟩
theorem F6 (i:Int) (h0:0≤i) (w:World) (v:Value) (xs:List Nat) (p:Addr) (hp:w.cell? p=some v) (hv:Rd w v xs) :
  Calls Tryz.prog 211 #[.int .i64 i,.pointer (some p)] w fun e w'=>e=.returned (.int .u64 (lm xs i.toNat:Nat))∧w'=w:=by
 obtain ⟨k,rfl⟩:=Int.eq_ofNat_of_zero_le h0
 obtain ⟨a,cap,rfl,hcap,hc⟩:=hv
 by_cases hk:k<xs.length
 ·obtain ⟨b,off,rfl,hcell⟩:=hc k hk
  clear hc
  go_enter Tryz.func211,Tryz.ntmps211
  go_wp2
  go_ret
  exact ⟨rfl,rfl⟩
 ·have HL:=Ek (xs:=xs) (j:=k) (by omega)
  have HL:Hid (lm xs k=0):=HL
  clear hc
  go_enter Tryz.func211,Tryz.ntmps211
  go_wp2
  go_ret
  exact ⟨by rw [Int.toNat_natCast,HL.out];rfl,rfl⟩
theorem Fz (a:Option Addr) (n c:Nat) (w:World) :
  Calls Tryz.prog 175 #[.slice a n c] w fun e w'=>e=.returned (.func (.func 211) #[] #[.pointer (some ⟨w.heap.size,0,none⟩)])∧w'=w.alloc (.cells #[.slice a n c] 64):=by
 have hmf:∀ (fn:Fn) (first cap:Array Value) (w:World),(Instr.makeFunc fn first cap).run Tryz.prog w=.ok (.func fn first cap) w:=fun _ _ _ _=>rfl
 go_enter Tryz.func175,Tryz.ntmps175
 go_wp2
 go_ret
 exact ⟨rfl,rfl⟩
theorem Hx (a b:Option Addr) (m n c d B o:Nat) (cap:Nat) (w:World) (ha:w.cell? ⟨B,o,none⟩=some (.slice a m c)) (hb:w.cell? ⟨B,o+1,none⟩=some (.slice b n d)) (hm:m≤4000) (hn:n≤4000) :
  Calls Tryz.prog 174 #[.slice (some ⟨B,o,none⟩) 2 cap] w fun e w'=>e=.returned (Iz false)∧w'=w:=by
 go_enter Tryz.func174,Tryz.ntmps174
 go_wp2
 go_rounds 3
 go_ret
 exact ⟨rfl,rfl⟩
theorem Bfh (a:Option Addr) (m c B o:Nat) (cap:Nat) (w:World) (ha:w.cell? ⟨B,o,none⟩=some (.slice a m c)) (hm:m≤4000) :
  Calls Tryz.prog 174 #[.slice (some ⟨B,o,none⟩) 1 cap] w fun e w'=>e=.returned (Iz false)∧w'=w:=by
 go_enter Tryz.func174,Tryz.ntmps174
 go_wp2
 go_rounds 2
 go_ret
 exact ⟨rfl,rfl⟩
def Bb:Nat:=18446744073709551616
theorem Be:2≤Bb:=by unfold Bb;omega
theorem Bm:0<Bb:=by unfold Bb;omega
theorem Ma {xs:List Nat} {n j:Nat} (h:j<n):lm (xs.take n) j=lm xs j:=by
 unfold lm;rw [Jh,Jh,List.getElem?_take_of_lt h]
theorem Rd.take {w:World} {a:Option Addr} {n cap:Nat} {xs:List Nat} (h:Rd w (.slice a n cap) xs) (k cap':Nat) (hk:k≤xs.length) (hc:k≤cap'):Rd w (.slice a k cap') (xs.take k):=by
 obtain ⟨a',c',e,_,h⟩:=h
 simp only [Value.slice.injEq] at e
 obtain ⟨rfl,rfl,rfl⟩:=e
 have e1:(xs.take k).length=k:=by simp;omega
 refine ⟨a,cap',by rw [e1],by rw [e1];exact hc,fun j hj=>?_⟩
 rw [e1] at hj
 obtain ⟨b,off,rfl,hcell⟩:=h j (by omega)
 exact ⟨b,off,rfl,by rw [Ma hj];exact hcell⟩
theorem Dg (w:World) (v:Value) (xs:List Nat) (hv:Rd w v xs) (hl:M.Low Bb xs) (hm:xs.length≤1000000) :
  Calls Tryz.prog 177 #[v] w fun e w'=>∃ v',e=.returned v'∧Rd w v' (M.digs Bb (M.val Bb xs))∧w'=w:=by
 have hv0:=hv
 obtain ⟨a,cap,rfl,hcap,hc⟩:=hv
 go_enter Tryz.func177,Tryz.ntmps177
 go_wp2
 go_loop [3] (fun n=>∃ k:Nat,k≤xs.length∧n=.int .i64 k∧∀ j,k≤j→lm xs j=0) (fun n=>(intOf n).toNat)
 case atStart=>exact ⟨xs.length,Jb _,rfl,fun j hj=>Ek hj⟩
 case round =>
  obtain ⟨k,hk,rfl,hz⟩:=hrel
  have HZ:Hid (∀ j,k≤j→lm xs j=0):=hz
  clear hz
  have fin:(∀ j,k=j+1→lm xs j≠0)→xs.take k=M.digs Bb (M.val Bb xs):=fun ht=>M.take_eq_digs Be hl hk HZ.out ht
  have FIN:Hid ((∀ j,k=j+1→lm xs j≠0)→xs.take k=M.digs Bb (M.val Bb xs)):=fin
  clear fin
  match k with
  | 0 =>
   go_wp2
   go_ret
   exact ⟨_,rfl,by rw [← FIN.out (fun j hj=>by omega)];exact hv0.take 0 0 (by omega) (by omega),rfl⟩
  | k+1 =>
   obtain ⟨b,off,rfl,hcell⟩:=hc k (by omega)
   clear hc
   by_cases h0:lm xs k=0
   ·go_wp2
    go_round
    case rel=>exact ⟨k,by omega,by go_num,fun j hj=>by
     by_cases e:j=k
     ·subst e;exact h0
     ·exact HZ.out j (by omega)⟩
    case measure=>simp [intOf]
   ·have hcap':((k:Int)+1)≤cap:=by omega
    go_wp2
    go_ret
    exact ⟨_,rfl,by rw [← FIN.out (fun j hj=>by have:j=k:=by omega
                                                subst this;exact h0)];exact hv0.take (k+1) (k+1) (by omega) (by omega),rfl⟩
theorem U9 (w:World):Rd w (.slice none 0 0) []:=⟨none,0,rfl,by simp,fun j hj=>by simp at hj⟩
end Go.Proofs.YtnplifkgeeicjaaGreatDoor
