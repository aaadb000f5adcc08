import Derived.Lib.BitFns
import Derived.Lib.Slices
import Derived.Lib.Small
import Derived.Lib.Strings
import Derived.Lib.Walk
import Derived.Test.YtnplifkgeeicjaaGreatDoorV07
namespace Go.Proofs.YtnplifkgeeicjaaGreatDoor
open Go.RowKit
theorem Bea:∀ v:Fin 256,0<v.val→v.val<2 ^ (Lib.bitLen v.val)∧2 ^ (Lib.bitLen v.val)≤2*v.val∧Lib.bitLen v.val≤8:=by decide +kernel
theorem Bnd {x K v l:Nat} (hv:v=x / 2 ^ K) (h1:v<2 ^ l) (h2:2 ^ l≤2*v):x<2 ^ (K+l)∧2 ^ (K+l)≤2*x:=by
 have hp:0<2 ^ K:=Nat.pow_pos (by omega)
 rw [Nat.pow_add]
 subst hv
 constructor
 ·exact (Nat.div_lt_iff_lt_mul hp).1 h1 |> fun h=>by rwa [Nat.mul_comm]
 ·have e1:2 ^ K*2 ^ l≤2 ^ K*(2*(x / 2 ^ K)):=Nat.mul_le_mul_left _ h2
  have e2:2 ^ K*(x / 2 ^ K)≤x:=Nat.mul_div_le x _
  rw [Nat.mul_left_comm] at e1
  omega
theorem Bi7 (y:Int) (h:y.toNat<Lib.len8tab.size) (h0:0≤y) (h1:y≤255):((Lib.len8tab[y.toNat]'h).toNat:Int)=(Lib.bitLen y.toNat:Int):=by
 refine Eq.trans ?_ (Lib.len8_of y h0 h1)
 simp only [Lib.len8,ByteArray.getElem?_lt' _ _ h,Option.getD_some]
theorem Bhd (x v t r:Int) (K:Nat) (hv:v.toNat=x.toNat / 2 ^ K) (v0:0<v) (v1:v≤255) (hK:K≤56) (ht:t=(Lib.bitLen v.toNat:Int)) (hr:r=wrap64 ((K:Int)+wrap64 t)) :
  ∃ n:Nat,Ending.returned (.int .i64 r)=.returned (.int .i64 (n:Nat))∧x.toNat<2 ^ n∧2 ^ n≤2*x.toNat∧n≤64:=by
 obtain ⟨f1,f2,f3⟩:=Bea ⟨v.toNat,by omega⟩ (by show 0<v.toNat;omega)
 simp only at f1 f2 f3
 obtain ⟨g1,g2⟩:=Bnd hv f1 f2
 generalize Lib.bitLen v.toNat=L at *
 refine ⟨K+L,congrArg (fun z=>Ending.returned (Value.int .i64 z)) ?_,g1,g2,by omega⟩
 subst ht;subst hr
 unfold wrap64;omega
theorem Hl (x v:Int) (K:Nat) (hv:v.toNat=x.toNat / 2 ^ K) (v0:0<v) (v1:v≤255) (hK:K≤56) (h:v.toNat<Lib.len8tab.size) (r:Int) (hr:r=wrap64 ((K:Int)+wrap64 ((Lib.len8tab[v.toNat]'h).toNat:Int))) :
  ∃ n:Nat,Ending.returned (.int .i64 r)=.returned (.int .i64 (n:Nat))∧x.toNat<2 ^ n∧2 ^ n≤2*x.toNat∧n≤64 :=
 Bhd x v _ r K hv v0 v1 hK (Bi7 v h (by omega) v1) hr
set_option maxRecDepth 100000 in
set_option maxHeartbeats 4000000 in
theorem Beb (x:Int) (h0:0<x) (h1:x≤18446744073709551615) (w:World):Calls Tryz.prog 251 #[.int .u64 x] w fun e w'=>(∃ n:Nat,e=.returned (.int .i64 (n:Nat))∧x.toNat<2 ^ n∧2 ^ n≤2*x.toNat∧n≤64)∧w'=w:=by
 have hsz:Lib.len8tab.size=256:=Lib.len8tab_size
 go_enter Tryz.func251,Tryz.ntmps251
 go_wp2
 all_goals go_ret
 all_goals refine ⟨?_,rfl⟩
 ·exact Hl x (x / 4294967296 / 65536 / 256) 56 (by omega) (by omega) (by omega) (by omega) _ _ rfl
 ·exact Hl x (x / 4294967296 / 65536) 48 (by omega) (by omega) (by omega) (by omega) _ _ rfl
 ·exact Hl x (x / 4294967296 / 256) 40 (by omega) (by omega) (by omega) (by omega) _ _ rfl
 ·exact Hl x (x / 4294967296) 32 (by omega) (by omega) (by omega) (by omega) _ _ rfl
 ·exact Hl x (x / 65536 / 256) 24 (by omega) (by omega) (by omega) (by omega) _ _ rfl
 ·exact Hl x (x / 65536) 16 (by omega) (by omega) (by omega) (by omega) _ _ rfl
 ·exact Hl x (x / 256) 8 (by omega) (by omega) (by omega) (by omega) _ _ rfl
 ·exact Hl x x 0 (by omega) (by omega) (by omega) (by omega) (by rw [hsz];omega) _ (by simp)
theorem Bj4 {x n:Nat} (h0:0<x) (h1:x<2 ^ n) (h2:2 ^ n≤2*x) (h3:n≤64):1≤n∧9223372036854775808≤x*2 ^ (64 - n)∧x*2 ^ (64 - n)<18446744073709551616:=by
 have hn:1≤n:=by
  rcases Nat.eq_zero_or_pos n with h | h
  ·subst h;simp at h1;omega
  ·exact h
 have e:2 ^ n*2 ^ (64 - n)=18446744073709551616:=by rw [← Nat.pow_add,show n+(64 - n)=64 by omega]
 have a1:x*2 ^ (64 - n)<2 ^ n*2 ^ (64 - n):=Nat.mul_lt_mul_of_pos_right h1 (Nat.pow_pos (by omega))
 have a2:2 ^ n*2 ^ (64 - n)≤2*x*2 ^ (64 - n):=Jo _ h2
 rw [Nat.mul_assoc] at a2
 refine ⟨hn,by omega,by omega⟩
theorem Li (x:Nat) (h0:0<x) (hx:x<Bb) (w:World):Calls Tryz.prog 227 #[.int .u64 (x:Nat)] w fun e w'=>(∃ s:Nat,e=.returned (.int .i64 (s:Nat))∧s≤63∧9223372036854775808≤x*2 ^ s∧x*2 ^ s<18446744073709551616)∧w'=w:=by
 have hl:=Beb (x:Int) (by omega) (by unfold Bb at hx;omega) w
 rw [Int.toNat_natCast] at hl
 have H:Hid _:=hl
 clear hl hx
 go_enter Tryz.func227,Tryz.ntmps227
 go_wp2_with fail
 refine Calls.mono H.out ?_
 rintro e w' ⟨⟨n,rfl,h1,h2,h3⟩,rfl⟩
 obtain ⟨g0,g1,g2⟩:=Bj4 h0 h1 h2 h3
 have G1:Hid (9223372036854775808≤x*2 ^ (64 - n)):=g1
 have G2:Hid (x*2 ^ (64 - n)<18446744073709551616):=g2
 have h4:(n:Int)≤64:=by omega
 clear g1 g2 h1 h2
 go_wp2
 go_ret
 exact ⟨⟨64 - n,congrArg (fun z=>Ending.returned (Value.int .i64 z)) (by omega),by omega,G1.out,G2.out⟩,rfl⟩
end Go.Proofs.YtnplifkgeeicjaaGreatDoor
