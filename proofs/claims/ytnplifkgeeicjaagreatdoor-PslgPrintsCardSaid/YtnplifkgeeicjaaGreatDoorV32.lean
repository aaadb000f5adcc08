import Derived.Test.YtnplifkgeeicjaaGreatDoorV26
import Derived.Test.YtnplifkgeeicjaaGreatDoorV31
set_option maxRecDepth 100000
set_option maxHeartbeats 4000000
namespace Go.Proofs.YtnplifkgeeicjaaGreatDoor
open Go.RowKit Go.Shelf
def G9 (w:World):Prop:=TabAt (Ds.g 1) Lib.deBruijn64tab w
theorem G9.b {w w':World} (h:G9 w) (hb:Below w.heap.size w w'):G9 w':=fun j hj=>by
 have:=h j hj
 rw [hb.cell (World.block_lt_of_cell? w _ this)]
 exact this
open Go.RowKit Go.Shelf
theorem Y6 (x:Nat) (h0:0<x) (hx:x<18446744073709551616) (w:World) (hT:G9 w) :
  Calls Tryz.prog 239 #[.int .u64 (x:Nat)] w fun e w'=>(∃ i m:Nat,e=.returned (.int .i64 (i:Nat))∧i<64∧x=2 ^ i*(2*m+1))∧w'=w:=by
 refine (Bo4 x hx w (fun _=>hT)).mono ?_
 rintro e w' ⟨rfl,rfl⟩
 obtain ⟨m,h1,h2⟩:=Lib.ctzFrom_spec 64 x h0 hx
 have e:Lib.ctz 64 x=Lib.ctzFrom 64 x:=by unfold Lib.ctz;rw [if_neg (by omega)]
 rw [e]
 exact ⟨⟨_,m,rfl,h2,h1⟩,rfl⟩
theorem Bbr {x i m:Nat} (h:x=2 ^ i*(2*m+1)):(x:Int) / 2 ^ i=((2*m+1:Nat):Int):=by
 rw [← Fo,h,Nat.mul_div_cancel_left _ (Nat.pow_pos (by omega))]
theorem Bhf (x y:Nat) (v:Value) (w:World) (x0:0<x) (lx:x<18446744073709551616) (ly:y<18446744073709551616) (h:Rd w v [y]) (hT:G9 w) :
  Calls Tryz.prog 209 #[.int .u64 (x:Nat),v] w fun e w'=>e=.returned (.int .u64 (Nat.gcd x y:Nat))∧w'=w:=by
 obtain ⟨a,cap,rfl,hc,hcell⟩:=h
 obtain ⟨b,off,rfl,c0'⟩:=hcell 0 (by simp)
 have c0:w.cell? ⟨b,off,none⟩=some (.int .u64 (y:Nat)):=c0'
 have lor:x ||| y<18446744073709551616:=Nat.or_lt_two_pow (n:=64) lx ly
 have g1:bits BinOp.or IntKind.u64 (x:Int) (y:Int)=((x ||| y:Nat):Int):=bits_or_u64_nat _ _ lx ly
 have oor:0<x ||| y:=by
  rcases Nat.eq_zero_or_pos (x ||| y) with g | g
  ·have:=(Nat.or_eq_zero_iff.1 g).1;omega
  ·exact g
 have TO:=Ba (Y6 (x ||| y) oor lor w hT)
 have TX:=Ba (Y6 x x0 lx w hT)
 have TZ:=Ba (fun z (h0:0<z) (hz:z<18446744073709551616)=>Y6 z h0 hz w hT)
 have LX:=Ba lx
 have LY:=Ba ly
 clear hcell c0' lor oor hT lx ly
 simp only [List.length_cons,List.length_nil] at *
 go_enter Tryz.func209,Tryz.ntmps209
 go_wp2_with fail
 refine (TO.out).mono ?_
 rintro e w1 ⟨⟨t,m,rfl,ht,h1⟩,hw⟩
 subst hw
 have O:=Ba (M.or_twos h1)
 clear h1
 go_wp2_with fail
 refine (TX.out).mono ?_
 rintro e w1 ⟨⟨i,n,rfl,hi,h2⟩,hw⟩
 subst hw
 have hsh:=Bbr h2
 obtain ⟨x',hx'⟩:∃ x',x'=2*n+1:=⟨_,rfl⟩
 have ho:x' % 2=1:=by omega
 rw [← hx'] at hsh h2
 have X2:=Ba h2
 have HO:=Ba ho
 have x'le:x'≤x:=by
  rw [h2]
  exact Nat.le_mul_of_pos_left _ (Nat.pow_pos (by omega))
 have HX':=Ba x'le
 clear h2 hx' ho x'le
 go_wp2
 go_loopw [0,5] (fun vx vy wr=>∃ X Y:Nat,wr=w1∧vx=.int .u64 X∧vy=.int .u64 Y∧X % 2=1∧X≤x∧Y<18446744073709551616∧Nat.gcd X Y=Nat.gcd x' y) (fun x y _=>(intOf x).toNat+(intOf y).toNat)
 case atStart=>exact ⟨x',y,rfl,rfl,rfl,HO.out,HX'.out,LY.out,rfl⟩
 case round =>
  obtain ⟨X,Y,rfl,rfl,rfl,oX,lX,lY,hg⟩:=hrel
  have OX:=Ba oX
  have LX1:=Ba lX
  have LY1:=Ba lY
  have HG:=Ba hg
  clear oX lX lY hg
  by_cases hY:Y=0
  ·have hw:IntKind.u64.wrap ((X:Int)*2 ^ t)=((Nat.gcd x y:Nat):Int):=by
    have e:=M.gcd_twos X2.out HO.out O.out.1 O.out.2.1 O.out.2.2
    have e2:=HG.out
    rw [hY,Nat.gcd_zero_right] at e2
    rw [← e2] at e
    rw [← De,← e]
    exact Cz _ (Nat.lt_of_le_of_lt (Nat.le_of_dvd x0 (Nat.gcd_dvd_left x y)) LX.out)
   go_wp2
   go_ret
   exact ⟨rfl,rfl⟩
  ·have hY1:((Y:Int) != 0)=true:=by simpa using hY
   have TY:=Ba (TZ.out Y (by omega) LY1.out)
   go_wp2_with fail
   refine (TY.out).mono ?_
   rintro e w2 ⟨⟨j,n2,rfl,hj,h2⟩,hw⟩
   subst hw
   have hs2:=Bbr h2
   obtain ⟨y',hy'⟩:∃ y',y'=2*n2+1:=⟨_,rfl⟩
   have oy':y' % 2=1:=by omega
   rw [← hy'] at hs2 h2
   have y'le:y'≤Y:=by
    rw [h2]
    exact Nat.le_mul_of_pos_left _ (Nat.pow_pos (by omega))
   have Y2:=Ba h2
   have OY:=Ba oy'
   have HY':=Ba y'le
   clear h2 hy' oy' y'le
   go_wp2
   have e1:min (X:Int) (y':Int)=((min X y':Nat):Int):=by omega
   have e2:IntKind.u64.wrap (max (X:Int) (y':Int) - min (X:Int) (y':Int))=((max X y' - min X y':Nat):Int):=by
    rw [show max (X:Int) (y':Int) - min (X:Int) (y':Int)=((max X y' - min X y':Nat):Int) by omega]
    exact Cz _ (by have:=LX.out;have:=LX1.out;have:=LY1.out;have:=HY'.out;omega)
   rw [e2,e1]
   have q1:=OX.out
   have q2:=OY.out
   have q3:=LX1.out
   have q4:=HY'.out
   have q5:=LX.out
   have q6:=LY1.out
   refine ⟨⟨min X y',max X y' - min X y',trivial,rfl,rfl,by omega,by omega,by omega,?_⟩,by simp only [intOf];omega⟩
   rw [M.gcd_min_max,← HG.out]
   have:=Y2.out
   rw [this,M.gcd_odd_right q1]
theorem Bhe (x:Nat) (v:Value) (w:World) (h:Rd w v []) :
  Calls Tryz.prog 209 #[.int .u64 (x:Nat),v] w fun e w'=>e=.returned (.int .u64 (x:Nat))∧w'=w:=by
 obtain ⟨a,cap,rfl,-,-⟩:=h
 simp only [List.length_nil]
 go_enter Tryz.func209,Tryz.ntmps209
 go_wp2
 go_ret
 exact ⟨rfl,rfl⟩
theorem Oe {n:Nat} (h0:n≠0) (h:n<Bb):M.digs Bb n=[n]:=by
 rw [M.digs_pos Be (by omega),Nat.mod_eq_of_lt h,Nat.div_eq_of_lt h,M.digs_zero]
theorem Ui (x z:Nat) (v:Value) (w:World) (x0:0<x) (lx:x<Bb) (hz:z<x) (h:Rd w v (M.digs Bb z)) (hT:G9 w) :
  Calls Tryz.prog 209 #[.int .u64 (x:Nat),v] w fun e w'=>e=.returned (.int .u64 (Nat.gcd x z:Nat))∧w'=w:=by
 by_cases h0:z=0
 ·subst h0
  rw [M.digs_zero] at h
  rw [Nat.gcd_zero_right]
  exact Bhe x v w h
 ·rw [Oe h0 (by omega)] at h
  exact Bhf x z v w x0 lx (by unfold Bb at lx;omega) h hT
open Go.RowKit Go.Shelf
def Lp (b:List Nat):Prop:=1≤b.length∧b.length≤60∧(lm b 0=48→b.length≤1)∧∀ j,j<b.length→48≤lm b j∧lm b j≤57
theorem Bap (s:ByteArray) (w:World) (h:s.size<1∨60<s.size∨(lm (Bj s) 0=48∧1<s.size)) :
  Calls Tryz.prog 247 #[I s] w (Re w (Iz false)):=by
 by_cases h1:s.size<1
 ·go_enter Tryz.func247,Tryz.ntmps247
  go_wp2
  go_ret
  exact ⟨rfl,Jg _ _⟩
 ·by_cases h2:60<s.size
  ·go_enter Tryz.func247,Tryz.ntmps247
   go_wp2
   go_ret
   exact ⟨rfl,Jg _ _⟩
  ·have h3:lm (Bj s) 0=48∧1<s.size:=by
    rcases h with h | h | h
    ·omega
    ·omega
    ·exact h
   have hs:0<s.size:=by omega
   have g1:((s[0]).toNat:Int)=48:=by rw [Ck s 0 hs,h3.1];rfl
   have g3:(s[0]).toNat=48:=by omega
   have g2:s[0]=48:=UInt8.toNat.inj g3
   have g4:=h3.2
   clear h h3
   go_enter Tryz.func247,Tryz.ntmps247
   go_wp2
   go_ret
   exact ⟨rfl,Jg _ _⟩
theorem Bao (s:ByteArray) (w:World) (h1:1≤s.size) (h2:s.size≤60) (h3:lm (Bj s) 0=48→s.size≤1) (r:Bool) (hr:r=true↔∀ j,j<s.size→48≤lm (Bj s) j∧lm (Bj s) j≤57) :
  Calls Tryz.prog 247 #[I s] w (Re w (Iz r)):=by
 have hcv:=Lib.run_convert_string_bytes (P:=Tryz.prog) w 9 55 5 s Tryz.underlying9 Tryz.underlying55 Tryz.underlying5
 have hcell:∀ j,j<s.size→(Lib.bytesWorld w 5 s).cell? ⟨w.heap.size,j,none⟩=some (.int .u8 (lm (Bj s) j:Nat)):=fun j hj=>by rw [Lib.bytesWorld_cell w 5 s j hj,Ok s j hj]
 have hb:=Ig w 5 s
 have HC:=Ba hcell
 have HR:=Ba hr
 clear hcell hr
 generalize Lib.bytesWorld w 5 s=w1 at *
 have g0:¬ (s.size:Int)<1:=by omega
 have g1:¬ (s.size:Int) > 60:=by omega
 have hs:0<s.size:=by omega
 by_cases g2:lm (Bj s) 0=48
 ·have g3:=h3 g2
  have g5:¬ (s.size:Int) > 1:=by omega
  have k1:((s[0]).toNat:Int)=48:=by rw [Ck s 0 hs,g2];rfl
  have k3:(s[0]).toNat=48:=by omega
  have k2:s[0]=48:=UInt8.toNat.inj k3
  clear h3 g2
  go_enter Tryz.func247,Tryz.ntmps247
  go_wp2
  go_loop [26] (fun i=>∃ k:Nat,k≤s.size∧i=.int .i64 (k:Nat)∧Hid (∀ j,j<k→48≤lm (Bj s) j∧lm (Bj s) j≤57)) (fun i=>s.size - (intOf i).toNat)
  case atStart=>exact ⟨0,Nat.zero_le _,rfl,fun j hj=>absurd hj (Nat.not_lt_zero _)⟩
  case round =>
   obtain ⟨k,hk,rfl,HA⟩:=hrel
   by_cases hlt:k<s.size
   ·have q1:=HC.out k hlt
    have hlt':(k:Int)<(s.size:Int):=by omega
    by_cases hok:48≤lm (Bj s) k∧lm (Bj s) k≤57
    ·have HN:Hid (∀ j,j<k+1→48≤lm (Bj s) j∧lm (Bj s) j≤57):=fun j hj=>by
      by_cases e:j=k
      ·rw [e];exact hok
      ·exact HA.out j (by omega)
     obtain ⟨hx1,hx2⟩:=hok
     generalize lm (Bj s) k=x at q1 hx1 hx2
     have y1:¬ (x:Int)<48:=by omega
     have y2:¬ (x:Int) > 57:=by omega
     clear HA HR HC
     go_wp2
     go_round
     case rel=>exact ⟨k+1,by omega,by go_num,HN⟩
     case measure=>simp [intOf];omega
    ·have hrf:Hid (r=false):=by
      show r=false
      cases hr:r with
      | false=>rfl
      | true=>exact absurd (HR.out.1 hr k hlt) hok
     generalize lm (Bj s) k=x at q1 hok
     clear HA HR HC
     by_cases y1:x<48
     ·have y1':(x:Int)<48:=by omega
      go_wp2
      go_ret
      exact ⟨by rw [hrf.out];rfl,hb⟩
     ·have y1':¬ (x:Int)<48:=by omega
      have y2':(x:Int) > 57:=by omega
      go_wp2
      go_ret
      exact ⟨by rw [hrf.out];rfl,hb⟩
   ·have hke:k=s.size:=by omega
    have hrt:Hid (r=true):=HR.out.2 (fun j hj=>HA.out j (by omega))
    clear HA HR HC
    go_wp2
    go_ret
    exact ⟨by rw [hrt.out];rfl,hb⟩
 ·have k1:¬ ((s[0]).toNat:Int)=48:=by rw [Ck s 0 hs];omega
  have k2:¬ s[0]=48:=fun h=>k1 (by rw [h];rfl)
  clear h3 g2
  go_enter Tryz.func247,Tryz.ntmps247
  go_wp2
  go_loop [26] (fun i=>∃ k:Nat,k≤s.size∧i=.int .i64 (k:Nat)∧Hid (∀ j,j<k→48≤lm (Bj s) j∧lm (Bj s) j≤57)) (fun i=>s.size - (intOf i).toNat)
  case atStart=>exact ⟨0,Nat.zero_le _,rfl,fun j hj=>absurd hj (Nat.not_lt_zero _)⟩
  case round =>
   obtain ⟨k,hk,rfl,HA⟩:=hrel
   by_cases hlt:k<s.size
   ·have q1:=HC.out k hlt
    have hlt':(k:Int)<(s.size:Int):=by omega
    by_cases hok:48≤lm (Bj s) k∧lm (Bj s) k≤57
    ·have HN:Hid (∀ j,j<k+1→48≤lm (Bj s) j∧lm (Bj s) j≤57):=fun j hj=>by
      by_cases e:j=k
      ·rw [e];exact hok
      ·exact HA.out j (by omega)
     obtain ⟨hx1,hx2⟩:=hok
     generalize lm (Bj s) k=x at q1 hx1 hx2
     have y1:¬ (x:Int)<48:=by omega
     have y2:¬ (x:Int) > 57:=by omega
     clear HA HR HC
     go_wp2
     go_round
     case rel=>exact ⟨k+1,by omega,by go_num,HN⟩
     case measure=>simp [intOf];omega
    ·have hrf:Hid (r=false):=by
      show r=false
      cases hr:r with
      | false=>rfl
      | true=>exact absurd (HR.out.1 hr k hlt) hok
     generalize lm (Bj s) k=x at q1 hok
     clear HA HR HC
     by_cases y1:x<48
     ·have y1':(x:Int)<48:=by omega
      go_wp2
      go_ret
      exact ⟨by rw [hrf.out];rfl,hb⟩
     ·have y1':¬ (x:Int)<48:=by omega
      have y2':(x:Int) > 57:=by omega
      go_wp2
      go_ret
      exact ⟨by rw [hrf.out];rfl,hb⟩
   ·have hke:k=s.size:=by omega
    have hrt:Hid (r=true):=HR.out.2 (fun j hj=>HA.out j (by omega))
    clear HA HR HC
    go_wp2
    go_ret
    exact ⟨by rw [hrt.out];rfl,hb⟩
theorem Kd (s:ByteArray) (w:World) (r:Bool) (hr:r=true↔Lp (Bj s)) :
  Calls Tryz.prog 247 #[I s] w (Re w (Iz r)):=by
 by_cases h:s.size<1∨60<s.size∨(lm (Bj s) 0=48∧1<s.size)
 ·have e:r=false:=by
   cases hh:r with
   | false=>rfl
   | true =>
    obtain ⟨a,b,c,-⟩:=hr.1 hh
    rw [Bt] at a b c
    rcases h with h | h | ⟨h,h'⟩
    ·omega
    ·omega
    ·have:=c h;omega
  rw [e]
  exact Bap s w h
 ·refine Bao s w (by omega) (by omega) (fun h0=>?_) r ?_
  ·rcases Nat.lt_or_ge 1 s.size with h1 | h1
   ·exact absurd (Or.inr (Or.inr ⟨h0,h1⟩)) h
   ·exact h1
  ·rw [hr]
   unfold Lp
   rw [Bt]
   constructor
   ·exact fun h=>h.2.2.2
   ·intro hd
    refine ⟨by omega,by omega,fun h0=>?_,hd⟩
    rcases Nat.lt_or_ge 1 s.size with h1 | h1
    ·exact absurd (Or.inr (Or.inr ⟨h0,h1⟩)) h
    ·exact h1
open Go.RowKit Go.Shelf
theorem Ty.others {w w':World} {v:Value} {b:Nat} (h:Ty w v) (hk:Lib.OthersKept 5 (some b) w w') (hb:∀ cs fr,w.heap[b]?≠some (.cells cs 170 fr)):Ty w' v:=fun g off n c e=>by
 obtain ⟨cs,fr,hh⟩:=h g off n c e
 refine ⟨cs,fr,hk g _ hh (fun e=>?_) (fun c fz h=>by simp at h)⟩
 simp only [Option.some.injEq] at e
 subst e
 exact hb _ _ hh
theorem Rd.others {w w':World} {v:Value} {xs:List Nat} {b:Nat} (h:Rd w v xs) (ht:Ty w v) (hk:Lib.OthersKept 5 (some b) w w') (hb:∀ cs fr,w.heap[b]?≠some (.cells cs 170 fr)):Rd w' v xs:=by
 obtain ⟨a,cap,rfl,hc,h⟩:=h
 refine ⟨a,cap,rfl,hc,fun j hj=>?_⟩
 obtain ⟨g,off,rfl,hcell⟩:=h j hj
 refine ⟨g,off,rfl,?_⟩
 obtain ⟨cs,fr,hh⟩:=ht g off _ _ rfl
 have:=hk g _ hh (fun e=>by
  simp only [Option.some.injEq] at e
  subst e
  exact hb _ _ hh) (fun c fz h=>by simp at h)
 rw [World.cell?_of_block (w:=w) (a:=⟨g,off+j,none⟩) (by rw [this,hh])]
 exact hcell
theorem Ho {T e:TypeId} {B b:Nat} {bs:List Value} {w:World} (hT:T≠170) (h:Lib.IsBuilderF T e B b bs w):∀ cs fr,w.heap[b]?≠some (.cells cs 170 fr):=by
 intro cs fr hh
 rcases h with ⟨-,v,hb,-⟩ | ⟨-,v,hb,-⟩ <;>
 ·rw [hb] at hh
  simp at hh
  exact hT hh.2.1
open Go.RowKit Go.Shelf
theorem Nk (B b:Nat) (l:List UInt8) (w:World) (h:Lib.IsBuilderF 158 5 B b (Lib.byteCells l) w) (hBw:B≤w.heap.size) :
  Calls Tryz.prog 102 #[.pointer (some ⟨b,0,none⟩)] w fun e w'=>e=.returned (I ⟨l.toArray⟩)∧(Lib.IsBuilderF 158 5 B b (Lib.byteCells l) w'∧Below B w w'):=Any.Builder_String_any_f Bcf Um B b l w h hBw
theorem Ms (w:World):Lib.IsBuilderF 158 5 w.heap.size w.heap.size [] (w.alloc (.cells #[.pointer none,.slice none 0 0] 158)) :=
 Or.inl ⟨Jb _,.slice none 0 0,heap_alloc_new w _,World.ownsRowF_nil _ _ _ _,by simp [Value.ownBlock]⟩
theorem Fd {B:Nat} {w w':World} (hb:Below B w w') {g j:Nat} (hg:g<B) {v:Value} (h:w.cell? ⟨g,j,none⟩=some v):w'.cell? ⟨g,j,none⟩=some v:=by
 rw [World.cell?_of_block (w:=w) (a:=⟨g,j,none⟩) (hb.block g hg)];exact h
theorem Bov (w:World) (x0 x1:Value):∃ w0,w0=(w.alloc (.cells #[x0,x1] 24)).alloc (.cells #[x0,x1] 24) ∧
  Bi w0 w.heap.size [x0,x1] 24∧Bi w0 (w.heap.size+1) [x0,x1] 24∧Below w.heap.size w w0:=by
 refine ⟨_,rfl,(Bi.new w [x0,x1] _).alloc _,?_,by go_grown⟩
 have:=Bi.new (w.alloc (.cells #[x0,x1] 24)) [x0,x1] 24
 simpa using this
open Go.RowKit Go.Shelf
def Ce (b:List Nat):Nat→Nat
 | 0=>0
 | k+1=>10*Ce b k+(lm b k - 48)
theorem G7 {b:List Nat}:∀ (k:Nat),(∀ j,j<k→lm b j≤57)→Ce b k<10 ^ k
 | 0,_=>by simp [Ce]
 | k+1,h=>by
  have h1:=G7 k (fun j hj=>h j (by omega))
  have h2:=h k (by omega)
  rw [Nat.pow_succ]
  unfold Ce
  omega
theorem X3 (b:List Nat) (p j:Nat):lm (b.drop p) j=lm b (p+j):=by
 unfold lm
 rw [Jh,Jh,List.getElem?_drop]
theorem Uk (b:List Nat) (p:Nat):∀ m,Ce b (p+m)=Ce b p*10 ^ m+Ce (b.drop p) m
 | 0=>by simp [Ce]
 | m+1=>by
  rw [show p+(m+1)=(p+m)+1 from rfl]
  show 10*Ce b (p+m)+(lm b (p+m) - 48)=Ce b p*10 ^ (m+1)+(10*Ce (b.drop p) m+(lm (b.drop p) m - 48))
  rw [Uk b p m,X3,Nat.pow_succ,Nat.mul_add]
  have:10*(Ce b p*10 ^ m)=Ce b p*(10 ^ m*10):=by
   rw [Nat.mul_left_comm,Nat.mul_comm 10]
  rw [this]
  omega
def Bmo:Value→Nat
 | .string t=>t.size
 | _=>0
theorem Qz:(10:Nat) ^ 19=10000000000000000000:=by decide
theorem Xy {X Y b j k:Nat} (hx:X<b ^ j) (hy:Y<b ^ k):X*Y<b ^ (j+k):=by
 rw [Nat.pow_add]
 exact Nat.mul_lt_mul'' hx hy
theorem Vg {D P:Nat} (hD:D<Bb ^ 4) (hP:P<Bb) (v0 v1:Value) (w:World) (r0:Rd w v0 (M.digs Bb D)) (r1:Rd w v1 [P]) :
  Calls Tryz.prog 132 #[v0,v1] w fun e w'=>∃ v,e=.returned (.tuple #[v,.int .i64 0])∧Rd w' v (M.digs Bb (D*P))∧Below w.heap.size w w':=by
 have:=Bjz v0 v1 _ _ w r0 r1 (M.Low.digs Be _) (Ez (by simpa using hP)) (Nat.le_trans (M.digs_len_of_lt Be hD) (by omega)) (by simp)
 rwa [M.val_digs Be,show M.val Bb [P]=P from by rw [M.val_cons,M.val_nil];omega] at this
theorem V8 {D V:Nat} (hD:D<Bb ^ (4+1)) (hV:V<Bb) (v0 v1:Value) (w:World) (r0:Rd w v0 (M.digs Bb D)) (r1:Rd w v1 [V]) :
  Calls Tryz.prog 127 #[v0,v1] w fun e w'=>∃ v,e=.returned (.tuple #[v,.int .i64 0])∧Rd w' v (M.digs Bb (D+V))∧Below w.heap.size w w':=by
 have:=Bcz v0 v1 _ _ w r0 r1 (M.Low.digs Be _) (Ez (by simpa using hV)) (Nat.le_trans (M.digs_len_of_lt Be hD) (by omega)) (by simp)
 rwa [M.val_digs Be,show M.val Bb [V]=V from by rw [M.val_cons,M.val_nil];omega] at this
theorem Tv (s:ByteArray) (w:World) (hs:s.size≤60) (hd:∀ j,j<s.size→48≤lm (Bj s) j∧lm (Bj s) j≤57) :
  Calls Tryz.prog 248 #[I s] w fun e w'=>∃ v,e=.returned v∧Rd w' v (M.digs Bb (Ce (Bj s) s.size))∧Below w.heap.size w w':=by
 have HD:=Ba hd
 clear hd
 go_enter Tryz.func248,Tryz.ntmps248
 go_wp2
 go_loopw [0,3] (fun sv rv wr=>∃ (p:Nat) (t:ByteArray),p≤s.size∧sv=I t∧t.size=s.size - p∧Hid (Bj t=(Bj s).drop p)∧Rd wr rv (M.digs Bb (Ce (Bj s) p))∧Below w.heap.size w wr) (fun sv _ _=>Bmo sv)
 case atStart=>exact ⟨0,s,Nat.zero_le _,rfl,by omega,by show _=_;rw [List.drop_zero],U9 w,Jg _ _⟩
 case round =>
  obtain ⟨p,t,hp,rfl,htl,HB,hr,bb⟩:=hrel
  obtain ⟨ar,cr,rfl,-,-⟩:=id hr
  by_cases h0:t.size=0
  ·have hps:p=s.size:=by omega
   subst hps
   go_wp2
   go_ret
   exact ⟨_,rfl,hr,bb⟩
  ·obtain ⟨m,hm⟩:∃ m,m=min 19 t.size:=⟨_,rfl⟩
   have hm0:0<m:=by omega
   have hm1:m≤19:=by omega
   have hm2:m≤t.size:=by omega
   have hmi:(min 19 (t.size:Int))=(m:Int):=by omega
   have hmn:min m t.size=m:=by omega
   have hpos:(t.size:Int) > 0:=by omega
   have hps:p+m≤s.size:=by omega
   have HTL:Hid (t.size - m=s.size - (p+m)):=by show _=_;omega
   have hcv:=Lib.run_convert_string_bytes (P:=Tryz.prog) wr 9 55 5 (t.extract 0 m) Tryz.underlying9 Tryz.underlying55 Tryz.underlying5
   have hsz:(t.extract 0 m).size=m:=by rw [ByteArray.size_extract];omega
   have hbt:Bj (t.extract 0 m)=(Bj t).take m:=by rw [Gn,List.drop_zero]
   have hcell:∀ j,j<m→(Lib.bytesWorld wr 5 (t.extract 0 m)).cell? ⟨wr.heap.size,j,none⟩=some (.int .u8 (lm ((Bj s).drop p) j:Nat)):=fun j hj=>by
    rw [Lib.bytesWorld_cell wr 5 (t.extract 0 m) j (by omega),Ok (t.extract 0 m) j (by omega),hbt,Ma hj,HB.out]
   have hb1:=Ig wr 5 (t.extract 0 m)
   have HC:=Ba hcell
   have HX:Hid (Bj (t.extract m t.size)=(Bj s).drop (p+m)):=by
    show _=_
    rw [Gn,List.take_of_length_le (by rw [Bt];exact Jb _),HB.out,List.drop_drop]
   have HSX:Hid ((t.extract m t.size).size=t.size - m):=by show _=_;rw [ByteArray.size_extract];omega
   have HDD:Hid (∀ j,j<m→48≤lm ((Bj s).drop p) j∧lm ((Bj s).drop p) j≤57):=fun j hj=>by rw [X3];exact HD.out _ (by omega)
   rw [hsz] at hcv
   have HM:=Ba hm
   clear hcell hbt hm htl hsz
   generalize Lib.bytesWorld wr 5 (t.extract 0 m)=w1 at *
   go_wp2
   generalize t.extract m t.size=t' at *
   go_loopw [5,6,24] (fun v pw i wq=>∃ k V P:Nat,k≤m∧i=.int .i64 (k:Nat)∧v=.int .u64 (V:Nat)∧pw=.int .u64 (P:Nat)∧Hid (V=Ce ((Bj s).drop p) k∧P=10 ^ k)∧wq=w1) (fun _ _ i _=>m - (intOf i).toNat)
   case atStart=>exact ⟨0,0,1,by omega,rfl,rfl,rfl,⟨rfl,rfl⟩,rfl⟩
   case round =>
    obtain ⟨k,V,P,hk,rfl,rfl,rfl,HVP,rfl⟩:=hrel
    by_cases hlt:k<m
    ·have q1:=HC.out k hlt
     obtain ⟨hx1,hx2⟩:=HDD.out k hlt
     have hV:V<1000000000000000000:=by
      have e:=HVP.out.1
      have l:=G7 (b:=(Bj s).drop p) k (fun j hj=>(HDD.out j (by omega)).2)
      have l2:10 ^ k≤10 ^ 18:=Nat.pow_le_pow_right (by omega) (by omega)
      have l3:(10:Nat) ^ 18=1000000000000000000:=by decide
      omega
     have hP:P≤1000000000000000000:=by
      have e:=HVP.out.2
      have l2:10 ^ k≤10 ^ 18:=Nat.pow_le_pow_right (by omega) (by omega)
      have l3:(10:Nat) ^ 18=1000000000000000000:=by decide
      omega
     have HN:Hid (10*V+(lm ((Bj s).drop p) k - 48)=Ce ((Bj s).drop p) (k+1)∧P*10=10 ^ (k+1)):=by
      refine ⟨?_,?_⟩
      ·rw [HVP.out.1];rfl
      ·rw [HVP.out.2,Nat.pow_succ]
     generalize lm ((Bj s).drop p) k=x at q1 hx1 hx2 HN
     have hlt':(k:Int)<(m:Int):=by omega
     have y1:IntKind.u64.wrap (10*(V:Int))=((10*V:Nat):Int):=by simp only [IntKind.wrap_u64];omega
     have y2:IntKind.u8.wrap ((x:Int) - 48)=((x - 48:Nat):Int):=by simp only [IntKind.wrap_u8];omega
     have y3:IntKind.u64.wrap ((x - 48:Nat):Int)=((x - 48:Nat):Int):=by simp only [IntKind.wrap_u64];omega
     have y4:IntKind.u64.wrap (((10*V:Nat):Int)+((x - 48:Nat):Int))=((10*V+(x - 48):Nat):Int):=by simp only [IntKind.wrap_u64];omega
     have y5:IntKind.u64.wrap ((P:Int)*10)=((P*10:Nat):Int):=by simp only [IntKind.wrap_u64];omega
     generalize hA:((10*V:Nat):Int)=A at *
     generalize hBx:((x - 48:Nat):Int)=Bx at *
     generalize hE:((10*V+(x - 48):Nat):Int)=E at *
     generalize hF:((P*10:Nat):Int)=F at *
     have HE:=Ba hE
     have HF:=Ba hF
     clear hA hBx hE hF HVP HC HDD HD HB HX HSX HTL HM
     go_wp2
     exact ⟨⟨k+1,10*V+(x - 48),P*10,by omega,by go_num,by rw [HE.out],by rw [HF.out],HN,trivial⟩,by simp [intOf];omega⟩
    ·have hkm:k=m:=by omega
     subst hkm
     obtain ⟨eV,eP⟩:=HVP.out
     have hVl:V<Bb:=by
      have l:=G7 (b:=(Bj s).drop p) k (fun j hj=>(HDD.out j (by omega)).2)
      have l2:10 ^ k≤10 ^ 19:=Nat.pow_le_pow_right (by omega) (by omega)
      rw [Qz] at l2
      unfold Bb;omega
     have hPl:P<Bb:=by
      have l2:10 ^ k≤10 ^ 19:=Nat.pow_le_pow_right (by omega) (by omega)
      rw [Qz] at l2
      unfold Bb;omega
     have hD:Ce (Bj s) p<Bb ^ 4:=by
      have l:=G7 (b:=Bj s) p (fun j hj=>(HD.out j (by omega)).2)
      have l2:10 ^ p≤10 ^ 60:=Nat.pow_le_pow_right (by omega) (by omega)
      exact Jl l (Jf l2 (by unfold Bb;decide))
     have hdig:Ce (Bj s) (p+k)=Ce (Bj s) p*P+V:=by rw [Uk,eV,eP]
     have HMul:=Ba (fun v0 v1 wx r0 r1=>Vg (D:=Ce (Bj s) p) (P:=P) hD hPl v0 v1 wx r0 r1)
     have HAdd:=Ba (fun v0 v1 wx r0 r1=>V8 (D:=Ce (Bj s) p*P) (V:=V) (Xy hD (show P<Bb ^ 1 by rw [Nat.pow_one];exact hPl)) hVl v0 v1 wx r0 r1)
     rw [← hdig] at HAdd
     have HX':=HX.out
     have HS':=HSX.out
     have HT':=HTL.out
     have HXH:=Ba HX'
     have HSZ:Hid (t'.size=s.size - (p+k)):=by show _=_;omega
     have HLT:Hid (t'.size<t.size):=by show _<_;omega
     have bb1:=Ia bb hb1
     have hr1:=hr.b hb1
     generalize hDD:Ce (Bj s) p=D at *
     generalize hDE:Ce (Bj s) (p+k)=DE at *
     have HDE:=Ba hDE
     clear hDD hDE hdig HVP HC HDD HD HB HX HSX HTL HM HX' HS' HT' eV eP hD hVl hPl hmi hmn hcv hm0 hm1 hm2 hlt hk
     go_wp2_with fail
     obtain ⟨w2,hw2⟩:∃ w2,w2=wr.alloc (.cells #[.int .u64 (P:Nat)] 170):=⟨_,rfl⟩
     have b2:Below wr.heap.size wr w2:=by rw [hw2];exact (Jg _ _).alloc (Jb _) _
     have rP:Rd w2 (.slice (some ⟨wr.heap.size,0,none⟩) 1 1) [P]:=by rw [hw2];exact Yt wr rfl P
     rw [← hw2]
     clear hw2
     refine (HMul.out _ _ w2 (hr1.b b2) rP).mono ?_
     rintro e w3 ⟨v3,rfl,r3,b3⟩
     obtain ⟨a3,c3,rfl,-,-⟩:=id r3
     have bb3:=Ia (Ia bb1 b2) b3
     clear hr hr1 HMul bb1 b2 b3 bb hb1 rP
     go_wp2_with fail
     obtain ⟨w4,hw4⟩:∃ w4,w4=w3.alloc (.cells #[.int .u64 (V:Nat)] 170):=⟨_,rfl⟩
     have b4:Below w3.heap.size w3 w4:=by rw [hw4];exact (Jg _ _).alloc (Jb _) _
     have rV:Rd w4 (.slice (some ⟨w3.heap.size,0,none⟩) 1 1) [V]:=by rw [hw4];exact Yt w3 rfl V
     rw [← hw4]
     clear hw4
     refine (HAdd.out _ _ w4 (r3.b b4) rV).mono ?_
     rintro e w5 ⟨v5,rfl,r5,b5⟩
     obtain ⟨a5,c5,rfl,-,-⟩:=id r5
     have bb5:=Ia (Ia bb3 b4) b5
     clear r3 HAdd bb3 b4 b5 rV
     have R5:Hid (Rd w5 (.slice a5 (M.digs Bb DE).length c5) (M.digs Bb (Ce (Bj s) (p+k)))):=by
      show Rd _ _ _
      rw [HDE.out];exact r5
     clear r5 HDE
     go_wp2
     exact ⟨⟨p+k,t',hps,rfl,HSZ.out,HXH,R5.out,bb5⟩,HLT.out⟩
open Go.RowKit Go.Shelf
theorem pfx (s:ByteArray):Lib.hasPrefix s.data.toList (ByteArray.mk #[45]).data.toList=decide (0<s.size∧lm (Bj s) 0=45):=by
 obtain ⟨⟨l⟩⟩:=s
 cases l with
 | nil=>rfl
 | cons x l =>
  have e:lm (Bj ⟨⟨x :: l⟩⟩) 0=x.toNat:=rfl
  rw [e]
  have h0:0<(ByteArray.mk ⟨x :: l⟩).size:=by show 0<(x :: l).length;simp
  by_cases hx:x=45
  ·subst hx
   have:(45:UInt8).toNat=45:=rfl
   simp only [h0,this,and_self,decide_true]
   rfl
  ·have hx':¬ x.toNat=45:=fun h=>hx (UInt8.toNat.inj h)
   simp only [hx',and_false,decide_false]
   simp [Lib.hasPrefix,List.isPrefixOf]
   exact fun h=>hx h.symm
def Neg (b:List Nat):Prop:=0<b.length∧lm b 0=45
instance (b:List Nat):Decidable (Neg b):=by unfold Neg;exact inferInstance
theorem Wq (neg:Bool) (v:Value) (w:World) {V:Nat} (hV:V<Bb ^ 4) (h:Rd w v (M.digs Bb V)) :
  Calls Tryz.prog 170 #[.agg #[Iz neg,v]] w (Re w (zI (Fk neg V))):=Hy neg (K:=4) (by omega) hV v w h
theorem Me {b:List Nat} (h:Lp b):Ce b b.length<Bb ^ 4:=by
 have l:=G7 (b:=b) b.length (fun j hj=>(h.2.2.2 j hj).2)
 have l2:10 ^ b.length≤10 ^ 60:=Nat.pow_le_pow_right (by omega) h.2.1
 exact Jl l (Jf l2 (by unfold Bb;decide))
theorem Gr (s:ByteArray) (w:World) (hn:¬ (0<s.size∧lm (Bj s) 0=45)) (h:Lp (Bj s)) :
  Calls Tryz.prog 216 #[I s] w (Re w (.tuple #[zI (Fk false (Ce (Bj s) s.size)),.int .i64 0])):=by
 have hp:=pfx s
 rw [decide_eq_false hn] at hp
 have HI:=Ba (fun w=>Kd s w true (by simp [h]))
 have HRo:=Ba (fun w=>Tv s w (by have:=h.2.1;rwa [Bt] at this) (fun j hj=>h.2.2.2 j (by rwa [Bt])))
 have h4:=Me h
 rw [Bt] at h4
 have HT:=Ba (fun v w hr=>Wq false v w h4 hr)
 generalize hR:zI (Fk false (Ce (Bj s) s.size))=R at *
 obtain ⟨za,zb,rfl⟩:∃ a b,R=.agg #[Iz a,I b]:=⟨_,_,hR.symm⟩
 have HPx:=Ba hp
 clear hR h4 h hn hp
 go_enter Tryz.func216,Tryz.ntmps216
 go_wp2_with fail
 obtain ⟨w0,hw0⟩:∃ w0,w0=(w.alloc (.cells #[Iz false,.string { data:=#[] }] 24)).alloc (.cells #[Iz false,.slice none 0 0] 228):=⟨_,rfl⟩
 have k0:Bi w0 w.heap.size [Iz false,.string { data:=#[] }] 24:=by rw [hw0];exact (Bi.new w _ _).alloc _
 have k1:Bi w0 (w.heap.size+1) [Iz false,.slice none 0 0] 228:=by
  rw [hw0]
  have:=Bi.new (w.alloc (.cells #[Iz false,.string { data:=#[] }] 24)) [Iz false,.slice none 0 0] 228
  simpa using this
 have hb0:Below w.heap.size w w0:=by rw [hw0];go_grown
 rw [← hw0]
 clear hw0
 refine (Dn _ _ w0).mono ?_
 rintro e w1 ⟨rfl,hw⟩
 subst hw
 rw [HPx.out]
 go_wp2_with fail
 refine (HI.out w1).mono ?_
 rintro e w2 ⟨rfl,b2⟩
 replace k0:=k0.b b2
 replace k1:=k1.b b2
 replace hb0:=Ia hb0 b2
 clear b2
 go_wp2_with fail
 refine (HRo.out w2).mono ?_
 rintro e w3 ⟨v,rfl,rv,b3⟩
 obtain ⟨av,cv,rfl,-,-⟩:=id rv
 replace k0:=k0.b b3
 replace k1:=k1.b b3
 replace hb0:=Ia hb0 b3
 clear b3
 obtain ⟨c0,c1⟩:=Dc k1
 have f1:=k1.o 1
 obtain ⟨e0,e1⟩:=Dc (k1.set 1 (.slice av (M.digs Bb (Ce (Bj s) s.size)).length cv))
 go_wp2_with fail
 have rx:=(Gw rv k1 (Rw _ _ _ _)).setX 1 (.slice av (M.digs Bb (Ce (Bj s) s.size)).length cv)
 obtain ⟨w4,hw4⟩:∃ w4,w4=w3.setCell ⟨w.heap.size+1,1,none⟩ (.slice av (M.digs Bb (Ce (Bj s) s.size)).length cv):=⟨_,rfl⟩
 have k4:Bi w4 w.heap.size [Iz false,.string { data:=#[] }] 24:=by rw [hw4];exact k0.t (by omega) _ _
 have b4:Below w.heap.size w w4:=by rw [hw4];exact hb0.setCell (by simp) _
 rw [← hw4] at rx ⊢
 clear hw4 c0 c1 f1 e0 e1 k0 k1 hb0 rv
 refine (HT.out _ w4 rx.rd).mono ?_
 rintro e w5 ⟨rfl,b5⟩
 replace k4:=k4.b b5
 replace b4:=Ia b4 b5
 obtain ⟨g0,g1⟩:=Dc k4
 have q0:=k4.o 0
 have q1:=k4.o 1
 go_wp2
 exact Di (p:=2) (u:=3) (by kernel_rfl) rfl rfl rfl ((k4.set 0 _).set 1 _) ⟨rfl,(b4.setCell (by simp) _).setCell (by simp) _⟩
open Go.RowKit Go.Shelf
theorem Bem (u:Nat) (hu:u<100) (w:World) :
  Calls Tryz.prog 255 #[.int .u64 (u:Nat),.int .i64 10] w fun e w'=>e=.returned (I ⟨(Lib.decDigits u).toArray⟩)∧w'=w:=by
 have H:=Ba (Fl u hu w)
 have g1:IntKind.i64.wrap (u:Int)=(u:Int):=by simp only [IntKind.wrap_i64];omega
 have H92:Hid (Calls Tryz.prog 272 #[.int .u64 (u:Nat),.int .i64 10] w fun e w'=>e=.returned (I ⟨(Lib.decDigits u).toArray⟩)∧w'=w):=by
  show Calls _ _ _ _ _
  go_enter Tryz.func272,Tryz.ntmps272
  go_wp2_with fail
  refine (H.out).mono ?_
  rintro e w1 ⟨rfl,hw⟩
  subst hw
  go_wp2
  go_ret
  exact ⟨rfl,rfl⟩
 go_enter Tryz.func255,Tryz.ntmps255
 go_wp2_with fail
 refine (H92.out).mono ?_
 rintro e w1 ⟨rfl,hw⟩
 subst hw
 go_wp2
 go_ret
 exact ⟨rfl,rfl⟩
theorem Po (l:List UInt8):Lib.strCells ⟨l.toArray⟩=Lib.byteCells l:=rfl
theorem Ec {w w':World} (hb:Below w.heap.size w w') {g:Nat} {o:Obj} (hg:w.heap[g]?=some o):w'.heap[g]?=some o:=by
 have:g<w.heap.size:=by
  rcases Nat.lt_or_ge g w.heap.size with h' | h'
  ·exact h'
  ·rw [Array.getElem?_eq_none h'] at hg;cases hg
 rw [hb.block g this];exact hg
theorem Kg {T e:TypeId} {B b:Nat} {p:Value} {bs:List Value} {w w':World} (h:Lib.BuilderAtF T e B b p bs w) (hb:Below w.heap.size w w'):Lib.BuilderAtF T e B b p bs w':=by
 obtain ⟨hB,v,hbk,⟨hx,hown⟩,hne⟩:=h
 refine ⟨hB,v,Ec hb hbk,⟨hx,?_⟩,hne⟩
 rcases hown with h | ⟨g,cap,cur,fz,hv,hg0,hg,rest⟩
 ·exact Or.inl h
 ·exact Or.inr ⟨g,cap,cur,fz,hv,hg0,Ec hb hg,rest⟩
theorem D3 {T e:TypeId} {B b:Nat} {bs:List Value} {w w':World} (h:Lib.IsBuilderF T e B b bs w) (hb:Below w.heap.size w w'):Lib.IsBuilderF T e B b bs w' :=
 h.imp (fun h=>Kg h hb) (fun h=>Kg h hb)
theorem Gh {w w':World} (hb:Below w.heap.size w w') (e:TypeId) (b:Option Nat):Lib.OthersKept e b w w':=fun _ _ h _ _=>Ec hb h
open Go.RowKit Go.Shelf
theorem Bhy {n:Nat} (h0:n≠0) (h:n<Bb):M.digs Bb n=[n]:=by
 have e:n=M.val Bb [n]:=by simp [M.val_cons,M.val_nil]
 rw [e]
 rw [← e]
 conv=>lhs;rw [e]
 exact Bk1 Be (Ez (by simpa using h)) (Bc9 (by simpa using h0)) rfl
end Go.Proofs.YtnplifkgeeicjaaGreatDoor
