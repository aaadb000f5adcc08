import Derived.Test.YtnplifkgeeicjaaGreatDoorV26
set_option maxRecDepth 100000
set_option maxHeartbeats 8000000
namespace Go.Proofs.YtnplifkgeeicjaaGreatDoor
open Go.RowKit
theorem F8 (s:ByteArray) (w:World) (hm:s.size≤40000) :
  Calls Tryz.prog 113 #[I s] w fun e w'=>∃ v,e=.returned v∧Rd w' v (M.digs Bp (Bc s))∧Below w.heap.size w w':=Sj s w (by omega)
def Ta (bs:Nat) (v:Value) (w:World):Nat:=match v with
 | .slice (some a) n _=>M.val bs ((List.range n).map fun j=>match w.cell? ⟨a.block,a.off+j,none⟩ with | some (.int _ z)=>z.toNat | _=>0)
 | _=>0
theorem C3 {bs:Nat} (hb:2≤bs) {w:World} {v:Value} {A:Nat} (h:Rd w v (M.digs bs A)):Ta bs v w=A:=by
 obtain ⟨ao,cap,rfl,-,hc⟩:=h
 rcases Nat.eq_zero_or_pos (M.digs bs A).length with h0 | h0
 ·have z:A=0:=by
   have:=M.val_digs hb A
   rw [List.eq_nil_of_length_eq_zero h0] at this
   exact this.symm
  subst z
  rw [M.digs_zero]
  cases ao <;> rfl
 ·obtain ⟨b,off,rfl,-⟩:=hc 0 h0
  have e:((List.range (M.digs bs A).length).map fun j=>match w.cell? ⟨b,off+j,none⟩ with | some (.int _ z)=>z.toNat | _=>0)=M.digs bs A:=by
   apply List.ext_getElem
   ·simp
   ·intro i h1 h2
    obtain ⟨b',off',e',hcell⟩:=hc i h2
    cases e'
    simp only [List.getElem_map,List.getElem_range,hcell]
    simp [lm,h2]
  show M.val bs _=A
  rw [e,M.val_digs hb]
theorem Bkb (A:Nat):lm (M.digs Bp A) 0 % 2=A % 2:=by
 rcases Nat.eq_zero_or_pos A with h | h
 ·subst h;rw [M.digs_zero];rfl
 ·rw [M.digs_pos Bl h]
  show A % Bp % 2=A % 2
  unfold Bp
  omega
theorem Gp {A N:Nat} (hA:A≤N) (hN:(M.digs Bp N).length≤100000) (v:Value) (w:World) (r:Rd w v (M.digs Bp A)) :
  Calls Tryz.prog 193 #[v] w fun e w'=>∃ v b,e=.returned (.tuple #[v,Iz b])∧Rd w' v (M.digs Bp (A / 2))∧Below w.heap.size w w':=by
 refine (Bdr v _ w r (M.Low.digs Bl A) (Jf (Ke Bl hA) hN)).mono ?_
 rintro e w' ⟨v',rfl,h,hb⟩
 rw [M.val_digs Bl] at h
 exact ⟨v',_,rfl,h,hb⟩
theorem Xf {A N:Nat} (hA:A≤N) (hN:(M.digs Bp N).length≤100000) (v:Value) (w:World) (r:Rd w v (M.digs Bp A)) :
  Calls Tryz.prog 160 #[v,.int .u64 0] w fun e w'=>∃ v,e=.returned v∧Rd w' v (M.digs Bp (2*A))∧Below w.heap.size w w':=by
 refine (Xg v _ 0 w r (M.Low.digs Bl A) (by omega) (Jf (Ke Bl hA) hN)).mono ?_
 rintro e w' ⟨v',rfl,h,hb⟩
 rw [M.val_digs Bl] at h
 exact ⟨v',rfl,h,hb⟩
theorem Vm {A:Nat} (h:0<A):0<(M.digs Bp A).length:=by
 rw [M.digs_pos Bl h];simp
theorem Rd.low {w:World} {v:Value} {A:Nat} (h:Rd w v (M.digs Bp A)) (h0:0<A):∃ b off n c x:Nat,v=.slice (some ⟨b,off,none⟩) n c∧0<n∧(M.digs Bp A).length=n∧w.cell? ⟨b,off,none⟩=some (.int .u64 (x:Nat))∧x % 2=A % 2:=by
 obtain ⟨ao,cap,rfl,-,hc⟩:=h
 obtain ⟨b,off,rfl,hcell⟩:=hc 0 (Vm h0)
 exact ⟨b,off,_,cap,_,rfl,Vm h0,rfl,hcell,Bkb A⟩
theorem Bmj {t N K:Nat} (h:2 ^ t≤N) (hN:N<Bp ^ K):t<32*K:=by
 rw [show Bp=2 ^ 32 from rfl,← Nat.pow_mul] at hN
 exact (Nat.pow_lt_pow_iff_right (by omega)).1 (Nat.lt_of_le_of_lt h hN)
theorem Kt (N:Nat):N<Bp ^ (M.digs Bp N).length:=by
 have:=M.val_lt Ca (M.Low.digs Bl N)
 rwa [M.val_digs Bl] at this
structure GS (X Y N:Nat) (w wr:World) (va vb:Value) (A B t:Nat):Prop where
 ra:Rd wr va (M.digs Bp A)
 rb:Rd wr vb (M.digs Bp B)
 b0:0<B
 ha:A≤N
 hb:B≤N
 ht:2 ^ t*B≤N
 gcd:Nat.gcd X Y=2 ^ t*Nat.gcd A B
 bb:Below w.heap.size w wr
theorem Bf7 (X Y N:Nat) (va vb:Value) (w:World) (ra:Rd w va (M.digs Bp X)) (rb:Rd w vb (M.digs Bp Y)) (hX:X≤N) (hY:Y≤N) (hN:(M.digs Bp N).length≤50000) :
  Calls Tryz.prog 159 #[va,vb] w fun e w'=>∃ v,e=.returned v∧Rd w' v (M.digs Bp (Nat.gcd X Y))∧Below w.heap.size w w':=by
 by_cases hX0:X=0
 ·subst hX0
  rw [Nat.gcd_zero_left]
  have rb':=Ba rb
  rw [M.digs_zero] at ra
  obtain ⟨a,ca,rfl,-,-⟩:=ra
  obtain ⟨b,cb,rfl,-,-⟩:=rb
  simp only [List.length_nil]
  go_enter Tryz.func159,Tryz.ntmps159
  go_wp2
  go_ret
  exact ⟨_,rfl,rb'.out,Jg _ _⟩
 ·by_cases hY0:Y=0
  ·subst hY0
   rw [Nat.gcd_zero_right]
   have ra':=Ba ra
   have l0:=Vm (show 0<X by omega)
   rw [M.digs_zero] at rb
   obtain ⟨a,ca,rfl,-,-⟩:=ra
   obtain ⟨b,cb,rfl,-,-⟩:=rb
   simp only [List.length_nil]
   generalize hl:(M.digs Bp X).length=n at *
   go_enter Tryz.func159,Tryz.ntmps159
   go_wp2
   go_ret
   exact ⟨_,rfl,ra'.out,Jg _ _⟩
  ·obtain ⟨b0,o0,n0,c0,x0,rfl,hn0,-,-,-⟩:=id (ra.low (by omega))
   obtain ⟨b1,o1,n1,c1,x1,rfl,hn1,-,-,-⟩:=id (rb.low (by omega))
   have RA:=Ba ra
   have RB:=Ba rb
   have z0:((n0:Int) == 0)=false:=by simp;omega
   have z1:((n1:Int) == 0)=false:=by simp;omega
   clear ra rb
   go_enter Tryz.func159,Tryz.ntmps159
   go_wp2
   go_loopw [0,1,5] (fun va vb vt wr=>∃ A B t:Nat,vt=.int .i64 (t:Nat)∧GS X Y N w wr va vb A B t∧0<A) (fun va _ _ wr=>Ta Bp va wr)
   case atStart=>exact ⟨X,Y,0,rfl,⟨RA.out,RB.out,by omega,hX,hY,by simpa using hY,by simp,Below.refl _ _⟩,by omega⟩
   case round =>
    obtain ⟨A,B,t,rfl,gs,hA0⟩:=hrel
    clear RA RB hn0 hn1 hX hY
    obtain ⟨ba,oa,na,ca,xa,rfl,hna,hla,qa,pa⟩:=id (gs.ra.low hA0)
    obtain ⟨bb,ob,nb,cb,xb,rfl,hnb,hlb,qb,pb⟩:=id (gs.rb.low gs.b0)
    have MA:=Ba (C3 Bl gs.ra)
    have G:=Ba gs
    have hna1:(0:Int)<(na:Nat):=by omega
    have hnb1:(0:Int)<(nb:Nat):=by omega
    have ht2:(t:Int)<1600000:=by
     have:=Bmj (t:=t) (Jf (Nat.le_mul_of_pos_right _ gs.b0) gs.ht) (Kt N)
     omega
    by_cases hA1:A % 2=1
    ·have odd:Hid (A % 2=1∨B % 2=1):=Or.inl hA1
     have ex:(xa:Int) % 2=1:=by omega
     go_wp2
     have T0:Hid (GS X Y N w wr (Value.slice (some ⟨ba,oa,none⟩) na ca) (Value.slice (some ⟨bb,ob,none⟩) nb cb) A B t):=G
     have HT2:=Ba ht2
     clear G MA gs qa qb pa pb ex ht2
     try clear ey
     go_loopw [0,1] (fun va vb wr=>∃ A B:Nat,GS X Y N w wr va vb A B t∧(A % 2=1∨B % 2=1)) (fun va vb wr=>Ta Bp va wr+Ta Bp vb wr)
     case atStart=>exact ⟨A,B,T0.out,odd.out⟩
     case round =>
      clear T0 odd
      obtain ⟨A2,B2,gs,od⟩:=hrel
      have MA:=Ba (C3 Bl gs.ra)
      have MB:=Ba (C3 Bl gs.rb)
      have G:=Ba gs
      have OD:=Ba od
      clear od
      by_cases hA2:A2=0
      ·obtain ⟨a2,c2,hv,-,-⟩:=id gs.ra
       rw [hA2,M.digs_zero] at hv
       subst hv
       have GC:Hid (Nat.gcd X Y=2 ^ t*B2):=by
        have:=gs.gcd
        rw [hA2,Nat.gcd_zero_left] at this
        exact this
       simp only [List.length_nil] at *
       clear gs
       go_wp2
       go_loopw [1,7] (fun vb vi wr=>∃ i:Nat,i≤t∧vi=.int .i64 (i:Nat)∧Rd wr vb (M.digs Bp (2 ^ i*B2))∧Below w.heap.size w wr) (fun _ vi _=>t - (intOf vi).toNat)
       case atStart=>exact ⟨0,by omega,rfl,by simpa using G.out.rb,G.out.bb⟩
       case round =>
        obtain ⟨i,hi,rfl,ri,bi⟩:=hrel
        have RI:=Ba ri
        by_cases hit:i<t
        ·have hle:2 ^ i*B2≤N:=Jf (Jo B2 (Nat.pow_le_pow_right (by omega) hi)) G.out.ht
         have DB:=Ba (Xf hle (by omega) _ wr ri)
         have iit:(i:Int)<(t:Nat):=by omega
         have ht2:=HT2.out
         clear ri hle
         go_wp2_with fail
         refine (DB.out).mono ?_
         rintro e w4 ⟨v4,rfl,r4,b4⟩
         rw [← Nat.mul_assoc,← Nat.pow_succ'] at r4
         go_wp2
         exact ⟨⟨i+1,by omega,by go_num,r4,Ia bi b4⟩,by simp only [intOf];omega⟩
        ·have hie:i=t:=by omega
         have iit:¬ (i:Int)<(t:Nat):=by omega
         have ri2:=ri
         rw [hie,← GC.out] at ri2
         have RI2:=Ba ri2
         clear ri RI ri2
         go_wp2
         go_ret
         exact ⟨_,rfl,RI2.out,bi⟩
      ·obtain ⟨b2,o2,n2,c2,x2,hv,hn2,hl2,q2,p2⟩:=id (gs.ra.low (by omega))
       have hv':=Ba hv
       rw [hv] at MA
       have hn21:(0:Int)<(n2:Nat):=by omega
       have hn22:((n2:Int) == 0)=false:=by simp;omega
       clear gs q2 p2
       rw [hv]
       go_wp2
       go_loopw [0] (fun va wr=>∃ A3:Nat,GS X Y N w wr va u1 A3 B2 t∧0<A3∧A3≤A2∧(A3 % 2=1∨B2 % 2=1)) (fun va wr=>Ta Bp va wr)
       case atStart=>exact ⟨A2,by rw [← hv'.out];exact G.out,by omega,Jb _,OD.out⟩
       case round =>
        clear hv hv'
        obtain ⟨A3,g3,hA3,lA3,od3⟩:=hrel
        obtain ⟨b3,o3,n3,c3,x3,hv3,hn3,hl3,q3,p3⟩:=id (g3.ra.low hA3)
        have M3:=Ba (C3 Bl g3.ra)
        have G3:=Ba g3
        have hn31:(0:Int)<(n3:Nat):=by omega
        subst hv3
        by_cases hA31:A3 % 2=1
        ·have ex:(x3:Int) % 2=1:=by omega
         have exb:((x3:Int) % 2 == 0)=false:=by rw [ex];rfl
         clear g3
         go_wp2
         clear ex exb q3 p3
         go_loopw [1] (fun vb wr=>∃ B3:Nat,GS X Y N w wr (Value.slice (some ⟨b3,o3,none⟩) n3 c3) vb A3 B3 t∧B3≤B2) (fun vb wr=>Ta Bp vb wr)
         case atStart=>exact ⟨B2,G3.out,Jb _⟩
         case round =>
          clear G3 M3
          obtain ⟨B3,g4,lB3⟩:=hrel
          obtain ⟨b4,o4,n4,c4,x4,hv4,hn4,hl4,q4,p4⟩:=id (g4.rb.low g4.b0)
          have M4:=Ba (C3 Bl g4.rb)
          have G4:=Ba g4
          have hn41:(0:Int)<(n4:Nat):=by omega
          subst hv4
          by_cases hB31:B3 % 2=1
          ·have ex:(x4:Int) % 2=1:=by omega
           have exb:((x4:Int) % 2 == 0)=false:=by rw [ex];rfl
           have CM:=Ba (Xh (K:=(M.digs Bp N).length) hN (Nat.lt_of_le_of_lt g4.ha (Kt N)) _ _ wr g4.ra g4.rb)
           clear g4
           go_wp2_with fail
           clear ex exb q4 p4
           refine (CM.out).mono ?_
           rintro e w5 ⟨rfl,b5⟩
           have rA:=G4.out.ra.b b5
           have rB:=G4.out.rb.b b5
           by_cases hlt:A3<B3
           ·have hc:Er A3 B3<0:=by rw [Kw hlt];decide
            have SB:=Ba (Nm (K:=(M.digs Bp N).length) hN (Nat.lt_of_le_of_lt G4.out.hb (Kt N)) (Nat.le_of_lt hlt) _ _ w5 rB rA)
            generalize Er A3 B3=cc at *
            clear CM
            go_wp2_with fail
            refine (SB.out).mono ?_
            rintro e w6 ⟨v6,rfl,r6,b6⟩
            go_wp2
            refine ⟨⟨B3 - A3,A3,⟨r6,rA.b b6,hA3,by have:=G4.out.hb;omega,G4.out.ha,Jf (Nat.mul_le_mul_left _ (Nat.le_of_lt hlt)) G4.out.ht,?_,Ia (Ia G4.out.bb b5) b6⟩,Or.inr hA31⟩,?_⟩
            ·rw [G4.out.gcd,Nat.gcd_comm (B3 - A3),Nat.gcd_sub_self_right (Nat.le_of_lt hlt)]
            ·rw [MA.out,MB.out,C3 Bl r6,C3 Bl (rA.b b6)]
             omega
           ·have hc:¬ Er A3 B3<0:=by
             rcases Nat.lt_or_ge B3 A3 with h | h
             ·rw [Mf h];decide
             ·rw [Oh (Nat.le_antisymm h (Nat.le_of_not_lt hlt))];decide
            have SB:=Ba (Nm (K:=(M.digs Bp N).length) hN (Nat.lt_of_le_of_lt G4.out.ha (Kt N)) (Nat.le_of_not_lt hlt) _ _ w5 rA rB)
            generalize Er A3 B3=cc at *
            have hc2:decide (cc<0)=false:=decide_eq_false hc
            clear CM hN
            go_wp2_with fail
            refine (SB.out).mono ?_
            rintro e w6 ⟨v6,rfl,r6,b6⟩
            go_wp2
            refine ⟨⟨A3 - B3,B3,⟨r6,rB.b b6,G4.out.b0,by have:=G4.out.ha;omega,G4.out.hb,G4.out.ht,?_,Ia (Ia G4.out.bb b5) b6⟩,Or.inr hB31⟩,?_⟩
            ·rw [G4.out.gcd,Nat.gcd_comm (A3 - B3),Nat.gcd_sub_self_right (Nat.le_of_not_lt hlt),Nat.gcd_comm]
            ·rw [MA.out,MB.out,C3 Bl r6,C3 Bl (rB.b b6)]
             have:=G4.out.b0
             omega
          ·have ex:(x4:Int) % 2=0:=by omega
           have HB:=Ba (Gp g4.hb (by omega) _ wr g4.rb)
           clear g4
           go_wp2_with fail
           clear ex q4 p4
           refine (HB.out).mono ?_
           rintro e w5 ⟨v5,z5,rfl,r5,b5⟩
           go_wp2
           have eB:B3=2 ^ 1*(B3 / 2):=by omega
           have b0':=G4.out.b0
           refine ⟨⟨B3 / 2,⟨G4.out.ra.b b5,r5,by omega,G4.out.ha,by have:=G4.out.hb;omega,Jf (Nat.mul_le_mul_left _ (Nat.div_le_self _ _)) G4.out.ht,?_,Ia G4.out.bb b5⟩,by omega⟩,?_⟩
           ·have:=G4.out.gcd
            rw [eB,M.gcd_odd_right hA31] at this
            exact this
           ·rw [M4.out,C3 Bl r5]
            omega
        ·have ex:(x3:Int) % 2=0:=by omega
         have HA:=Ba (Gp g3.ha (by omega) _ wr g3.ra)
         clear g3
         go_wp2_with fail
         clear ex q3 p3
         refine (HA.out).mono ?_
         rintro e w4 ⟨v4,z4,rfl,r4,b4⟩
         go_wp2
         have eA:A3=2 ^ 1*(A3 / 2):=by omega
         have hB21:B2 % 2=1:=by omega
         refine ⟨⟨A3 / 2,⟨r4,G3.out.rb.b b4,G3.out.b0,by have:=G3.out.ha;omega,G3.out.hb,G3.out.ht,?_,Ia G3.out.bb b4⟩,by omega,by omega,Or.inr hB21⟩,?_⟩
         ·have:=G3.out.gcd
          rw [eA,M.gcd_odd_left hB21] at this
          exact this
         ·rw [M3.out,C3 Bl r4]
          omega
    ·by_cases hB1:B % 2=1
     ·have odd:Hid (A % 2=1∨B % 2=1):=Or.inr hB1
      have ex:(xa:Int) % 2=0:=by omega
      have ey:(xb:Int) % 2=1:=by omega
      go_wp2
      have T0:Hid (GS X Y N w wr (Value.slice (some ⟨ba,oa,none⟩) na ca) (Value.slice (some ⟨bb,ob,none⟩) nb cb) A B t):=G
      have HT2:=Ba ht2
      clear G MA gs qa qb pa pb ex ht2
      try clear ey
      go_loopw [0,1] (fun va vb wr=>∃ A B:Nat,GS X Y N w wr va vb A B t∧(A % 2=1∨B % 2=1)) (fun va vb wr=>Ta Bp va wr+Ta Bp vb wr)
      case atStart=>exact ⟨A,B,T0.out,odd.out⟩
      case round =>
       clear T0 odd
       obtain ⟨A2,B2,gs,od⟩:=hrel
       have MA:=Ba (C3 Bl gs.ra)
       have MB:=Ba (C3 Bl gs.rb)
       have G:=Ba gs
       have OD:=Ba od
       clear od
       by_cases hA2:A2=0
       ·obtain ⟨a2,c2,hv,-,-⟩:=id gs.ra
        rw [hA2,M.digs_zero] at hv
        subst hv
        have GC:Hid (Nat.gcd X Y=2 ^ t*B2):=by
         have:=gs.gcd
         rw [hA2,Nat.gcd_zero_left] at this
         exact this
        simp only [List.length_nil] at *
        clear gs
        go_wp2
        go_loopw [1,7] (fun vb vi wr=>∃ i:Nat,i≤t∧vi=.int .i64 (i:Nat)∧Rd wr vb (M.digs Bp (2 ^ i*B2))∧Below w.heap.size w wr) (fun _ vi _=>t - (intOf vi).toNat)
        case atStart=>exact ⟨0,by omega,rfl,by simpa using G.out.rb,G.out.bb⟩
        case round =>
         obtain ⟨i,hi,rfl,ri,bi⟩:=hrel
         have RI:=Ba ri
         by_cases hit:i<t
         ·have hle:2 ^ i*B2≤N:=Jf (Jo B2 (Nat.pow_le_pow_right (by omega) hi)) G.out.ht
          have DB:=Ba (Xf hle (by omega) _ wr ri)
          have iit:(i:Int)<(t:Nat):=by omega
          have ht2:=HT2.out
          clear ri hle
          go_wp2_with fail
          refine (DB.out).mono ?_
          rintro e w4 ⟨v4,rfl,r4,b4⟩
          rw [← Nat.mul_assoc,← Nat.pow_succ'] at r4
          go_wp2
          exact ⟨⟨i+1,by omega,by go_num,r4,Ia bi b4⟩,by simp only [intOf];omega⟩
         ·have hie:i=t:=by omega
          have iit:¬ (i:Int)<(t:Nat):=by omega
          have ri2:=ri
          rw [hie,← GC.out] at ri2
          have RI2:=Ba ri2
          clear ri RI ri2
          go_wp2
          go_ret
          exact ⟨_,rfl,RI2.out,bi⟩
       ·obtain ⟨b2,o2,n2,c2,x2,hv,hn2,hl2,q2,p2⟩:=id (gs.ra.low (by omega))
        have hv':=Ba hv
        rw [hv] at MA
        have hn21:(0:Int)<(n2:Nat):=by omega
        have hn22:((n2:Int) == 0)=false:=by simp;omega
        clear gs q2 p2
        rw [hv]
        go_wp2
        go_loopw [0] (fun va wr=>∃ A3:Nat,GS X Y N w wr va u1 A3 B2 t∧0<A3∧A3≤A2∧(A3 % 2=1∨B2 % 2=1)) (fun va wr=>Ta Bp va wr)
        case atStart=>exact ⟨A2,by rw [← hv'.out];exact G.out,by omega,Jb _,OD.out⟩
        case round =>
         clear hv hv'
         obtain ⟨A3,g3,hA3,lA3,od3⟩:=hrel
         obtain ⟨b3,o3,n3,c3,x3,hv3,hn3,hl3,q3,p3⟩:=id (g3.ra.low hA3)
         have M3:=Ba (C3 Bl g3.ra)
         have G3:=Ba g3
         have hn31:(0:Int)<(n3:Nat):=by omega
         subst hv3
         by_cases hA31:A3 % 2=1
         ·have ex:(x3:Int) % 2=1:=by omega
          have exb:((x3:Int) % 2 == 0)=false:=by rw [ex];rfl
          clear g3
          go_wp2
          clear ex exb q3 p3
          go_loopw [1] (fun vb wr=>∃ B3:Nat,GS X Y N w wr (Value.slice (some ⟨b3,o3,none⟩) n3 c3) vb A3 B3 t∧B3≤B2) (fun vb wr=>Ta Bp vb wr)
          case atStart=>exact ⟨B2,G3.out,Jb _⟩
          case round =>
           clear G3 M3
           obtain ⟨B3,g4,lB3⟩:=hrel
           obtain ⟨b4,o4,n4,c4,x4,hv4,hn4,hl4,q4,p4⟩:=id (g4.rb.low g4.b0)
           have M4:=Ba (C3 Bl g4.rb)
           have G4:=Ba g4
           have hn41:(0:Int)<(n4:Nat):=by omega
           subst hv4
           by_cases hB31:B3 % 2=1
           ·have ex:(x4:Int) % 2=1:=by omega
            have exb:((x4:Int) % 2 == 0)=false:=by rw [ex];rfl
            have CM:=Ba (Xh (K:=(M.digs Bp N).length) hN (Nat.lt_of_le_of_lt g4.ha (Kt N)) _ _ wr g4.ra g4.rb)
            clear g4
            go_wp2_with fail
            clear ex exb q4 p4
            refine (CM.out).mono ?_
            rintro e w5 ⟨rfl,b5⟩
            have rA:=G4.out.ra.b b5
            have rB:=G4.out.rb.b b5
            by_cases hlt:A3<B3
            ·have hc:Er A3 B3<0:=by rw [Kw hlt];decide
             have SB:=Ba (Nm (K:=(M.digs Bp N).length) hN (Nat.lt_of_le_of_lt G4.out.hb (Kt N)) (Nat.le_of_lt hlt) _ _ w5 rB rA)
             generalize Er A3 B3=cc at *
             clear CM
             go_wp2_with fail
             refine (SB.out).mono ?_
             rintro e w6 ⟨v6,rfl,r6,b6⟩
             go_wp2
             refine ⟨⟨B3 - A3,A3,⟨r6,rA.b b6,hA3,by have:=G4.out.hb;omega,G4.out.ha,Jf (Nat.mul_le_mul_left _ (Nat.le_of_lt hlt)) G4.out.ht,?_,Ia (Ia G4.out.bb b5) b6⟩,Or.inr hA31⟩,?_⟩
             ·rw [G4.out.gcd,Nat.gcd_comm (B3 - A3),Nat.gcd_sub_self_right (Nat.le_of_lt hlt)]
             ·rw [MA.out,MB.out,C3 Bl r6,C3 Bl (rA.b b6)]
              omega
            ·have hc:¬ Er A3 B3<0:=by
              rcases Nat.lt_or_ge B3 A3 with h | h
              ·rw [Mf h];decide
              ·rw [Oh (Nat.le_antisymm h (Nat.le_of_not_lt hlt))];decide
             have SB:=Ba (Nm (K:=(M.digs Bp N).length) hN (Nat.lt_of_le_of_lt G4.out.ha (Kt N)) (Nat.le_of_not_lt hlt) _ _ w5 rA rB)
             generalize Er A3 B3=cc at *
             have hc2:decide (cc<0)=false:=decide_eq_false hc
             clear CM hN
             go_wp2_with fail
             refine (SB.out).mono ?_
             rintro e w6 ⟨v6,rfl,r6,b6⟩
             go_wp2
             refine ⟨⟨A3 - B3,B3,⟨r6,rB.b b6,G4.out.b0,by have:=G4.out.ha;omega,G4.out.hb,G4.out.ht,?_,Ia (Ia G4.out.bb b5) b6⟩,Or.inr hB31⟩,?_⟩
             ·rw [G4.out.gcd,Nat.gcd_comm (A3 - B3),Nat.gcd_sub_self_right (Nat.le_of_not_lt hlt),Nat.gcd_comm]
             ·rw [MA.out,MB.out,C3 Bl r6,C3 Bl (rB.b b6)]
              have:=G4.out.b0
              omega
           ·have ex:(x4:Int) % 2=0:=by omega
            have HB:=Ba (Gp g4.hb (by omega) _ wr g4.rb)
            clear g4
            go_wp2_with fail
            clear ex q4 p4
            refine (HB.out).mono ?_
            rintro e w5 ⟨v5,z5,rfl,r5,b5⟩
            go_wp2
            have eB:B3=2 ^ 1*(B3 / 2):=by omega
            have b0':=G4.out.b0
            refine ⟨⟨B3 / 2,⟨G4.out.ra.b b5,r5,by omega,G4.out.ha,by have:=G4.out.hb;omega,Jf (Nat.mul_le_mul_left _ (Nat.div_le_self _ _)) G4.out.ht,?_,Ia G4.out.bb b5⟩,by omega⟩,?_⟩
            ·have:=G4.out.gcd
             rw [eB,M.gcd_odd_right hA31] at this
             exact this
            ·rw [M4.out,C3 Bl r5]
             omega
         ·have ex:(x3:Int) % 2=0:=by omega
          have HA:=Ba (Gp g3.ha (by omega) _ wr g3.ra)
          clear g3
          go_wp2_with fail
          clear ex q3 p3
          refine (HA.out).mono ?_
          rintro e w4 ⟨v4,z4,rfl,r4,b4⟩
          go_wp2
          have eA:A3=2 ^ 1*(A3 / 2):=by omega
          have hB21:B2 % 2=1:=by omega
          refine ⟨⟨A3 / 2,⟨r4,G3.out.rb.b b4,G3.out.b0,by have:=G3.out.ha;omega,G3.out.hb,G3.out.ht,?_,Ia G3.out.bb b4⟩,by omega,by omega,Or.inr hB21⟩,?_⟩
          ·have:=G3.out.gcd
           rw [eA,M.gcd_odd_left hB21] at this
           exact this
          ·rw [M3.out,C3 Bl r4]
           omega
     ·have ex:(xa:Int) % 2=0:=by omega
      have ey:(xb:Int) % 2=0:=by omega
      have HA:=Ba (Gp gs.ha (by omega) _ wr gs.ra)
      go_wp2_with fail
      refine (HA.out).mono ?_
      rintro e w2 ⟨v2,c2,rfl,r2,b2⟩
      have HB:=Ba (Gp G.out.hb (by omega) _ w2 (G.out.rb.b b2))
      obtain ⟨av2,cv2,rfl,-,-⟩:=id r2
      go_wp2_with fail
      refine (HB.out).mono ?_
      rintro e w3 ⟨v3,c3,rfl,r3,b3⟩
      obtain ⟨av3,cv3,rfl,-,-⟩:=id r3
      go_wp2
      have eA:A=2*(A / 2):=by omega
      have eB:B=2*(B / 2):=by omega
      refine ⟨⟨A / 2,B / 2,t+1,by go_num,⟨r2.b b3,r3,by have:=G.out.b0;omega,by have:=G.out.ha;omega,by have:=G.out.hb;omega,?_,?_,Ia (Ia G.out.bb b2) b3⟩,by omega⟩,?_⟩
      ·have:=G.out.ht
       rw [eB] at this
       rw [Nat.pow_succ,Nat.mul_assoc]
       exact this
      ·have:=G.out.gcd
       rw [eA,eB,Nat.gcd_mul_left] at this
       rw [this,Nat.pow_succ,Nat.mul_assoc]
      ·rw [MA.out,C3 Bl (r2.b b3)]
       omega
theorem Bob {s0 s1:ByteArray} {K:Nat} (hK:K≤50000) (h0:s0.size≤4*K) (h1:s1.size≤4*K) (v0 v1:Value) (w:World) (r0:Rd w v0 (M.digs Bp (Bc s0))) (r1:Rd w v1 (M.digs Bp (Bc s1))) :
  Calls Tryz.prog 159 #[v0,v1] w fun e w'=>∃ v,e=.returned v∧Rd w' v (M.digs Bp (Nat.gcd (Bc s0) (Bc s1)))∧Below w.heap.size w w' :=
 Bf7 _ _ (max (Bc s0) (Bc s1)) v0 v1 w r0 r1 (by omega) (by omega) (Jf (M.digs_len_of_lt Bl (Nat.max_lt.2 ⟨Fc K h0,Fc K h1⟩)) hK)
theorem Bm8 {s0 s1:ByteArray} {K:Nat} (hK:K≤100000) (h0:s0.size≤4*K) (h1:s1.size≤4*K) (v:Value) (w:World) (h:Rd w v (M.digs Bp (Nat.gcd (Bc s0) (Bc s1)))) :
  Calls Tryz.prog 115 #[Iz false,v] w (Re w (zI ((Nat.gcd (Bc s0) (Bc s1):Nat):Int))):=by
 have hl:Nat.gcd (Bc s0) (Bc s1)<Bp ^ K:=by
  have a:=Fc K h0
  have b:=Fc K h1
  have c:Nat.gcd (Bc s0) (Bc s1)≤max (Bc s0) (Bc s1):=by
   rcases Nat.eq_zero_or_pos (Bc s0) with e | e
   ·rw [e,Nat.gcd_zero_left];omega
   ·have:=Nat.le_of_dvd e (Nat.gcd_dvd_left (Bc s0) (Bc s1));omega
  generalize Bp ^ K=P at *
  omega
 exact O8 false (V:=Nat.gcd (Bc s0) (Bc s1)) (K:=K) hK hl v w h
theorem Pp (n0 n1:Bool) (s0 s1:ByteArray) (w:World) (z0:s0.size≤40000) (z1:s1.size≤40000) :
  Calls Tryz.prog 110 #[.agg #[Iz n0,I s0],.agg #[Iz n1,I s1]] w (Re w (zI ((Nat.gcd (Bc s0) (Bc s1):Nat):Int))):=by
 have HM:=Ba (fun v0 v1 w r0 r1=>Bob (s0:=s0) (s1:=s1) (K:=10000) (by omega) (by omega) (by omega) v0 v1 w r0 r1)
 have HK:=Ba (fun v w h=>Bm8 (s0:=s0) (s1:=s1) (K:=10000) (by omega) (by omega) (by omega) v w h)
 generalize hR:zI ((Nat.gcd (Bc s0) (Bc s1):Nat):Int)=R at *
 obtain ⟨za,zb,rfl⟩:∃ a b,R=.agg #[Iz a,I b]:=⟨_,_,hR.symm⟩
 clear hR
 go_enter Tryz.func110,Tryz.ntmps110
 go_wp2
 obtain ⟨w0,hw0,k0,k1,k2,bb⟩:=rb3 w (Iz n0) (I s0) (Iz n1) (I s1)
 rw [← hw0]
 clear hw0
 obtain ⟨a0,a1⟩:=Dc k0
 obtain ⟨a2,a3⟩:=Dc k1
 go_region_held3 (fun w'=>Sr w' w.heap.size (Iz n0) (I s0)∧Sr w' (w.heap.size+1) (Iz n1) (I s1)) (first | exact ⟨Dc k0,Dc k1⟩ | exact ⟨Dc ((k0.t (by omega) _ _).t (by omega) _ _),Dc ((k1.t (by omega) _ _).t (by omega) _ _)⟩) (first | (go_at_call 115;refine (HK.out _ w3 rv).mono ?_;rintro e w4 ⟨rfl,b4⟩;replace k0:=k0.b b4;replace k1:=k1.b b4;have q2:=k2.b b4;have e0:=C7 q2;have e1:=Oj q2;have f0:=q2.o 0;have f1:=q2.o 1;replace bb:=Ia bb b4) | (go_at_call 159;refine (HM.out _ _ w2 rx ry).mono ?_;rintro e w3 ⟨v,rfl,rv,b3⟩;obtain ⟨av,cv,rfl,-,-⟩:=id rv;replace k0:=k0.b b3;replace k1:=k1.b b3;replace k2:=k2.b b3;replace bb:=Ia bb b3;have g0:=C7 k0;have g2:=C7 k1) | (go_at_call 113;have _x:=rx;refine (F8 _ _ z1).mono ?_;rintro e w2 ⟨vy,rfl,ry,b2⟩;obtain ⟨ay,cy,rfl,-,-⟩:=id ry;replace rx:=rx.b b2;replace k0:=k0.b b2;replace k1:=k1.b b2;replace k2:=k2.b b2;replace bb:=Ia bb b2;have h0:=C7 k0;have h2:=C7 k1) | (go_at_call 113;refine (F8 _ _ z0).mono ?_;rintro e w1 ⟨vx,rfl,rx,b1⟩;obtain ⟨ax,cx,rfl,-,-⟩:=id rx;replace k0:=k0.b (un b1);replace k1:=k1.b (un b1);replace k2:=k2.b (un b1);replace bb:=Ia bb (un b1);have i0:=C7 k0;have i2:=C7 k1;have i3:=Oj k1))
 all_goals try go_wp2
 all_goals exact Ei (p:=4) (by kernel_rfl) rfl rfl ((q2.set 0 _).set 1 _) ⟨rfl,(bb.setCell (by simp;omega) _).setCell (by simp;omega) _⟩
theorem Dx {s:ByteArray} (k:Nat) (h:s.size≤8*k):Bc s<Bb ^ k:=Jl (Gd s) (by rw [Qx];exact Nat.pow_le_pow_right (by omega) h)
theorem Bnp (w:World) (x0 x1 y0 y1:Value):∃ w0,w0=(((w.alloc (.cells #[x0,x1] 24)).alloc (.cells #[y0,y1] 24)).alloc (.cells #[Iz false,.string { data:=#[] }] 24)).alloc (.cells #[x0,x1,y0,y1] 24) ∧
  Bi w0 w.heap.size [x0,x1] 24∧Bi w0 (w.heap.size+1) [y0,y1] 24∧Bi w0 (w.heap.size+1+1) [Iz false,.string { data:=#[] }] 24∧Bi w0 (w.heap.size+1+1+1) [x0,x1,y0,y1] 24∧Below w.heap.size w w0:=by
 refine ⟨_,rfl,(((Bi.new w [x0,x1] 24).alloc _).alloc _).alloc _,?_,?_,?_,by go_grown⟩
 ·have:=((Bi.new (w.alloc (.cells #[x0,x1] 24)) [y0,y1] 24).alloc (.cells #[Iz false,.string { data:=#[] }] 24)).alloc (.cells #[x0,x1,y0,y1] 24)
  simpa using this
 ·have:=(Bi.new ((w.alloc (.cells #[x0,x1] 24)).alloc (.cells #[y0,y1] 24)) [Iz false,.string { data:=#[] }] 24).alloc (.cells #[x0,x1,y0,y1] 24)
  simpa using this
 ·have:=Bi.new (((w.alloc (.cells #[x0,x1] 24)).alloc (.cells #[y0,y1] 24)).alloc (.cells #[Iz false,.string { data:=#[] }] 24)) [x0,x1,y0,y1] 24
  simpa using this
theorem To (neg:Bool) (s:ByteArray):Fk neg (Bc s)=Eg neg s:=rfl
theorem Yw (n0 n1:Bool) (s0 s1:ByteArray) (w:World) (o0:Hc n0 s0) (o1:Hc n1 s1) (z0:s0.size≤16000) (z1:s1.size≤16000) (hY:0<Bc s1) (hp:n0=false∨(M.digs Bb (Bc s0 % Bc s1)).length=0) :
  Calls Tryz.prog 125 #[.agg #[Iz n0,I s0],.agg #[Iz n1,I s1]] w (Re w (.tuple #[zI (Fk (n0 != n1) (Bc s0 / Bc s1)),zI (Fk false (Bc s0 % Bc s1)),.int .i64 0])):=by
 have HM:=Ba (fun v0 v1 wx r0 r1=>Sf (X:=Bc s0) (Y:=Bc s1) (K:=2000) hY (by omega) (Dx 2000 (by omega)) (Dx 2000 (by omega)) v0 v1 wx r0 r1)
 have HQ:=Ba (fun v wx hr=>Hy (n0 != n1) (K:=2000) (V:=Bc s0 / Bc s1) (by omega) (Nat.lt_of_le_of_lt (Nat.div_le_self _ _) (Dx 2000 (by omega))) v wx hr)
 have HR:=Ba (fun v wx hr=>Hy false (K:=2000) (V:=Bc s0 % Bc s1) (by omega) (Nat.lt_of_le_of_lt (Nat.mod_le _ _) (Dx 2000 (by omega))) v wx hr)
 have HP:=Ba hp
 clear hp hY
 generalize hR1:zI (Fk (n0 != n1) (Bc s0 / Bc s1))=R1 at *
 generalize hR2:zI (Fk false (Bc s0 % Bc s1))=R2 at *
 obtain ⟨za,zb,rfl⟩:∃ a b,R1=.agg #[Iz a,I b]:=⟨_,_,hR1.symm⟩
 obtain ⟨zc,zd,rfl⟩:∃ a b,R2=.agg #[Iz a,I b]:=⟨_,_,hR2.symm⟩
 clear hR1 hR2
 go_enter Tryz.func125,Tryz.ntmps125
 go_wp2_with fail
 obtain ⟨w0,hw0,k0,k1,k2,k4,k3,hb0⟩:=Bie w (Iz n0) (I s0) (Iz n1) (I s1)
 rw [← hw0]
 clear hw0
 refine (Xc _ n0 n1 s0 s1 w0 k3 o0 o1 (by omega) (by omega)).mono ?_
 rintro e w1 ⟨g,v0,v1,rfl,kg,r0,r1,hg,hb⟩
 have c0:=kg.cell 0
 have c1:=kg.cell 1
 have c2:=kg.cell 2
 have c3:=kg.cell 3
 simp only [Jn,Jm] at c0 c1 c2 c3
 have m0:=k0.b hb
 have m1:=k1.b hb
 have m2:=k2.b hb
 have m4:=k4.b hb
 have bb:=Ia hb0 hb
 have H31:=Ba (HM.out v0 v1 w1.drew (show Rd w1 _ _ from r0.rd) (show Rd w1 _ _ from r1.rd))
 clear HM k0 k1 k2 k3 k4 kg
 obtain ⟨a0,p0,rfl,-,-⟩:=id r0
 obtain ⟨a1,p1,rfl,-,-⟩:=id r1
 go_wp2
 go_region_held3 (fun w'=>w'.cell? ⟨g,1,none⟩=some (.slice a0 (M.digs Bb (Bc s0)).length p0)∧w'.cell? ⟨g,3,none⟩=some (.slice a1 (M.digs Bb (Bc s1)).length p1)) (first | exact ⟨c1,c3⟩ | exact ⟨Bh c1 b31,Bh c3 b31⟩) (first | (go_at_call 173;refine (H31.out).mono ?_;rintro e w2 ⟨vq,vr,rfl,rq,rr,b31'⟩;have b31:Below w1.heap.size w1 w2:=⟨b31'.os,b31'.tape,b31'.output,b31'.size,b31'.block⟩;obtain ⟨aq,cq,rfl,-,-⟩:=id rq;obtain ⟨ar,cr,rfl,-,-⟩:=id rr))
 have q0:=m0.b b31
 have q1:=m1.b b31
 have q2:=m2.b b31
 have q4:=m4.b b31
 have bb2:=Ia bb b31
 have d0:=Pd q0
 have d1:=Pd q1
 clear m0 m1 m2 m4 c0 c1 c2 c3 r0 r1 H31
 have hQ:=HQ.out _ _ rq
 rcases HP.out with rfl | hp
 ·rw [Bool.false_bne] at hQ
  clear HQ HP
  go_wp2_with fail
  refine hQ.mono ?_
  rintro e w4 ⟨rfl,hb4⟩
  go_wp2_with fail
  refine (HR.out _ _ (rr.b hb4)).mono ?_
  rintro e w5 ⟨rfl,hb5⟩
  have bb5:=Ia hb4 hb5
  have p2:=q2.b bb5
  have p4:=q4.b bb5
  have bbb:=Ia bb2 bb5
  obtain ⟨e0,e1⟩:=Dc p2
  have f0:=p2.o 0
  have f1:=p2.o 1
  obtain ⟨e2,e3⟩:=Dc p4
  have f2:=p4.o 0
  have f3:=p4.o 1
  go_wp2
  exact Ru (p:=4) (q:=5) (u:=6) (by kernel_rfl) rfl rfl rfl rfl ((((p2.set 0 _).set 1 _).t (by omega) _ _).t (by omega) _ _) ((((p4.t (by omega) _ _).t (by omega) _ _).set 0 _).set 1 _) ⟨rfl,(((bbb.setCell (by simp;omega) _).setCell (by simp;omega) _).setCell (by simp;omega) _).setCell (by simp;omega) _⟩
 ·rw [hp] at rr
  clear HP HQ
  cases n0 <;>
  ·first | rw [Bool.false_bne] at hQ | rw [Bool.true_bne] at hQ
   go_wp2_with fail
   refine hQ.mono ?_
   rintro e w4 ⟨rfl,hb4⟩
   go_wp2_with fail
   refine (HR.out _ _ (rr.b hb4)).mono ?_
   rintro e w5 ⟨rfl,hb5⟩
   have bb5:=Ia hb4 hb5
   have p2:=q2.b bb5
   have p4:=q4.b bb5
   have bbb:=Ia bb2 bb5
   obtain ⟨e0,e1⟩:=Dc p2
   have f0:=p2.o 0
   have f1:=p2.o 1
   obtain ⟨e2,e3⟩:=Dc p4
   have f2:=p4.o 0
   have f3:=p4.o 1
   go_wp2
   exact Ru (p:=4) (q:=5) (u:=6) (by kernel_rfl) rfl rfl rfl rfl ((((p2.set 0 _).set 1 _).t (by omega) _ _).t (by omega) _ _) ((((p4.t (by omega) _ _).t (by omega) _ _).set 0 _).set 1 _) ⟨rfl,(((bbb.setCell (by simp;omega) _).setCell (by simp;omega) _).setCell (by simp;omega) _).setCell (by simp;omega) _⟩
theorem Blo {V K:Nat} (hK:K≤4000) (hV:V<Bb ^ K) (v0 v1:Value) (wx:World) (r0:Rd wx v0 (M.digs Bb V)) (r1:Rd wx v1 [1]) :
  Calls Tryz.prog 127 #[v0,v1] wx fun e w'=>∃ v,e=.returned (.tuple #[v,.int .i64 0])∧Rd w' v (M.digs Bb (V+1))∧Below wx.heap.size wx w':=by
 have:=Bcz v0 v1 _ _ wx r0 r1 (M.Low.digs Be _) (Ez (by simp;unfold Bb;omega)) (Nat.le_trans (M.digs_len_of_lt Be hV) hK) (by simp)
 rwa [M.val_digs Be,show M.val Bb [1]=1 from by rw [M.val_cons,M.val_nil];omega] at this
theorem Bi8 {X Y K:Nat} (hK:K≤4000) (hx:X<Bb ^ K) (hy:Y<Bb ^ K) (hle:Y≤X) (v0 v1:Value) (wx:World) (r0:Rd wx v0 (M.digs Bb X)) (r1:Rd wx v1 (M.digs Bb Y)) :
  Calls Tryz.prog 128 #[v0,v1] wx fun e w'=>∃ v,e=.returned (.tuple #[v,.int .i64 0])∧Rd w' v (M.digs Bb (X - Y))∧Below wx.heap.size wx w':=by
 have:=Bi9 v0 v1 _ _ wx r0 r1 (M.Low.digs Be _) (M.Low.digs Be _) (Jf (M.digs_len_of_lt Be hx) hK) (Jf (M.digs_len_of_lt Be hy) hK)
 rw [M.val_digs Be,M.val_digs Be] at this
 refine this.mono ?_
 rintro e w' ⟨h,-,hb⟩
 obtain ⟨v,rfl,hr⟩:=h hle
 exact ⟨v,rfl,hr,hb⟩
theorem Bc4 (n1:Bool) (s0 s1:ByteArray) (w:World) (o0:Hc true s0) (o1:Hc n1 s1) (z0:s0.size≤16000) (z1:s1.size≤16000) (hY:0<Bc s1) (hp:0<(M.digs Bb (Bc s0 % Bc s1)).length) :
  Calls Tryz.prog 125 #[.agg #[Iz true,I s0],.agg #[Iz n1,I s1]] w (Re w (.tuple #[zI (Fk (!n1) (Bc s0 / Bc s1+1)),zI (Fk false (Bc s1 - Bc s0 % Bc s1)),.int .i64 0])):=by
 have HM:=Ba (fun v0 v1 wx r0 r1=>Sf (X:=Bc s0) (Y:=Bc s1) (K:=2000) hY (by omega) (Dx 2000 (by omega)) (Dx 2000 (by omega)) v0 v1 wx r0 r1)
 have HA:=Ba (fun v0 v1 wx r0 r1=>Blo (V:=Bc s0 / Bc s1) (K:=2000) (by omega) (Nat.lt_of_le_of_lt (Nat.div_le_self _ _) (Dx 2000 (by omega))) v0 v1 wx r0 r1)
 have HS:=Ba (fun v0 v1 wx r0 r1=>Bi8 (X:=Bc s1) (Y:=Bc s0 % Bc s1) (K:=2000) (by omega) (Dx 2000 (by omega)) (Nat.lt_of_le_of_lt (Nat.mod_le _ _) (Dx 2000 (by omega))) (Nat.le_of_lt (Nat.mod_lt _ hY)) v0 v1 wx r0 r1)
 have HQ:=Ba (fun v wx hr=>Hy (!n1) (K:=2000+1) (V:=Bc s0 / Bc s1+1) (by omega) (Ww Be (Nat.lt_of_le_of_lt (Nat.div_le_self _ _) (Dx 2000 (by omega)))) v wx hr)
 have HR:=Ba (fun v wx hr=>Hy false (K:=2000) (V:=Bc s1 - Bc s0 % Bc s1) (by omega) (Nat.lt_of_le_of_lt (Nat.sub_le _ _) (Dx 2000 (by omega))) v wx hr)
 have HP:=Ba hp
 clear hp hY
 generalize hR1:zI (Fk (!n1) (Bc s0 / Bc s1+1))=R1 at *
 generalize hR2:zI (Fk false (Bc s1 - Bc s0 % Bc s1))=R2 at *
 obtain ⟨za,zb,rfl⟩:∃ a b,R1=.agg #[Iz a,I b]:=⟨_,_,hR1.symm⟩
 obtain ⟨zc,zd,rfl⟩:∃ a b,R2=.agg #[Iz a,I b]:=⟨_,_,hR2.symm⟩
 clear hR1 hR2
 go_enter Tryz.func125,Tryz.ntmps125
 go_wp2_with fail
 obtain ⟨w0,hw0,k0,k1,k2,k4,k3,hb0⟩:=Bie w (Iz true) (I s0) (Iz n1) (I s1)
 rw [← hw0]
 clear hw0
 refine (Xc _ true n1 s0 s1 w0 k3 o0 o1 (by omega) (by omega)).mono ?_
 rintro e w1 ⟨g,v0,v1,rfl,kg,r0,r1,hg,hb⟩
 have c0:=kg.cell 0
 have c1:=kg.cell 1
 have c2:=kg.cell 2
 have c3:=kg.cell 3
 simp only [Jn,Jm] at c0 c1 c2 c3
 have m0:=k0.b hb
 have m1:=k1.b hb
 have m2:=k2.b hb
 have m4:=k4.b hb
 have bb:=Ia hb0 hb
 have H31:=Ba (HM.out v0 v1 w1.drew (show Rd w1 _ _ from r0.rd) (show Rd w1 _ _ from r1.rd))
 clear HM k0 k1 k2 k3 k4
 obtain ⟨a0,p0,rfl,-,-⟩:=id r0
 obtain ⟨a1,p1,rfl,-,-⟩:=id r1
 go_wp2
 go_region_held3 (fun w'=>w'.cell? ⟨g,1,none⟩=some (.slice a0 (M.digs Bb (Bc s0)).length p0)∧w'.cell? ⟨g,3,none⟩=some (.slice a1 (M.digs Bb (Bc s1)).length p1)) (first | exact ⟨c1,c3⟩ | exact ⟨Bh c1 b31,Bh c3 b31⟩) (first | (go_at_call 173;refine (H31.out).mono ?_;rintro e w2 ⟨vq,vr,rfl,rq,rr,b31'⟩;have b31:Below w1.heap.size w1 w2:=⟨b31'.os,b31'.tape,b31'.output,b31'.size,b31'.block⟩;obtain ⟨aq,cq,rfl,-,-⟩:=id rq;obtain ⟨ar,cr,rfl,-,-⟩:=id rr))
 have q0:=m0.b b31
 have q1:=m1.b b31
 have q2:=m2.b b31
 have q4:=m4.b b31
 have qg:=kg.b b31
 have qr1:=r1.rd.b b31
 have bb2:=Ia bb b31
 have d0:=Pd q0
 clear m0 m1 m2 m4 c0 c1 c2 c3 r0 r1 H31 kg
 have hp:=HP.out
 go_wp2_with fail
 obtain ⟨w3,hw3⟩:∃ w3,w3=w2.alloc (.cells #[.int .u64 1] 170):=⟨_,rfl⟩
 have hb3:Below w2.heap.size w2 w3:=by rw [hw3];exact (Jg _ _).alloc (Jb _) _
 have ro:Rd w3 (.slice (some ⟨w2.heap.size,0,none⟩) 1 1) [1]:=by rw [hw3];exact Yt w2 rfl 1
 rw [← hw3]
 clear hw3
 refine (HA.out _ _ w3 (rq.b hb3) ro).mono ?_
 rintro e w4 ⟨vq',rfl,rq',hb4⟩
 obtain ⟨aq',cq',rfl,-,-⟩:=id rq'
 have bb4:=Ia hb3 hb4
 have g3:=(qg.b bb4).cell 3
 simp only [Jn,Jm] at g3
 go_wp2_with fail
 refine (HS.out _ _ w4 (qr1.b bb4) (rr.b bb4)).mono ?_
 rintro e w5 ⟨vr',rfl,rr',hb5⟩
 obtain ⟨ar',cr',rfl,-,-⟩:=id rr'
 have bb5:=Ia bb4 hb5
 have d0:=Pd (q0.b bb5)
 have d1:=Pd (q1.b bb5)
 have hQ:=HQ.out _ _ (rq'.b hb5)
 go_wp2_with fail
 refine hQ.mono ?_
 rintro e w6 ⟨rfl,hb6⟩
 go_wp2_with fail
 refine (HR.out _ _ (rr'.b hb6)).mono ?_
 rintro e w7 ⟨rfl,hb7⟩
 have bb7:=Ia (Ia bb5 hb6) hb7
 have p2:=q2.b bb7
 have p4:=q4.b bb7
 have bbb:=Ia bb2 bb7
 obtain ⟨e0,e1⟩:=Dc p2
 have f0:=p2.o 0
 have f1:=p2.o 1
 obtain ⟨e2,e3⟩:=Dc p4
 have f2:=p4.o 0
 have f3:=p4.o 1
 go_wp2
 exact Ru (p:=4) (q:=5) (u:=6) (by kernel_rfl) rfl rfl rfl rfl ((((p2.set 0 _).set 1 _).t (by omega) _ _).t (by omega) _ _) ((((p4.t (by omega) _ _).t (by omega) _ _).set 0 _).set 1 _) ⟨rfl,(((bbb.setCell (by simp;omega) _).setCell (by simp;omega) _).setCell (by simp;omega) _).setCell (by simp;omega) _⟩
theorem Biw (n0 n1:Bool) (s0 s1:ByteArray) (w:World) (o0:Hc n0 s0) (o1:Hc n1 s1) (z0:s0.size≤16000) (z1:s1.size≤16000) (hY:0<Bc s1) :
  Calls Tryz.prog 125 #[.agg #[Iz n0,I s0],.agg #[Iz n1,I s1]] w (Re w (.tuple #[zI (Eg n0 s0 / Eg n1 s1),zI (Eg n0 s0 % Eg n1 s1),.int .i64 0])):=by
 rw [← To,← To,(W0 n0 n1 _ _ hY).1,(W0 n0 n1 _ _ hY).2]
 by_cases h:n0=true∧Bc s0 % Bc s1≠0
 ·rw [if_pos h,if_pos h]
  obtain ⟨rfl,h⟩:=h
  rw [Bool.true_bne]
  exact Bc4 n1 s0 s1 w o0 o1 z0 z1 hY (digs_pos Be h)
 ·rw [if_neg h,if_neg h]
  refine Yw n0 n1 s0 s1 w o0 o1 z0 z1 hY ?_
  cases n0 with
  | false=>exact Or.inl rfl
  | true =>
   refine Or.inr (digs_zero ?_)
   exact Classical.not_not.1 fun h0=>h ⟨rfl,h0⟩
end Go.Proofs.YtnplifkgeeicjaaGreatDoor
