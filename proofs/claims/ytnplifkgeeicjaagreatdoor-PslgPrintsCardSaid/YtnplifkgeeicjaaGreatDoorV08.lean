import Derived.Laws.CopyOwn
import Derived.Test.YtnplifkgeeicjaaGreatDoorV07
set_option maxRecDepth 100000
set_option maxHeartbeats 1000000
namespace Go.Proofs.YtnplifkgeeicjaaGreatDoor
open Go.RowKit
theorem Zj (w:World) (ty:TypeId) (g:Nat) (p t q:List Nat) (n cap:Nat) (v:Value) (xs:List Nat) (hb:Cm w g (p ++ t ++ q)) (hx:Gj w v xs g) (ht:t.length=xs.length) (hn:xs.length≤n) (hp:0<xs.length) :
  ∃ w2,(Builtin.copy_ #[64,64] ty #[.slice (some ⟨g,p.length,none⟩) n cap,v]).run Tryz.prog w=.ok (goInt xs.length) w2∧Cm w2 g (p ++ xs ++ q)∧Bu g w w2:=by
 obtain ⟨a,c,rfl,hc,h⟩:=hx
 obtain ⟨b,off,rfl,hne,_⟩:=h 0 hp
 have h':∀ j,j<xs.length→w.cell? ⟨b,off+j,none⟩=some (.int .u64 (lm xs j:Nat)):=fun j hj=>by
  obtain ⟨b',o',he,_,h⟩:=h j hj
  simp at he
  obtain ⟨rfl,rfl⟩:=he
  exact h
 have hrun:=run_copy_row (P:=Tryz.prog) w 64 64 ty 170 g p.length n cap ⟨b,off,none⟩ xs.length c (Dj (p ++ t ++ q)) 170 (xs.map fun x=>Value.int .u64 (x:Nat)) Tryz.underlying64 (by kernel_rfl) hb (by simp;exact (Nat.min_eq_left hn).symm)
  (fun j u hj=>by
   have hj':j<xs.length:=by
    have:=List.getElem?_eq_some_iff.1 hj
    simpa using this.1
   have h:=h' j hj'
   simp [hj'] at hj
   subst hj
   by_cases h0:j=0
   ·subst h0;simpa [Addr.add,lm,hj'] using h
   ·simpa [Addr.add,h0,lm,hj'] using h)
  (by simp [Dj];omega) (fun u hu=>by simp at hu;obtain ⟨y,_,rfl⟩:=hu;rfl)
 rw [List.length_map] at hrun
 refine ⟨_,hrun,?_,⟨rfl,rfl,rfl,by simp [World.setRow],fun k hk=>setRow_other w g k _ hk⟩⟩
 have e:=setRow_heap w g _ ((Dj (p ++ t ++ q)).toList.take p.length ++ (xs.map fun x=>Value.int .u64 (x:Nat)) ++ (Dj (p ++ t ++ q)).toList.drop (p.length+xs.length)).toArray 170 _ hb
 unfold Cm
 rw [e]
 congr 2
 simp [Dj,← ht]
 rw [← List.append_assoc]
 exact List.drop_left' (by simp)
theorem Rd.drop {w:World} {b off n cap:Nat} {xs:List Nat} (h:Rd w (.slice (some ⟨b,off,none⟩) n cap) xs) (k m cap':Nat) (hm:m=xs.length - k) (hc:m≤cap'):Rd w (.slice (some ⟨b,off+k,none⟩) m cap') (xs.drop k):=by
 obtain ⟨a',c',e,_,h⟩:=h
 simp only [Value.slice.injEq] at e
 obtain ⟨rfl,rfl,rfl⟩:=e
 have e1:(xs.drop k).length=m:=by simp;omega
 refine ⟨_,cap',by rw [e1],by rw [e1];exact hc,fun j hj=>⟨b,off+k,rfl,?_⟩⟩
 rw [e1] at hj
 obtain ⟨b',off',he,hcell⟩:=h (k+j) (by omega)
 simp at he
 obtain ⟨rfl,rfl⟩:=he
 rw [Nat.add_assoc,hcell]
 simp [lm]
theorem Pz (v:Value) (xs:List Nat) (half:Nat) (w:World) (hv:Rd w v xs) (lx:M.Low Bb xs) (h1:0<half) (h2:half<xs.length) (h3:xs.length≤2*half) (hm:xs.length≤1000000) :
  Calls Tryz.prog 243 #[v,.int .i64 (half:Nat)] w fun e w'=>∃ (g:Nat) (zs:List Nat),e=.returned (.slice (some ⟨g,0,none⟩) zs.length zs.length)∧Cm w' g zs∧zs.length=half+1∧M.Low Bb zs∧M.val Bb zs=M.val Bb (xs.take half)+M.val Bb (xs.drop half)∧w.heap.size≤g∧Below w.heap.size w w':=by
 have hv0:=hv
 obtain ⟨a,ca,rfl,hca,hcs⟩:=hv
 obtain ⟨b,off,rfl,_⟩:=hcs 0 (by omega)
 clear hcs
 have htk:(xs.take half).length=half:=by simp;omega
 have hcn:¬ ca=half:=by omega
 go_enter Tryz.func243,Tryz.ntmps243
 go_wp2_with (at_make;refine Cn rfl _ _ rfl _ (half+1) rfl rfl (by omega) (by omega) ?_;intro w2 hblk hbel;obtain ⟨w3,hcp,hb3,ho3⟩:=Zj w2 3 w.heap.size [] (List.replicate half 0) [0] (half+1) (half+1) (.slice (some ⟨b,off,none⟩) half half) (xs.take half) (by simpa [List.replicate_succ'] using hblk) ((hv0.take half half (by omega) (Jb _)).apart hbel (Jb _)) (by simp;omega) (by omega) (by omega);simp only [List.length_nil,htk] at hcp)
 have hb3':Below w.heap.size w w3:=ho3.b hbel (Jb _)
 have hr3:Gj w3 (.slice (some ⟨b,off+half,none⟩) (xs.length - half) (ca - half)) (xs.drop half) w.heap.size:=(hv0.drop half _ (ca - half) rfl (by omega)).apart hb3' (Jb _)
 have hl3:(xs.take half ++ [0]).length=half+1:=by simp;omega
 have hc52:=F5 w.heap.size [] (xs.take half ++ [0]) [] _ (xs.drop half) (half+1) w3 (by simpa using hb3) (by rw [hl3];simp;omega) hr3 ((lx.take half).snoc Bm) (lx.drop half) (by omega)
 rw [hl3] at hc52
 refine hc52.mono ?_
 rintro e w4 ⟨s',c,rfl,hb4,hs4,hl4,hc4,hv4,ho4⟩
 rw [M.val_snoc,htk] at hv4
 have HV:Hid (M.val Bb s'=M.val Bb (xs.take half)+M.val Bb (xs.drop half)):=M.half_carry Be (M.val_lt_pow Bm (lx.take half) (by omega)) (M.val_lt_pow Bm (lx.drop half) (by simp;omega)) hc4 hv4
 have HS:Hid (s'.length=half+1):=hs4
 clear hv4 hs4 hc52 hcp htk hl3
 go_wp2
 go_ret
 refine ⟨w.heap.size,s',by rw [HS.out];rfl,by simpa using hb4,HS.out,hl4,HV.out,Nat.le_refl _,ho4.b hb3' (Nat.le_refl _)⟩
end Go.Proofs.YtnplifkgeeicjaaGreatDoor
