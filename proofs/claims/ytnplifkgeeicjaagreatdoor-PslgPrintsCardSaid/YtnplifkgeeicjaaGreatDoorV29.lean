import Derived.ArgAppend
import Derived.Deep.CutBlock
import Derived.Deep.CutRange
import Derived.Deep.DeepFit
import Derived.Deep.Upon
import Derived.LaidEql
import Derived.Laws.AppendOwnNone
import Derived.Lib.AppendIntMem
import Derived.Lib.AppendZeros
import Derived.Lib.BufferGrow
import Derived.Lib.FieldsP
import Derived.Lib.SliceRun
import Derived.Maps.AppendAt
import Derived.RowKitTokens
import Derived.Shelf.LaysM
import Derived.Shelf.Spec.TrailingZeros
import Derived.Shelf.Strconv.Itoa1
import Derived.Shelf.Strconv.Itoa2
import Derived.Shelf.Strings.BuilderK
import Derived.Shelf.Strings.FieldsFuncAny
import Derived.Shelf.Strings.Prefix
import Derived.Shelf.Strings.Repeat
import Derived.Shelf.Strings.Trim
import Derived.Stop.Asserts
import Derived.Test.YtnplifkgeeicjaaGreatDoorV26
namespace Go.Proofs.YtnplifkgeeicjaaGreatDoor
open Go.RowKit
theorem Bcw:∀ (ys:List Nat) (w:World) (g:Nat) (p q:List Nat),Cm w g (p ++ q)→ys.length≤q.length →
  Cm (w.setCells g p.length (ys.map fun x=>Value.int .u64 (x:Nat))) g (p ++ ys ++ q.drop ys.length)∧Bu g w (w.setCells g p.length (ys.map fun x=>Value.int .u64 (x:Nat)))
 | [],w,g,p,q,h,_=>⟨by simpa [World.setCells] using h,Bu.refl _ _⟩
 | y :: ys,w,g,p,x :: q,h,hn=>by
  have h1:Cm (w.setCell ⟨g,p.length,none⟩ (.int .u64 (y:Nat))) g ((p ++ [y]) ++ q):=by
   have:=h.set p.length y
   rwa [show (p ++ x :: q).set p.length y=(p ++ [y]) ++ q by simp] at this
  have r:=Bcw ys _ g (p ++ [y]) q h1 (by simpa using hn)
  rw [Ji,List.length_singleton] at r
  refine ⟨?_,?_⟩
  ·have:=r.1
   rw [show p ++ y :: ys ++ (x :: q).drop (y :: ys).length=p ++ [y] ++ ys ++ q.drop ys.length by simp]
   exact this
  ·exact ((Bu.refl g w).setCell _ _).trans r.2
 | y :: ys,w,g,p,[],h,hn=>by simp at hn
theorem Hf {w:World} {ops:Array Oper} {rest:List Oper} {o:Oper} {a:Act} {Q:Exit→Act→World→Prop}
  (hg:o.guard=none) (s x:Operand) (hop:o.op=Op.call { callee:=Callee.builtin Builtin.append,args:=#[s,x],argTypes:=#[64,64] })
  (g cap:Nat) (q ys:List Nat) (hs:a.eval s=.slice (some ⟨g,0,none⟩) 0 cap) (hB:Cm w g q) (hcap:q.length=cap) (v:Value) (hx:a.eval x=v) (hv:Rd w v ys) (hfit:ys.length≤cap)
  (hK:∀ w',Cm w' g (ys ++ q.drop ys.length)→Bu g w w'→wpList Tryz.prog ops Q rest (a.put o.dst (.slice (some ⟨g,0,none⟩) ys.length cap)) w') :
  wpList Tryz.prog ops Q (o :: rest) a w:=by
 obtain ⟨i0,hi,hz0,hz1,hz2⟩:=info_parts (show (Tryz.prog.info? 170).map (fun i=>(i.zero,i.size,i.bytes))=some (some (.int .u64 0),1,8) by kernel_rfl)
 obtain ⟨ao,c,rfl,hc1,hcell⟩:=hv
 refine wpList_plain hg fun K hK'=>?_
 rcases Nat.eq_zero_or_pos ys.length with h0 | h0
 ·have hy:ys=[]:=List.eq_nil_of_length_eq_zero h0
  subst hy
  have hrun:∀ ty,(Builtin.append_ #[64,64] ty #[.slice (some ⟨g,0,none⟩) 0 cap,.slice ao 0 c]).run Tryz.prog w=.ok (.slice (some ⟨g,0,none⟩) 0 cap) w:=fun ty=>by
   cases ao with
   | none=>simp [Builtin.append_,run_underlying Tryz.underlying64,sizeOf,typeInfo,hi,Builtin.lenOf,Builtin.firstCells,storeCells]
   | some ad =>
    have:=run_append_room_cells (P:=Tryz.prog) w 64 ty 170 i0 Tryz.underlying64 hi g 0 0 cap ad 0 c [] (by simp) (by simp) (by simp) (by omega) (by simp) (by simp)
    simpa [World.setCells] using this
  unfold Oper.wp
  simp at hx
  simp [execOp,hop,resolve,invoke,builtin,hs,hx,hrun,Result.andThen]
  exact hK' _ _ (hK _ (by simpa using hB) (Bu.refl _ _))
 ·obtain ⟨b,off,rfl,-⟩:=hcell 0 h0
  have hrun:=fun ty=>run_append_room_cells (P:=Tryz.prog) w 64 ty 170 i0 Tryz.underlying64 hi g 0 0 cap ⟨b,off,none⟩ ys.length c (ys.map fun x=>Value.int .u64 (x:Nat)) (by simp [hz1])
   (fun j u hu=>by
    have hj:j<ys.length:=by simpa using (List.getElem?_eq_some_iff.1 hu).1
    obtain ⟨b',off',e,hcl⟩:=hcell j hj
    cases e
    rw [Addr.add_lit,hcl]
    simp [lm,hj] at hu ⊢
    exact hu)
   (fun u hu=>by simp at hu;obtain ⟨y,_,rfl⟩:=hu;rfl) (by omega)
   (fun j hj=>by rw [hB.cell (by simp at hj;simp;omega)];rfl) (fun j hj=>hB.o _)
  have hp:=Bcw ys w g [] q (by simpa using hB) (by omega)
  unfold Oper.wp
  simp [execOp,hop,resolve,invoke,builtin,hs,hx,hrun,Result.andThen]
  simp at hp
  exact hK' _ _ (hK _ hp.1 hp.2)
end Go.Proofs.YtnplifkgeeicjaaGreatDoor
