import Derived.Deep.CutRange
import Derived.Deep.DeepFit
import Derived.Test.YtnplifkgeeicjaaGreatDoorV26
set_option maxRecDepth 100000
set_option maxHeartbeats 8000000
namespace Go.Proofs.YtnplifkgeeicjaaGreatDoor
open Go.RowKit
def nt (l:List ByteArray) (j:Nat):ByteArray:=l.getD j ⟨#[]⟩
theorem Mo {d e:ByteArray}:(d.toList == e.toList)=decide (d=e):=by
 by_cases h:d=e
 ·subst h;simp
 ·rw [decide_eq_false h,beq_eq_false_iff_ne]
  intro k
  apply h
  rw [ByteArray.toList_eq,ByteArray.toList_eq] at k
  obtain ⟨⟨l⟩⟩:=d
  obtain ⟨⟨m⟩⟩:=e
  have k':l=m:=k
  rw [k']
def ls (n:Nat) (l:List Nat):Array Bool:=(Array.range n).map fun i=>l.contains i
theorem Cr {N:Nat} {w wn:World} {g:Nat} (b:Below N w wn) (h:N≤g) (j:Nat) (v:Value):Below N w (wn.setCell ⟨g,j,none⟩ v):=b.setCell h v
def PtS (z:List Value) (t:TypeId) (k:Nat) (v:Value) (w:World):Prop:=∃ g,v=.slice (some ⟨g,0,none⟩) k k∧Bi w g z t
def unl (l:Array Bool):Nat:=l.toList.count false
def WA (P:Program) (ops:Array Oper) (Q:Exit→Act→World→Prop) (S:World→Prop) (l:Array Bool) (a:Act) (w:World):Prop:=wpAnyH P .any ops Q S (unl l) l a w
theorem Bk5 (l:List Bool) (i:Nat) (h:l[i]?=some false):l.count false=(l.set i true).count false+1:=by
 induction l generalizing i with
 | nil=>simp at h
 | cons b l ih =>
  cases i with
  | zero=>simp at h;subst h;simp
  | succ i =>
   simp at h
   have:=ih i h
   cases b <;> simp [this]
theorem Lq {l:Array Bool} {i:Nat} (h:l.getD i true=false):unl l=unl (l.setIfInBounds i true)+1:=by
 unfold unl
 rw [Array.toList_setIfInBounds]
 refine Bk5 _ _ ?_
 rcases Nat.lt_or_ge i l.size with h' | h'
 ·simp [h'] at h
  simp [h',h]
 ·simp [h'] at h
theorem Th {W w1:World} (b:Below W.heap.size W w1) {o:Obj}:Below W.heap.size W (w1.alloc o):=b.alloc b.size o
theorem WA.all {P:Program} {ops:Array Oper} {Q:Exit→Act→World→Prop} {S:World→Prop} {l:Array Bool} {a:Act} {w:World} (hne:Region.ready .any ops l≠[])
  (h:∀ i∈Region.ready .any ops l,wpOp P ops Q i (fun a' w'=>S w'∧WA P ops Q S (l.setIfInBounds i true) a' w') a w):WA P ops Q S l a w:=by
 unfold WA
 cases hr:Region.ready .any ops l with
 | nil=>exact absurd hr hne
 | cons i rs =>
  have hi:i∈Region.ready .any ops l:=by rw [hr];simp
  rw [Lq (mem_ready.1 hi).1]
  refine wpAnyH_all rfl hne (fun j hj=>wpOp_mono (fun a' w' h'=>⟨h'.1,?_⟩) (h j hj))
  have h2:=h'.2
  unfold WA at h2
  rw [show unl (l.setIfInBounds i true)=unl (l.setIfInBounds j true) by have:=Lq (mem_ready.1 hi).1;have:=Lq (mem_ready.1 hj).1;omega]
  exact h2
theorem WA.done {P:Program} {ops:Array Oper} {Q:Exit→Act→World→Prop} {S:World→Prop} {l:Array Bool} {a:Act} {w:World} (hr:Region.ready .any ops l=[]) (h:Q .normal a w):WA P ops Q S l a w:=wpAnyH_done hr h _
theorem WA.start {P:Program} {ops:Array Oper} {Q:Exit→Act→World→Prop} {S:World→Prop} {a:Act} {w:World} {n:Nat} (hn:ops.size=n) (h:WA P ops Q S (Array.replicate n false) a w):wpAnyH P .any ops Q S ops.size (Array.replicate ops.size false) a w:=by
 subst hn
 have:unl (Array.replicate ops.size false)=ops.size:=by unfold unl;simp
 unfold WA at h
 rw [this] at h
 exact h
theorem WA.take {P:Program} {ops:Array Oper} {Q:Exit→Act→World→Prop} {S:World→Prop} {l:Array Bool} {a:Act} {w:World} {i:Nat} {oi:Oper} {v:Value} (hi:ops[i]?=some oi)
  (hs:Region.noSelect ops=true) (hf:Region.free .any ops l i=true) (hr:(Region.ready .any ops l).contains i=true)
  (hQ:∀ c a w,Q (.panic c) (a.put oi.dst v) w→Q (.panic c) a w) (hy:YieldsIf P ops S oi v a) (hS:S w)
  (h:WA P ops Q S (l.setIfInBounds i true) (a.put oi.dst v) w):WA P ops Q S l a w:=by
 have hm:i∈Region.ready .any ops l:=by simpa using hr
 unfold WA at h ⊢
 rw [Lq (mem_ready.1 hm).1]
 exact wpAnyH_take hi hs hf hr hQ hy hS h
abbrev SB (W:World):World→Prop:=fun w'=>Below W.heap.size W w'
def Pt (W:World) (z:List Value) (t:TypeId) (v:Value) (w:World):Prop:=∃ g,v=.pointer (some ⟨g,0,none⟩)∧W.heap.size≤g∧Bi w g z t
structure P2 (W:World) (z z':List Value) (t t':TypeId) (b b':Bool) (x x':Value) (w:World):Prop where
 p:b=true→Pt W z t x w
 p':b'=true→Pt W z' t' x' w
 ne:b=true→b'=true→x≠x'
theorem WA.runs {P:Program} {ops:Array Oper} {Q:Exit→Act→World→Prop} {S:World→Prop} {l:Array Bool} {a:Act} {w:World} (J:Array Bool→Act→World→Prop)
  (st:∀ l a w,J l a w→WA P ops Q S l a w∨(Region.ready .any ops l≠[]∧∀ i∈Region.ready .any ops l,wpOp P ops Q i (fun a' w'=>S w'∧J (l.setIfInBounds i true) a' w') a w)):J l a w→WA P ops Q S l a w:=by
 have:∀ n l a w,unl l=n→J l a w→WA P ops Q S l a w:=by
  intro n
  induction n with
  | zero =>
   intro l a w hl hJ
   rcases st _ _ _ hJ with h | ⟨h1,h2⟩
   ·exact h
   ·refine WA.all h1 (fun i hi=>?_)
    have:=Lq (mem_ready.1 hi).1
    omega
  | succ n ih =>
   intro l a w hl hJ
   rcases st _ _ _ hJ with h | ⟨h1,h2⟩
   ·exact h
   ·refine WA.all h1 (fun i hi=>wpOp_mono (fun a' w' h'=>⟨h'.1,ih _ _ _ ?_ h'.2⟩) (h2 i hi))
    have:=Lq (mem_ready.1 hi).1
    omega
 exact this _ _ _ _ rfl
structure P3 (W:World) (z:List Value) (t:TypeId) (b b' d:Bool) (x x' y:Value) (w:World):Prop where
 p:b=true→Pt W z t x w
 p':b'=true→Pt W z t x' w
 q:d=true→Pt W z t y w
 ne:b=true→b'=true→x≠x'
 nq:b=true→d=true→x≠y
 nq':b'=true→d=true→x'≠y
theorem Cw {w:World} {g:Nat} {x y z:Value} {t:TypeId} (h:Bi w g [x,y,z] t):w.cell? ⟨g,0,none⟩=some x:=h.cell 0
theorem Cv {w:World} {g:Nat} {x y z:Value} {t:TypeId} (h:Bi w g [x,y,z] t):w.cell? ⟨g,1,none⟩=some y:=h.cell 1
theorem Cu {w:World} {g:Nat} {x y z:Value} {t:TypeId} (h:Bi w g [x,y,z] t):w.cell? ⟨g,2,none⟩=some z:=h.cell 2
theorem Blf (w:World) (cs:List Value) (t:TypeId):Bi (w.alloc (.cells cs.toArray t)) w.heap.size cs t:=Bi.new w cs t
theorem Kx (w:World) (o:Obj):Below w.heap.size w (w.alloc o):=(Jg _ _).alloc (Jb _) o
theorem ba {w w1:World} (b:Below w.heap.size w w1) (o:Obj):Below w.heap.size w (w1.alloc o):=b.alloc b.size o
theorem Hv {w w':World} {c0:List Value} {t0:TypeId} (b:Below (w.alloc (.cells c0.toArray t0)).heap.size (w.alloc (.cells c0.toArray t0)) w') :
  Bi w' w.heap.size c0 t0∧Below w.heap.size w w':=⟨(Blf w c0 t0).b b,Ia (Kx w _) b⟩
theorem al2 {w w':World} {c0 c1:List Value} {t0 t1:TypeId} (b:Below ((w.alloc (.cells c0.toArray t0)).alloc (.cells c1.toArray t1)).heap.size ((w.alloc (.cells c0.toArray t0)).alloc (.cells c1.toArray t1)) w') :
  Bi w' w.heap.size c0 t0∧Bi w' (w.heap.size+1) c1 t1∧Below w.heap.size w w':=by
 obtain ⟨k1,b1⟩:=Hv b
 obtain ⟨k0,b0⟩:=Hv b1
 exact ⟨k0,by simpa using k1,b0⟩
theorem al3 {w w':World} {c0 c1 c2:List Value} {t0 t1 t2:TypeId} (b:Below (((w.alloc (.cells c0.toArray t0)).alloc (.cells c1.toArray t1)).alloc (.cells c2.toArray t2)).heap.size (((w.alloc (.cells c0.toArray t0)).alloc (.cells c1.toArray t1)).alloc (.cells c2.toArray t2)) w') :
  Bi w' w.heap.size c0 t0∧Bi w' (w.heap.size+1) c1 t1∧Bi w' (w.heap.size+1+1) c2 t2∧Below w.heap.size w w':=by
 obtain ⟨k2,b2⟩:=Hv b
 obtain ⟨k0,k1,b0⟩:=al2 b2
 exact ⟨k0,k1,by simpa using k2,b0⟩
theorem al4 {w w':World} {c0 c1 c2 c3:List Value} {t0 t1 t2 t3:TypeId} (b:Below ((((w.alloc (.cells c0.toArray t0)).alloc (.cells c1.toArray t1)).alloc (.cells c2.toArray t2)).alloc (.cells c3.toArray t3)).heap.size ((((w.alloc (.cells c0.toArray t0)).alloc (.cells c1.toArray t1)).alloc (.cells c2.toArray t2)).alloc (.cells c3.toArray t3)) w') :
  Bi w' w.heap.size c0 t0∧Bi w' (w.heap.size+1) c1 t1∧Bi w' (w.heap.size+1+1) c2 t2∧Bi w' (w.heap.size+1+1+1) c3 t3∧Below w.heap.size w w':=by
 obtain ⟨k3,b3⟩:=Hv b
 obtain ⟨k0,k1,k2,b0⟩:=al3 b3
 exact ⟨k0,k1,k2,by simpa using k3,b0⟩
theorem Es (w:World) (c0:List Value) (t0:TypeId):∃ w',w'=w.alloc (.cells c0.toArray t0)∧Bi w' w.heap.size c0 t0∧Below w.heap.size w w':=⟨_,rfl,Hv (Jg _ _)⟩
theorem Yu (w:World) (c0 c1:List Value) (t0 t1:TypeId):∃ w',w'=(w.alloc (.cells c0.toArray t0)).alloc (.cells c1.toArray t1)∧Bi w' w.heap.size c0 t0∧Bi w' (w.heap.size+1) c1 t1∧Below w.heap.size w w':=⟨_,rfl,al2 (Jg _ _)⟩
theorem mk3 (w:World) (c0 c1 c2:List Value) (t0 t1 t2:TypeId):∃ w',w'=((w.alloc (.cells c0.toArray t0)).alloc (.cells c1.toArray t1)).alloc (.cells c2.toArray t2)∧Bi w' w.heap.size c0 t0∧Bi w' (w.heap.size+1) c1 t1∧Bi w' (w.heap.size+1+1) c2 t2∧Below w.heap.size w w':=⟨_,rfl,al3 (Jg _ _)⟩
theorem mk4 (w:World) (c0 c1 c2 c3:List Value) (t0 t1 t2 t3:TypeId):∃ w',w'=(((w.alloc (.cells c0.toArray t0)).alloc (.cells c1.toArray t1)).alloc (.cells c2.toArray t2)).alloc (.cells c3.toArray t3)∧Bi w' w.heap.size c0 t0∧Bi w' (w.heap.size+1) c1 t1∧Bi w' (w.heap.size+1+1) c2 t2∧Bi w' (w.heap.size+1+1+1) c3 t3∧Below w.heap.size w w':=⟨_,rfl,al4 (Jg _ _)⟩
theorem Boo {w:World} {g:Nat} {x y z:Value} (h:Bi w g [x,y,z] 26):(loadVar 26 ⟨g,0,none⟩).run Tryz.prog w=.ok (.agg #[x,y,z]) w :=
 run_loadVar_row w g 26 26 #[x,y,z] (0,0) _ h Tryz.underlying26 rfl (by kernel_rfl)
theorem Ht {fn:Func} {p:Tmp} {R:Ending→World→Prop} {a:Act} {w:World} {g:Nat} {x y z:Value} (h:fn.results=#[.cell p 26]) (hp:a.tmps.getD p undef=.pointer (some ⟨g,0,none⟩)) (hd:a.defers=[])
  (hc:Bi w g [x,y,z] 26) (hR:R (.returned (.agg #[x,y,z])) w):bodyPost Tryz.prog fn R .ret a w:=by
 refine ⟨hd,.agg #[x,y,z],?_,hR⟩
 exact results_cell_row (P:=Tryz.prog) h _ w g 26 #[x,y,z] (0,0) _ hp hc Tryz.underlying26 rfl (by kernel_rfl)
theorem Dt {fn:Func} {p u:Tmp} {R:Ending→World→Prop} {a:Act} {w:World} {g:Nat} {x y z v:Value} (h:fn.results=#[.cell p 26,.tmp u]) (hp:a.tmps.getD p undef=.pointer (some ⟨g,0,none⟩)) (hu:a.tmps.getD u undef=v) (hd:a.defers=[])
  (hc:Bi w g [x,y,z] 26) (hR:R (.returned (.tuple #[.agg #[x,y,z],v])) w):bodyPost Tryz.prog fn R .ret a w:=by
 refine ⟨hd,.tuple #[.agg #[x,y,z],v],?_,hR⟩
 rw [results_cell_tmp h,hp,hu]
 simp [asAddr,Boo hc,Result.andThen]
theorem Fe (w:World):Below w.heap.size w w.drew:=(Jg w.heap.size w).drew
theorem Qn (n:Bool) (s d:ByteArray) (w:World) :
  Calls Tryz.prog 190 #[(D8 n s d)] w (Re w (.agg #[Iz false,I d])):=by
 go_enter Tryz.func190,Tryz.ntmps190
 go_wp2
 obtain ⟨w0,hw,k0,k1,b⟩:=Yu w (D6 n s d) [Iz false,I d] 26 24
 rw [← hw]
 exact Ei (p:=2) (by kernel_rfl) rfl rfl k1 ⟨rfl,b⟩
theorem eq1 {s:ByteArray} (h:s=⟨#[1]⟩):(s.toList == [1])=true:=by subst h;decide +kernel
theorem Ue {s:ByteArray} (h:s≠⟨#[1]⟩):(s.toList == [1])=false:=by
 rw [ByteArray.toList_eq]
 obtain ⟨⟨l⟩⟩:=s
 refine beq_eq_false_iff_ne.2 fun e=>h ?_
 have e':l=[1]:=e
 subst e'
 rfl
theorem WA.cal {P:Program} {ops:Array Oper} {Q:Exit→Act→World→Prop} {S:World→Prop} {l:Array Bool} {a:Act} {w:World} {oc:Oper} (c:Nat) (hc:ops[c]?=some oc) (ca:∀ K:Act→World→Prop,Shut (∀ a w'',S w''→(S w''→WA P ops Q S (l.setIfInBounds c true) a w'')→K a w'')→if Region.wanted oc (yielded ops a.tmps)=true then Oper.wp P oc a w K Q else K (a.put oc.dst undef) w) (rT:Region.ready .any ops l=[c]:=by kernel_rfl):WA P ops Q S l a w:=by
 refine WA.all (by rw [rT];simp) (fun i hi=>?_)
 rw [rT] at hi
 simp at hi
 subst hi
 exact wpOp_step hc (fun K hK=>ca K (fun a w'' hS hW=>hK _ _ ⟨hS,hW hS⟩))
theorem WA.tp {P:Program} {ops:Array Oper} {Q:Exit→Act→World→Prop} {S:World→Prop} {l:Array Bool} {a:Act} {w:World} {a':Act} {oi:Oper} {v:Value} (i:Nat) (hi:ops[i]?=some oi) (h:WA P ops Q S (l.setIfInBounds i true) a' w)
  (hy:YieldsIf P ops S oi v a:=by exact Or.inl ⟨by rfl,by (intro w hSw;(try dsimp only at hSw);go_simp;try with_reducible rfl)⟩) (hp:a.put oi.dst v=a':=by (simp only [Act.put,List.getElem_toArray,List.getElem_cons_succ,List.getElem_cons_zero,List.setIfInBounds_toArray,List.set_cons_zero,List.set_cons_succ];exact rfl))
  (hS:S w:=by assumption) (hs:Region.noSelect ops=true:=by kernel_rfl) (hf:Region.free .any ops l i=true:=by kernel_rfl) (hr:(Region.ready .any ops l).contains i=true:=by kernel_rfl)
  (hQ:∀ c a w,Q (.panic c) (a.put oi.dst v) w→Q (.panic c) a w:=by exact fun _ _ _ h=>h):WA P ops Q S l a w:=by
 subst hp
 exact WA.take hi hs hf hr hQ hy hS h
theorem Bml {xs ys:List Nat} {k:Nat} (lx:M.Low Bb xs) (hx:xs.length≤k+1) (hy:ys.length≤k+1) (h:M.val Bb ys≤M.val Bb xs):lm ys k≤lm xs k:=by
 have v1:=M.val_take_succ Bb xs k
 have v2:=M.val_take_succ Bb ys k
 rw [M.val_take_all _ _ _ hx] at v1
 rw [M.val_take_all _ _ _ hy] at v2
 have l1:M.val Bb (xs.take k)<Bb ^ k:=M.val_lt_pow Bm (lx.take k) (by simp;omega)
 rw [show xs.getD k 0=lm xs k from rfl] at v1
 rw [show ys.getD k 0=lm ys k from rfl] at v2
 generalize Bb ^ k=P at *
 rcases Nat.lt_or_ge (lm xs k) (lm ys k) with g | g
 ·have:P*(lm xs k+1)≤P*lm ys k:=Nat.mul_le_mul_left P g
  rw [Nat.mul_add,Nat.mul_one] at this
  omega
 ·exact g
theorem Bpb (w:World) (p q p' q':Nat):∃ w0,w0=(w.alloc (.cells #[.int .u64 (p:Nat),.int .u64 (q:Nat)] 303)).alloc (.cells #[.int .u64 (p':Nat),.int .u64 (q':Nat)] 303) ∧
  Bk w0 w.heap.size ([p,q] ++ []) 303∧Bk w0 (w.heap.size+1) ([p',q'] ++ []) 303∧Below w.heap.size w w0:=by
 refine ⟨_,rfl,?_,?_,by go_grown⟩
 ·have h:Bk (w.alloc (.cells #[.int .u64 (p:Nat),.int .u64 (q:Nat)] 303)) w.heap.size ([p,q] ++ []) 303:=heap_alloc_new w _
  exact h.b (by go_grown)
 ·have h:=heap_alloc_new (w.alloc (.cells #[.int .u64 (p:Nat),.int .u64 (q:Nat)] 303)) (.cells #[.int .u64 (p':Nat),.int .u64 (q':Nat)] 303)
  simpa [Bk,Dj] using h
theorem Hh (p q:Nat):M.val Bb [p,q]=p+Bb*q:=by simp [M.val_cons,M.val_nil]
theorem Bn1 {p2 q2 p3 q3 tX tY s u x v y:Nat} (h1:p2+Bb*q2=tX) (h2:p3+Bb*q3=tY) (h:tY≤tX) (hu:u<Bb) (k1:u+Bb*x=M.val Bb [p2,q2]*2 ^ s / Bb ^ (2 - 2)) (k2:v+Bb*y=M.val Bb [p3,q3]*2 ^ s / Bb ^ (2 - 2)):y≤x:=by
 rw [Hh,h1,Nat.sub_self,Nat.pow_zero,Nat.div_one] at k1
 rw [Hh,h2,Nat.sub_self,Nat.pow_zero,Nat.div_one] at k2
 have:=Jo (2 ^ s) h
 unfold Bb at *
 omega
theorem ix1 (x y:Value) (w:World):(Instr.index 303 (.agg #[x,y]) (.int .i64 1)).run Tryz.prog w=.ok y w:=by kernel_rfl
theorem Ic {a w:World} (h:Below a.heap.size a w) (o:Obj):Below a.heap.size a (w.alloc o):=h.alloc h.size o
theorem Bd3 {X Y:World} (c:Below (X.alloc (.cells #[.int .u64 0,.int .u64 0,.int .u64 0,.int .u64 0] 276)).heap.size (X.alloc (.cells #[.int .u64 0,.int .u64 0,.int .u64 0,.int .u64 0] 276)) Y) :
  Bi Y X.heap.size [.int .u64 0,.int .u64 0,.int .u64 0,.int .u64 0] 276:=(Bi.new X [.int .u64 0,.int .u64 0,.int .u64 0,.int .u64 0] _).b c
theorem Qa {w:World} {g:Nat} {x y z u:Value} {t:TypeId} (h:Bi w g [x,y,z,u] t):w.cell? ⟨g,0,none⟩=some x:=h.cell 0
theorem P9 {w:World} {g:Nat} {x y z u:Value} {t:TypeId} (h:Bi w g [x,y,z,u] t):w.cell? ⟨g,1,none⟩=some y:=h.cell 1
theorem P7 {w:World} {g:Nat} {x y z u:Value} {t:TypeId} (h:Bi w g [x,y,z,u] t):w.cell? ⟨g,2,none⟩=some z:=h.cell 2
theorem P6 {w:World} {g:Nat} {x y z u:Value} {t:TypeId} (h:Bi w g [x,y,z,u] t):w.cell? ⟨g,3,none⟩=some u:=h.cell 3
theorem Vq {n8 w11:World} {gb:Nat} {x0 x1 x2 x3:Value} {t:TypeId} (b11:Below n8.heap.size n8 w11) (ke:Bi w11 gb [x0,x1,x2,x3] t) (hg:n8.heap.size≤gb) (x y z u:Value) :
  Bi ((((w11.setCell ⟨gb,0,none⟩ x).setCell ⟨gb,1,none⟩ y).setCell ⟨gb,2,none⟩ z).setCell ⟨gb,3,none⟩ u) gb [x,y,z,u] t∧Below n8.heap.size n8 ((((w11.setCell ⟨gb,0,none⟩ x).setCell ⟨gb,1,none⟩ y).setCell ⟨gb,2,none⟩ z).setCell ⟨gb,3,none⟩ u) :=
 ⟨(((ke.set 0 _).set 1 _).set 2 _).set 3 _,(((b11.setCell hg _).setCell hg _).setCell hg _).setCell hg _⟩
theorem Bkv {n8 w11:World} {t:TypeId} (b11:Below n8.heap.size n8 w11) (x y z u:Value) :
  Bi (w11.alloc (.cells #[x,y,z,u] t)) w11.heap.size [x,y,z,u] t∧Below n8.heap.size n8 (w11.alloc (.cells #[x,y,z,u] t)):=⟨Bi.new w11 _ _,Ic b11 _⟩
theorem Bn8 {q s:Nat} (h:4294967296≤q) (h2:q*2 ^ s<18446744073709551616):2 ^ s<4294967296:=by
 rcases Nat.lt_or_ge (2 ^ s) 4294967296 with g | g
 ·exact g
 ·have:=Nat.mul_le_mul h g
  omega
theorem t2X {p q t s u x:Nat} (h:p+Bb*q=t) (k:u+Bb*x=M.val Bb [p,q]*2 ^ s / Bb ^ (2 - 2)):2 ^ s*t=x*18446744073709551616+u:=by
 rw [Hh,h,Nat.sub_self,Nat.pow_zero,Nat.div_one,Nat.mul_comm t] at k
 rw [← k]
 unfold Bb
 omega
theorem Bbl {a b c d:Nat} (ha:a<1073741824) (hb:b<1073741824) (hc:c<1073741824) (hd:d<1073741824):a*c+b*d<Bb:=by
 have:=Hs ha hc
 have:=Hs hb hd
 unfold Bb
 omega
theorem Ih {B:Nat} {a b:World} (h:Below B a.drew b):Below B a b:=⟨h.os,h.tape,h.output,h.size,h.block⟩
theorem e4 (b x T R:Nat):b*(x*T)*R=R*b*x*T:=by grind
theorem Bm9 {X Y T R p q p' q' x:Nat} (hR:0<R) (tX:p+Bb*q=X*T / R) (tY:p'+Bb*q'=Y*T / R) (lp:p<Bb) (lp':p'<Bb) (hYX:Y≤X) (hx:R*Bb*x≤X) (h1:9223372036854775808≤x*T) :
  (∃ s t,T*X=(p+18446744073709551616*q)*R+s∧s<R∧T*Y=(p'+18446744073709551616*q')*R+t∧t<R)∧9223372036854775808≤q∧q'≤q:=by
 have d1:=Nat.div_add_mod (X*T) R
 have d2:=Nat.div_add_mod (Y*T) R
 have m1:=Nat.mod_lt (X*T) hR
 have m2:=Nat.mod_lt (Y*T) hR
 have le:Y*T / R≤X*T / R:=Nat.div_le_div_right (Jo T hYX)
 have ge:Bb*(x*T)≤X*T / R:=by
  rw [Nat.le_div_iff_mul_le hR]
  have:=Jo T hx
  have e:Bb*(x*T)*R=R*Bb*x*T:=e4 ..
  rw [e]
  exact this
 rw [← tX] at d1 ge le
 rw [← tY] at d2 le
 have ge2:Bb*9223372036854775808≤Bb*(x*T):=Nat.mul_le_mul_left _ h1
 unfold Bb at *
 refine ⟨⟨X*T % R,Y*T % R,?_,m1,?_,m2⟩,by omega,by omega⟩
 ·rw [Nat.mul_comm T,Nat.mul_comm _ R];exact d1.symm
 ·rw [Nat.mul_comm T,Nat.mul_comm _ R];exact d2.symm
theorem Ti {xs:List Nat} (h:xs.length=2):∃ p q,xs=[p,q]:=by
 match xs,h with
 | [p,q],_=>exact ⟨p,q,rfl⟩
theorem Bmp:Bb ^ 2=Bb*Bb:=by rw [Nat.pow_succ,Nat.pow_one]
theorem Bok {s:Nat} (h:2 ^ s<4294967296):2 ^ s≤2147483648:=by
 have:s<32:=by
  rcases Nat.lt_or_ge s 32 with g | g
  ·exact g
  ·have:=Nat.pow_le_pow_right (show 0<2 by omega) g
   omega
 exact Jf (Nat.pow_le_pow_right (by omega) (show s≤31 by omega)) (by decide)
theorem Ry (a0 a1:Option Addr) (c0 c1 k:Nat) (xs ys:List Nat) (w:World) (r0:Rd w (.slice a0 xs.length c0) xs) (r1:Rd w (.slice a1 ys.length c1) ys) (lx:M.Low Bb xs) (ly:M.Low Bb ys) (hn:xs.length=k+1) (hn2:1≤k) (hn3:k≤10000)
  (hy:ys.length≤k+1) (hk:0<lm xs k) (hYX:M.val Bb ys≤M.val Bb xs) :
  Calls Tryz.prog 204 #[.slice a0 xs.length c0,.slice a1 ys.length c1] w fun e w'=>∃ a b c d:Nat,e=.returned (Wz a b c d)∧a<Bb∧b<Bb∧c<Bb∧d<Bb ∧
   (b=0∨∃ X' Y',M.Eu a b c d (M.val Bb xs) (M.val Bb ys) X' Y'∧0<Y'∧Y'<X'∧1≤c∧1≤d)∧Below w.heap.size w w':=by
 obtain ⟨b0,o0,e0,hc⟩:∃ b off,a0=some ⟨b,off,none⟩∧w.cell? ⟨b,off+k,none⟩=some (.int .u64 (lm xs k:Nat)):=by
  obtain ⟨a',cap',e',-,h⟩:=r0
  simp only [Value.slice.injEq,true_and] at e'
  obtain ⟨rfl,rfl⟩:=e'
  exact h k (by omega)
 subst e0
 have LZ:=Ba (fun w=>Li (lm xs k) hk (Ci Bm lx k) w)
 have LX:=Ba (fun (s:Nat) (hs:s≤63) (h:lm xs k*2 ^ s<Bb) (w1:World) (b1:Below w.heap.size w w1)=>leading_any _ c0 xs (k+1) s w1 (r0.b b1) lx (by omega) (by omega) (by omega) hs h)
 have hyk:lm ys k≤lm xs k:=Bml lx (by omega) hy hYX
 have LY:=Ba (fun (s:Nat) (hs:s≤63) (h:lm xs k*2 ^ s<Bb) (w1:World) (b1:Below w.heap.size w w1)=>leading_any _ c1 ys (k+1) s w1 (r1.b b1) ly hy (by omega) (by omega) hs (Nat.lt_of_le_of_lt (Jo _ hyk) h))
 rw [hn] at LX ⊢
 have LXS:=Ba lx
 have LYS:=Ba ly
 have HK:=Ba hk
 have HYX:=Ba hYX
 have HN:=Ba hn
 clear lx ly hk hYX r0 r1 hn hy hyk
 obtain ⟨w0,hw0⟩:∃ w0,w0=w.alloc (.cells #[.int .u64 0,.int .u64 0,.int .u64 0,.int .u64 0] 276):=⟨_,rfl⟩
 have k0:Bi w0 w.heap.size [.int .u64 0,.int .u64 0,.int .u64 0,.int .u64 0] 276:=by rw [hw0];exact Bi.new w _ _
 have bb:Below w.heap.size w w0:=by rw [hw0];go_grown
 have hc':=Bh hc bb
 clear hc
 rw [hw0] at hc'
 go_enter Tryz.func204,Tryz.ntmps204
 go_wp2_with fail
 rw [← hw0] at hc' ⊢
 clear hw0
 refine (LZ.out _).mono ?_
 rintro e w1 ⟨⟨s,rfl,hs,s1,s2⟩,rfl⟩
 have S1:=Ba s1
 have S2:=Ba s2
 have LX2:=Ba (LX.out s hs s2)
 have LY2:=Ba (LY.out s hs s2)
 clear s1 s2 LX LY LZ hc'
 go_wp2_with fail
 refine (LX2.out _ bb).mono ?_
 rintro e w2 ⟨p,q,rfl,lp,lq,tX,b1⟩
 replace bb:=Ia bb b1
 replace k0:=k0.b b1
 clear b1
 have LP:=Ba lp
 have LQ:=Ba lq
 have TX:=Ba tX
 clear lp lq tX LX2
 go_wp2_with fail
 refine (LY2.out _ bb).mono ?_
 rintro e w3 ⟨p',q',rfl,lp,lq,tX,b1⟩
 replace bb:=Ia bb b1
 replace k0:=k0.b b1
 clear b1
 have LP':=Ba lp
 have LQ':=Ba lq
 have TY:=Ba tX
 clear lp lq tX LY2
 obtain ⟨w4,hw4,j0,j1,b1⟩:=Bpb w3 p q p' q'
 have kk:=k0
 replace k0:=k0.b b1
 have hx:Hid (Bb ^ (k+1 - 2)*Bb*lm xs k≤M.val Bb xs):=by
  have v1:=M.val_take_succ Bb xs k
  rw [M.val_take_all _ _ _ (by rw [HN.out];exact Jb _)] at v1
  show _≤_
  rw [← Nat.pow_succ,show (k+1 - 2).succ=k by omega]
  rw [v1]
  exact Nat.le_add_left _ _
 obtain ⟨⟨ρ,τ,q1,q2,q3,q4⟩,q5,q6⟩:=Bm9 (Nat.pow_pos Bm) TX.out TY.out LP.out LP'.out HYX.out hx.out S1.out
 have Q1:=Ba q1
 have Q2:=Ba q2
 have Q3:=Ba q3
 have Q4:=Ba q4
 have Q5:=Ba q5
 have F1:=Ba (fun w=>Bcj q q' LQ.out q6 w)
 have hlt3:w.heap.size<w3.heap.size:=kk.lt
 clear q1 q2 q3 q4 q5 q6 hx S1 S2 TX TY kk hs
 have y0:=j0.cell (j:=1) (by simp)
 have y1:=j1.cell (j:=1) (by simp)
 rw [show lm ([p,q] ++ []) 1=q from rfl] at y0
 rw [show lm ([p',q'] ++ []) 1=q' from rfl] at y1
 rw [hw4] at y0 y1
 go_wp2_with fail
 rw [← hw4]
 replace bb:=Ia bb b1
 clear y0 y1 hw4 b1
 refine (F1.out w4).mono ?_
 rintro e w5 ⟨a,b,c,d,u,v,rfl,fe,hb,hd,b1⟩
 unfold Wz
 obtain ⟨ha,hc,hd1⟩:=fe.small hb hd
 obtain ⟨tX,tY,X1,Y1,eu,l1,l2,l3,eu2,l4,z⟩:=M.first_steps (Nat.pow_pos (by omega)) (Nat.pow_pos Bm) Q1.out Q2.out Q3.out Q4.out LP.out LP'.out Q5.out HYX.out fe hb hd
 have hUB:p+18446744073709551616*q<Bb ^ 2:=by
  have:=LP.out
  have:=LQ.out
  rw [Bmp]
  unfold Bb at *
  omega
 have TK:=Ba (fun w5 h0 h1=>Oz a b c d w3.heap.size (w3.heap.size+1) 303 [p,q] [p',q'] [] [] 2 2 2 w5 h0 h1 (by omega) rfl (by unfold Bb;omega) (by unfold Bb;omega) (by unfold Bb;omega) (by unfold Bb;omega)
  (by intro x hx;simp at hx;rcases hx with rfl | rfl;exact LP.out;exact LQ.out) (by intro x hx;simp at hx;rcases hx with rfl | rfl;exact LP'.out;exact LQ'.out) (by simp) (by simp) tX tY
  (by rw [Hh,Hh];unfold Bb;rcases eu.take with ⟨h,-⟩ | ⟨h,-⟩;exact Or.inl h;exact Or.inr h) (by rw [Hh,Hh];unfold Bb;rcases eu.take with ⟨-,h⟩ | ⟨-,h⟩;exact Or.inr h;exact Or.inl h)
  (Nat.lt_of_le_of_lt l2 hUB) (Nat.lt_of_le_of_lt (Jf l1 l2) hUB))
 have A:=Ba ha
 have B:=Ba hb
 have C:=Ba hc
 have D:=Ba hd
 have EU:=Ba eu
 have EU2:=Ba eu2
 have L1:=Ba l1
 have L3:=Ba l3
 have L4:=Ba l4
 have Z:=Ba z
 replace bb:=Ia bb b1
 replace k0:=k0.b b1
 replace j0:=j0.b b1
 replace j1:=j1.b b1
 clear ha hb hc hd eu eu2 l1 l2 l3 l4 z hUB b1 fe hd1 F1 LP LQ LP' LQ'
 obtain ⟨w6,hw6⟩:∃ w6,w6=w5.alloc (.cells #[.int .u64 (a:Nat),.int .u64 (b:Nat),.int .u64 (c:Nat),.int .u64 (d:Nat)] 276):=⟨_,rfl⟩
 have b1:Below w5.heap.size w5 w6:=by rw [hw6];go_grown
 have kF:Bi w6 w5.heap.size [.int .u64 (a:Nat),.int .u64 (b:Nat),.int .u64 (c:Nat),.int .u64 (d:Nat)] 276:=by rw [hw6];exact Bi.new _ _ _
 have b15:=bb.size
 have hlt5:w3.heap.size+1<w5.heap.size:=j1.lt
 replace bb:=Ia bb b1
 replace k0:=k0.b b1
 replace j0:=j0.b b1
 replace j1:=j1.b b1
 clear b1
 go_wp2_with fail
 rw [← hw6]
 clear hw6
 have s0:=kF.cell 0
 have s1:=kF.cell 1
 have s2:=kF.cell 2
 have s3:=kF.cell 3
 simp only [Jn,Jm] at s0 s1 s2 s3
 have TK2:=Ba (TK.out w6.drew j0 j1)
 clear TK
 go_region_with (first | (go_at_call 207;refine TK2.out.mono ?_;rintro e w7 ⟨xs',ys',rfl,z0,z1,z2,z3,z4,z5,z6,z7,g7⟩))
 obtain ⟨p2,q2,rfl⟩:=Ti z2
 obtain ⟨p3,q3,rfl⟩:=Ti z3
 rw [Hh] at z6 z7
 have Z6:=Ba z6
 have Z7:=Ba z7
 have lq2:q2<Bb:=z4 q2 (by simp)
 have lp2:p2<Bb:=z4 p2 (by simp)
 have lq3:q3<Bb:=z5 q3 (by simp)
 have lp3:p3<Bb:=z5 p3 (by simp)
 have hq2:4294967296≤q2:=by
  have:=L3.out
  rw [← z6] at this
  unfold Bb at this lp2
  omega
 have hq3:q3≤q2:=by
  have:=L1.out
  rw [← z6,← z7] at this
  unfold Bb at this lp2
  omega
 have HQ2:=Ba hq2
 have HQ3:=Ba hq3
 replace bb:=Cj.b (show Below w.heap.size w w6.drew from (un bb)) g7 bb.size (show w.heap.size≤w3.heap.size by omega) (show w.heap.size≤w3.heap.size+1 by omega)
 replace k0:=(show Bi w6.drew w.heap.size _ _ from k0).grew2 g7 (by omega) (by omega)
 replace kF:=(show Bi w6.drew w5.heap.size _ _ from kF).grew2 g7 (by omega) (by omega)
 clear j0 j1 s0 s1 s2 s3 z2 z3 TK2
 have r0:Rd w7 (.slice (some ⟨w3.heap.size,0,none⟩) 2 2) [p2,q2]:=z0.rd 2 (by simp)
 have r1:Rd w7 (.slice (some ⟨w3.heap.size+1,0,none⟩) 2 2) [p3,q3]:=z1.rd 2 (by simp)
 have y0:=z0.cell (j:=1) (by simp)
 rw [show lm ([p2,q2] ++ []) 1=q2 from rfl] at y0
 have LZ:=Ba (fun w=>Li q2 (by omega) lq2 w)
 have LX:=Ba (fun (s:Nat) (hs:s≤63) (h:q2*2 ^ s<Bb) (w1:World) (b1:Below w7.heap.size w7 w1)=>leading_any _ 2 [p2,q2] 2 s w1 (r0.b b1) z4 (by simp) (by omega) (by omega) hs h)
 have LY:=Ba (fun (s:Nat) (hs:s≤63) (h:q2*2 ^ s<Bb) (w1:World) (b1:Below w7.heap.size w7 w1)=>leading_any _ 2 [p3,q3] 2 s w1 (r1.b b1) z5 (by simp) (by omega) (by omega) hs (Nat.lt_of_le_of_lt (Nat.mul_le_mul_right _ hq3) h))
 have LP2:=Ba lp2
 have LP3:=Ba lp3
 have Z0:=Ba z0
 have Z1:=Ba z1
 clear lp2 lp3 lq2 lq3 hq2 hq3 z0 z1 z4 z5 z6 z7 r0 r1 g7
 go_wp2_with fail
 refine (LZ.out _).mono ?_
 rintro e w8 ⟨⟨s2,rfl,hs2,t1,t2⟩,rfl⟩
 have T1:=Ba t1
 have T2:=Ba t2
 have LX2:=Ba (LX.out s2 hs2 t2)
 have LY2:=Ba (LY.out s2 hs2 t2)
 clear LX LY LZ t1 t2 y0
 go_wp2_with fail
 have hix:=ix1
 obtain ⟨n8,hn8⟩:∃ n8,n8=w8:=⟨_,rfl⟩
 have HX3:Hid (∀ x1:World,Below n8.heap.size n8 x1→Calls Tryz.prog 234 #[.slice (some ⟨w3.heap.size,0,none⟩) 2 2,.int .i64 2,.int .i64 (s2:Nat)] x1 fun e w'=>∃ p q:Nat,e=.returned (.agg #[.int .u64 (p:Nat),.int .u64 (q:Nat)])∧p<Bb∧q<Bb∧p+Bb*q=M.val Bb [p2,q2]*2 ^ s2 / Bb ^ (2 - 2)∧Below n8.heap.size n8 w'∧Below x1.heap.size x1 w'):=by
  intro x1 h
  refine (LX2.out x1 (by rw [← hn8];exact h)).mono ?_
  rintro e w' ⟨p,q,h1,h2,h3,h4,h5⟩
  exact ⟨p,q,h1,h2,h3,h4,Ia h h5,h5⟩
 have HY3:Hid (∀ x1:World,Below n8.heap.size n8 x1→Calls Tryz.prog 234 #[.slice (some ⟨w3.heap.size+1,0,none⟩) 2 2,.int .i64 2,.int .i64 (s2:Nat)] x1 fun e w'=>∃ p q:Nat,e=.returned (.agg #[.int .u64 (p:Nat),.int .u64 (q:Nat)])∧p<Bb∧q<Bb∧p+Bb*q=M.val Bb [p3,q3]*2 ^ s2 / Bb ^ (2 - 2)∧Below n8.heap.size n8 w'∧Below x1.heap.size x1 w'):=by
  intro x1 h
  refine (LY2.out x1 (by rw [← hn8];exact h)).mono ?_
  rintro e w' ⟨p,q,h1,h2,h3,h4,h5⟩
  exact ⟨p,q,h1,h2,h3,h4,Ia h h5,h5⟩
 have HF3:Hid (∀ (x y:Nat),x<Bb→y≤x→∀ x1:World,Below n8.heap.size n8 x1→Calls Tryz.prog 235 #[.int .u64 (x:Nat),.int .u64 (y:Nat)] x1 fun e w'=>∃ a b c d p r:Nat,e=.returned (.agg #[.int .u64 (a:Nat),.int .u64 (b:Nat),.int .u64 (c:Nat),.int .u64 (d:Nat)])∧M.Few x y a b c d p r∧b<1073741824∧d<1073741824∧Below n8.heap.size n8 w'∧Below x1.heap.size x1 w'):=by
  intro x y hx hyx x1 h
  refine (Bcj x y hx hyx x1).mono ?_
  rintro e w' ⟨a,b,c,d,p,r,h1,h2,h3,h4,h5⟩
  exact ⟨a,b,c,d,p,r,h1,h2,h3,h4,Ia h h5,h5⟩
 have hb8:Below n8.heap.size n8 w8:=by rw [hn8];exact Jg _ _
 have bn:Below w.heap.size w n8:=by rw [hn8];exact bb
 have kn:Bi n8 w.heap.size [.int .u64 0,.int .u64 0,.int .u64 0,.int .u64 0] 276:=by rw [hn8];exact k0
 have kf:Bi n8 w5.heap.size [.int .u64 (a:Nat),.int .u64 (b:Nat),.int .u64 (c:Nat),.int .u64 (d:Nat)] 276:=by rw [hn8];exact kF
 clear hn8 LX2 LY2 bb k0 kF Z0 Z1
 generalize hg0:w3.heap.size=g0 at *
 generalize hg1:g0+1=g1 at *
 have HG0:=Ba hg0
 have HG1:=Ba hg1
 clear hg0 hg1
 go_cut [9] from 39 to 47 (fun v9 wx=>∃ (gb a2 b2 c2 d2 u3 v3 x2 y2 u1 u2:Nat),v9=.pointer (some ⟨gb,0,none⟩)∧(Bi wx gb [.int .u64 (a2:Nat),.int .u64 (b2:Nat),.int .u64 (c2:Nat),.int .u64 (d2:Nat)] 276∧Below n8.heap.size n8 wx) ∧
  M.Few x2 y2 a2 b2 c2 d2 u3 v3∧b2<1073741824∧d2<1073741824∧u1<Bb∧u2<Bb∧u1+Bb*x2=M.val Bb [p2,q2]*2 ^ s2 / Bb ^ (2 - 2)∧u2+Bb*y2=M.val Bb [p3,q3]*2 ^ s2 / Bb ^ (2 - 2))
 case first =>
  go_region_held3 (fun w'=>True)
   (trivial)
   (first
   | (go_at_call 234;go_fit (HX3.out _ ?_);(first | exact hb8 | exact hb8.drew | exact b9 | exact b9.drew | exact b10 | exact b10.drew | exact Ic hb8 _ | exact (Ic hb8 _).drew | exact Ic b9 _ | exact (Ic b9 _).drew | exact Ic b10 _ | exact (Ic b10 _).drew);rintro e w9 ⟨u1,x2,rfl,l5,l6,l7,b9,c9⟩;try (first | have kc:=Bd3 c9 | have kc:=Bd3 (Ih c9)))
   | (go_at_call 234;go_fit (HY3.out _ ?_);(first | exact hb8 | exact hb8.drew | exact b9 | exact b9.drew | exact b10 | exact b10.drew | exact Ic hb8 _ | exact (Ic hb8 _).drew | exact Ic b9 _ | exact (Ic b9 _).drew | exact Ic b10 _ | exact (Ic b10 _).drew);rintro e w10 ⟨u2,y2,rfl,l8,l9,l10,b10,c10⟩;try (first | have kd:=kc.b c10 | have kd:=kc.drew.b c10 | have kd:=Bd3 c10 | have kd:=Bd3 (Ih c10)))
   | (go_at_call 235;refine (HF3.out _ _ l6 ?_ _ ?_).mono ?_;exact Bn1 Z6.out Z7.out L1.out l5 l7 l10;(first | exact hb8 | exact hb8.drew | exact b9 | exact b9.drew | exact b10 | exact b10.drew | exact Ic hb8 _ | exact (Ic hb8 _).drew | exact Ic b9 _ | exact (Ic b9 _).drew | exact Ic b10 _ | exact (Ic b10 _).drew);rintro e w11 ⟨a2,b2,c2,d2,u3,v3,rfl,fe2,l11,l12,b11,c11⟩;try (first | have ke:=kd.b c11 | have ke:=kd.drew.b c11 | have ke:=Bd3 c11 | have ke:=Bd3 (Ih c11));try (have e0:=Qa ke;have e1:=P9 ke;have e2:=P7 ke;have e3:=P6 ke;have e4:=ke.o 0;have e5:=ke.o 1;have e6:=ke.o 2;have e7:=ke.o 3)))
  all_goals go_wp2_with fail
  all_goals go_meet
  all_goals first
   | (refine ⟨w11.heap.size,a2,b2,c2,d2,u3,v3,x2,y2,u1,u2,rfl,?_,fe2,l11,l12,l5,l8,l7,l10⟩;exact Bkv b11 _ _ _ _)
   | (refine ⟨w10.heap.size,a2,b2,c2,d2,u3,v3,x2,y2,u1,u2,rfl,?_,fe2,l11,l12,l5,l8,l7,l10⟩;exact Vq b11 ke b10.size _ _ _ _)
   | (refine ⟨w9.heap.size,a2,b2,c2,d2,u3,v3,x2,y2,u1,u2,rfl,?_,fe2,l11,l12,l5,l8,l7,l10⟩;exact Vq b11 ke b9.size _ _ _ _)
   | (refine ⟨w8.heap.size,a2,b2,c2,d2,u3,v3,x2,y2,u1,u2,rfl,?_,fe2,l11,l12,l5,l8,l7,l10⟩;exact Vq b11 ke hb8.size _ _ _ _)
 case rest =>
 obtain ⟨gb,a2,b2,c2,d2,u3,v3,x2,y2,u1,u2,rfl,⟨ke,be⟩,fe2,l11,l12,l5,l8,l7,l10⟩:=hcut
 replace kn:=kn.b be
 replace kf:=kf.b be
 replace bn:=Ia bn be
 obtain ⟨A2,C2,D2⟩:=fe2.small l11 l12
 have AF:=Ba (fun w=>Be7 a2 b2 c2 d2 a b c d w A2 l11 C2 l12 A.out B.out C.out D.out)
 unfold Wz at AF
 have RES:=Ba (M.second_steps (Nat.pow_pos (by omega)) (Nat.pow_pos (by omega)) (Bok (Bn8 HQ2.out T2.out)) (Nat.pow_pos Bm) Q1.out Q2.out Q3.out Q4.out A.out B.out C.out D.out EU2.out EU.out L4.out Z.out (t2X Z6.out l7) l5 (t2X Z7.out l10) l8 fe2)
 have P1:=Ba (Bbl A2 l11 A.out C.out)
 have P2:=Ba (Bbl A2 l11 B.out D.out)
 have P3:=Ba (Bbl C2 l12 A.out C.out)
 have P4:=Ba (Bbl C2 l12 B.out D.out)
 have e0:=Qa ke
 have e1:=P9 ke
 have e2:=P7 ke
 have e3:=P6 ke
 have g0':=Qa kf
 have g1':=P9 kf
 have g2':=P7 kf
 have g3':=P6 kf
 clear fe2 l11 l12 l5 l8 l7 l10 A2 C2 D2 HX3 HY3 HF3 Q1 Q2 Q3 Q4 EU EU2 L1 L3 L4 Z Z6 Z7 T1 T2 HQ2 HQ3 A B C D
 go_wp2_with fail
 refine (AF.out _).mono ?_
 rintro e wz ⟨rfl,bz⟩
 replace kn:=kn.b bz
 replace bn:=Ia bn bz
 have z0:=Qa kn
 have z1:=P9 kn
 have z2:=P7 kn
 have z3:=P6 kn
 have f0:=kn.o 0
 have f1:=kn.o 1
 have f2:=kn.o 2
 have f3:=kn.o 3
 clear AF e0 e1 e2 e3 g0' g1' g2' g3' bz
 go_wp2
 refine Kq (p:=4) (by kernel_rfl) rfl rfl ((((kn.set 0 _).set 1 _).set 2 _).set 3 _) ⟨_,_,_,_,rfl,P1.out,P2.out,P3.out,P4.out,?_,(((bn.setCell (by simp) _).setCell (by simp) _).setCell (by simp) _).setCell (by simp) _⟩
 exact RES.out
end Go.Proofs.YtnplifkgeeicjaaGreatDoor
