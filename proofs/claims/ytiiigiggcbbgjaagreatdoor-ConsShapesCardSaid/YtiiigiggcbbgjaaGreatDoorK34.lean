/-
  Blocks that were laid ahead of a call, behind it; blocks of three cells.
  A region whose order is open: blocks come up whenever they will, beside calls in a row.
  Regions whose order is open, with three blocks of one type.
  Regions whose order is open: three operations that read, whenever they will, the world as it is.
  Regions whose order is open, with a row that is laid at an open time.
  slices.Index and slices.Contains over rows of Nats.
  A region whose order is open, without a block of its own: what is read is told by S.
  Package long: products, sums and differences of Nats that are not long.
  A region whose order is open: what is not asked for; eighteen cells.
  Package vec: check of any row of numbers.
  Package rat: den, order, plus, times, divisor, cut.
-/
import Derived.Deep.CutRange
import Derived.Deep.DeepFit
import Derived.Test.YtiiigiggcbbgjaaGreatDoorK27
set_option maxRecDepth 100000
set_option maxHeartbeats 2000000
namespace Go.Proofs.YtiiigiggcbbgjaaGreatDoor
open Go.RowKit
theorem cel3_0 {w : World} {g : Nat} {x y z : Value} {t : TypeId} (h : Cel w g [x, y, z] t) : w.cell? ⟨g, 0, none⟩ = some x := h.cell 0
theorem cel3_1 {w : World} {g : Nat} {x y z : Value} {t : TypeId} (h : Cel w g [x, y, z] t) : w.cell? ⟨g, 1, none⟩ = some y := h.cell 1
theorem cel3_2 {w : World} {g : Nat} {x y z : Value} {t : TypeId} (h : Cel w g [x, y, z] t) : w.cell? ⟨g, 2, none⟩ = some z := h.cell 2
theorem cel_top (w : World) (cs : List Value) (t : TypeId) : Cel (w.alloc (.cells cs.toArray t)) w.heap.size cs t := Cel.new w cs t
theorem bel_al (w : World) (o : Obj) : Below w.heap.size w (w.alloc o) := (Below.refl _ _).alloc (Nat.le_refl _) o
theorem ba {w w1 : World} (b : Below w.heap.size w w1) (o : Obj) : Below w.heap.size w (w1.alloc o) := b.alloc b.size o
theorem al1 {w w' : World} {c0 : List Value} {t0 : TypeId} (b : Below (w.alloc (.cells c0.toArray t0)).heap.size (w.alloc (.cells c0.toArray t0)) w') :
  Cel w' w.heap.size c0 t0 ∧ Below w.heap.size w w' := ⟨(cel_top w c0 t0).below b, Below.after (bel_al w _) b⟩
theorem al2 {w w' : World} {c0 c1 : List Value} {t0 t1 : TypeId} (b : Below ((w.alloc (.cells c0.toArray t0)).alloc (.cells c1.toArray t1)).heap.size ((w.alloc (.cells c0.toArray t0)).alloc (.cells c1.toArray t1)) w') :
  Cel w' w.heap.size c0 t0 ∧ Cel w' (w.heap.size + 1) c1 t1 ∧ Below w.heap.size w w' := by
 obtain ⟨k1, b1⟩ := al1 b
 obtain ⟨k0, b0⟩ := al1 b1
 exact ⟨k0, by simpa using k1, b0⟩
theorem al3 {w w' : World} {c0 c1 c2 : List Value} {t0 t1 t2 : TypeId} (b : Below (((w.alloc (.cells c0.toArray t0)).alloc (.cells c1.toArray t1)).alloc (.cells c2.toArray t2)).heap.size (((w.alloc (.cells c0.toArray t0)).alloc (.cells c1.toArray t1)).alloc (.cells c2.toArray t2)) w') :
  Cel w' w.heap.size c0 t0 ∧ Cel w' (w.heap.size + 1) c1 t1 ∧ Cel w' (w.heap.size + 1 + 1) c2 t2 ∧ Below w.heap.size w w' := by
 obtain ⟨k2, b2⟩ := al1 b
 obtain ⟨k0, k1, b0⟩ := al2 b2
 exact ⟨k0, k1, by simpa using k2, b0⟩
theorem al4 {w w' : World} {c0 c1 c2 c3 : List Value} {t0 t1 t2 t3 : TypeId} (b : Below ((((w.alloc (.cells c0.toArray t0)).alloc (.cells c1.toArray t1)).alloc (.cells c2.toArray t2)).alloc (.cells c3.toArray t3)).heap.size ((((w.alloc (.cells c0.toArray t0)).alloc (.cells c1.toArray t1)).alloc (.cells c2.toArray t2)).alloc (.cells c3.toArray t3)) w') :
  Cel w' w.heap.size c0 t0 ∧ Cel w' (w.heap.size + 1) c1 t1 ∧ Cel w' (w.heap.size + 1 + 1) c2 t2 ∧ Cel w' (w.heap.size + 1 + 1 + 1) c3 t3 ∧ Below w.heap.size w w' := by
 obtain ⟨k3, b3⟩ := al1 b
 obtain ⟨k0, k1, k2, b0⟩ := al3 b3
 exact ⟨k0, k1, k2, by simpa using k3, b0⟩
theorem mk1 (w : World) (c0 : List Value) (t0 : TypeId) : ∃ w', w' = w.alloc (.cells c0.toArray t0) ∧ Cel w' w.heap.size c0 t0 ∧ Below w.heap.size w w' := ⟨_, rfl, al1 (Below.refl _ _)⟩
theorem mk2 (w : World) (c0 c1 : List Value) (t0 t1 : TypeId) : ∃ w', w' = (w.alloc (.cells c0.toArray t0)).alloc (.cells c1.toArray t1) ∧ Cel w' w.heap.size c0 t0 ∧ Cel w' (w.heap.size + 1) c1 t1 ∧ Below w.heap.size w w' := ⟨_, rfl, al2 (Below.refl _ _)⟩
theorem mk3 (w : World) (c0 c1 c2 : List Value) (t0 t1 t2 : TypeId) : ∃ w', w' = ((w.alloc (.cells c0.toArray t0)).alloc (.cells c1.toArray t1)).alloc (.cells c2.toArray t2) ∧ Cel w' w.heap.size c0 t0 ∧ Cel w' (w.heap.size + 1) c1 t1 ∧ Cel w' (w.heap.size + 1 + 1) c2 t2 ∧ Below w.heap.size w w' := ⟨_, rfl, al3 (Below.refl _ _)⟩
theorem mk4 (w : World) (c0 c1 c2 c3 : List Value) (t0 t1 t2 t3 : TypeId) : ∃ w', w' = (((w.alloc (.cells c0.toArray t0)).alloc (.cells c1.toArray t1)).alloc (.cells c2.toArray t2)).alloc (.cells c3.toArray t3) ∧ Cel w' w.heap.size c0 t0 ∧ Cel w' (w.heap.size + 1) c1 t1 ∧ Cel w' (w.heap.size + 1 + 1) c2 t2 ∧ Cel w' (w.heap.size + 1 + 1 + 1) c3 t3 ∧ Below w.heap.size w w' := ⟨_, rfl, al4 (Below.refl _ _)⟩
theorem load3 {w : World} {g : Nat} {x y z : Value} (h : Cel w g [x, y, z] 26) : (loadVar 26 ⟨g, 0, none⟩).run Tryz.prog w = .ok (.agg #[x, y, z]) w :=
 run_loadVar_row w g 26 26 #[x, y, z] (0, 0) _ h Tryz.underlying26 rfl (by kernel_rfl)
theorem post_q {fn : Func} {p : Tmp} {R : Ending → World → Prop} {a : Act} {w : World} {g : Nat} {x y z : Value} (h : fn.results = #[.cell p 26]) (hp : a.tmps.getD p undef = .pointer (some ⟨g, 0, none⟩)) (hd : a.defers = [])
  (hc : Cel w g [x, y, z] 26) (hR : R (.returned (.agg #[x, y, z])) w) : bodyPost Tryz.prog fn R .ret a w := by
 refine ⟨hd, .agg #[x, y, z], ?_, hR⟩
 exact results_cell_row (P := Tryz.prog) h _ w g 26 #[x, y, z] (0, 0) _ hp hc Tryz.underlying26 rfl (by kernel_rfl)
theorem post_q1 {fn : Func} {p u : Tmp} {R : Ending → World → Prop} {a : Act} {w : World} {g : Nat} {x y z v : Value} (h : fn.results = #[.cell p 26, .tmp u]) (hp : a.tmps.getD p undef = .pointer (some ⟨g, 0, none⟩)) (hu : a.tmps.getD u undef = v) (hd : a.defers = [])
  (hc : Cel w g [x, y, z] 26) (hR : R (.returned (.tuple #[.agg #[x, y, z], v])) w) : bodyPost Tryz.prog fn R .ret a w := by
 refine ⟨hd, .tuple #[.agg #[x, y, z], v], ?_, hR⟩
 rw [results_cell_tmp h, hp, hu]
 simp [asAddr, load3 hc, Result.andThen]
theorem bdrew (w : World) : Below w.heap.size w w.drew := (Below.refl w.heap.size w).drew
def unl (l : Array Bool) : Nat := l.toList.count false
def WA (P : Program) (ops : Array Oper) (Q : Exit → Act → World → Prop) (S : World → Prop) (l : Array Bool) (a : Act) (w : World) : Prop := wpAnyH P .any ops Q S (unl l) l a w
theorem cnt_set (l : List Bool) (i : Nat) (h : l[i]? = some false) : l.count false = (l.set i true).count false + 1 := by
 induction l generalizing i with
 | nil => simp at h
 | cons b l ih =>
  cases i with
  | zero => simp at h; subst h; simp
  | succ i =>
   simp at h
   have := ih i h
   cases b <;> simp [this]
theorem unl_set {l : Array Bool} {i : Nat} (h : l.getD i true = false) : unl l = unl (l.setIfInBounds i true) + 1 := by
 unfold unl
 rw [Array.toList_setIfInBounds]
 refine cnt_set _ _ ?_
 rcases Nat.lt_or_ge i l.size with h' | h'
 ·simp [h'] at h
  simp [h', h]
 ·simp [h'] at h
theorem ba2 {W w1 : World} (b : Below W.heap.size W w1) {o : Obj} : Below W.heap.size W (w1.alloc o) := b.alloc b.size o
theorem WA.all {P : Program} {ops : Array Oper} {Q : Exit → Act → World → Prop} {S : World → Prop} {l : Array Bool} {a : Act} {w : World} (hne : Region.ready .any ops l ≠ [])
  (h : ∀ i ∈ Region.ready .any ops l, wpOp P ops Q i (fun a' w' => S w' ∧ WA P ops Q S (l.setIfInBounds i true) a' w') a w) : WA P ops Q S l a w := by
 unfold WA
 cases hr : Region.ready .any ops l with
 | nil => exact absurd hr hne
 | cons i rs =>
  have hi : i ∈ Region.ready .any ops l := by rw [hr]; simp
  rw [unl_set (mem_ready.1 hi).1]
  refine wpAnyH_all rfl hne (fun j hj => wpOp_mono (fun a' w' h' => ⟨h'.1, ?_⟩) (h j hj))
  have h2 := h'.2
  unfold WA at h2
  rw [show unl (l.setIfInBounds i true) = unl (l.setIfInBounds j true) by have := unl_set (mem_ready.1 hi).1; have := unl_set (mem_ready.1 hj).1; omega]
  exact h2
theorem WA.done {P : Program} {ops : Array Oper} {Q : Exit → Act → World → Prop} {S : World → Prop} {l : Array Bool} {a : Act} {w : World} (hr : Region.ready .any ops l = []) (h : Q .normal a w) : WA P ops Q S l a w := wpAnyH_done hr h _
theorem WA.start {P : Program} {ops : Array Oper} {Q : Exit → Act → World → Prop} {S : World → Prop} {a : Act} {w : World} {n : Nat} (hn : ops.size = n) (h : WA P ops Q S (Array.replicate n false) a w) : wpAnyH P .any ops Q S ops.size (Array.replicate ops.size false) a w := by
 subst hn
 have : unl (Array.replicate ops.size false) = ops.size := by unfold unl; simp
 unfold WA at h
 rw [this] at h
 exact h
theorem WA.take {P : Program} {ops : Array Oper} {Q : Exit → Act → World → Prop} {S : World → Prop} {l : Array Bool} {a : Act} {w : World} {i : Nat} {oi : Oper} {v : Value} (hi : ops[i]? = some oi)
  (hs : Region.noSelect ops = true) (hf : Region.free .any ops l i = true) (hr : (Region.ready .any ops l).contains i = true)
  (hQ : ∀ c a w, Q (.panic c) (a.put oi.dst v) w → Q (.panic c) a w) (hy : YieldsIf P ops S oi v a) (hS : S w)
  (h : WA P ops Q S (l.setIfInBounds i true) (a.put oi.dst v) w) : WA P ops Q S l a w := by
 have hm : i ∈ Region.ready .any ops l := by simpa using hr
 unfold WA at h ⊢
 rw [unl_set (mem_ready.1 hm).1]
 exact wpAnyH_take hi hs hf hr hQ hy hS h
theorem WA.calls {P : Program} {ops : Array Oper} {Q : Exit → Act → World → Prop} {S : World → Prop} {l : Array Bool} {a : Act} {w : World} {c : Nat} (J : Array Bool → Act → World → Prop) (ne : ∀ l a w, J l a w → Region.ready .any ops l ≠ [])
  (st : ∀ l a w, J l a w → ∀ i ∈ Region.ready .any ops l, i ≠ c → wpOp P ops Q i (fun a' w' => S w' ∧ J (l.setIfInBounds i true) a' w') a w)
  (ca : ∀ l a w, J l a w → wpOp P ops Q c (fun a' w' => S w' ∧ WA P ops Q S (l.setIfInBounds c true) a' w') a w) : J l a w → WA P ops Q S l a w := by
 have : ∀ n l a w, unl l = n → J l a w → WA P ops Q S l a w := by
  intro n
  induction n with
  | zero =>
   intro l a w hl hJ
   refine WA.all (ne _ _ _ hJ) (fun i hi => ?_)
   have := unl_set (mem_ready.1 hi).1
   omega
  | succ n ih =>
   intro l a w hl hJ
   refine WA.all (ne _ _ _ hJ) (fun i hi => ?_)
   by_cases h : i = c
   ·subst h; exact ca _ _ _ hJ
   ·refine wpOp_mono (fun a' w' h' => ⟨h'.1, ih _ _ _ ?_ h'.2⟩) (st _ _ _ hJ i hi h)
    have := unl_set (mem_ready.1 hi).1
    omega
 exact this _ _ _ _ rfl
abbrev SB (W : World) : World → Prop := fun w' => Below W.heap.size W w'
def Pt (W : World) (z : List Value) (t : TypeId) (v : Value) (w : World) : Prop := ∃ g, v = .pointer (some ⟨g, 0, none⟩) ∧ W.heap.size ≤ g ∧ Cel w g z t
theorem Pt.below {W w w' : World} {z : List Value} {t : TypeId} {v : Value} (h : Pt W z t v w) (hb : Below w.heap.size w w') : Pt W z t v w' := by
 obtain ⟨g, h1, h2, h3⟩ := h
 exact ⟨g, h1, h2, h3.below hb⟩
theorem Pt.new {W w : World} (h : SB W w) (z : List Value) (t : TypeId) : Pt W z t (.pointer (some ⟨w.heap.size, 0, none⟩)) (w.alloc (.cells z.toArray t)) := ⟨_, rfl, h.size, Cel.new w z t⟩
theorem Pt.ne {W w : World} {z : List Value} {t : TypeId} {v : Value} (h : Pt W z t v w) : v ≠ .pointer (some ⟨w.heap.size, 0, none⟩) := by
 obtain ⟨g, rfl, h2, h3⟩ := h
 have := h3.lt
 intro e
 injection e with e
 injection e with e
 injection e with e
 omega
theorem WA.gen {P : Program} {ops : Array Oper} {Q : Exit → Act → World → Prop} {S : World → Prop} {l : Array Bool} {a : Act} {w : World} {i s : Nat} (v : Value) (Z : Value → World → Prop) (h : ∀ b x, (b = true → Z x w) → WA P ops Q S (l.setIfInBounds i b) (a.put (some s) x) w)
  (hl : l.setIfInBounds i false = l := by kernel_rfl) (ha : a.put (some s) v = a := by kernel_rfl) : WA P ops Q S l a w := by
 have := h false v (fun h => by cases h)
 rw [hl, ha] at this
 exact this
theorem WA.gen2 {P : Program} {ops : Array Oper} {Q : Exit → Act → World → Prop} {S : World → Prop} {l : Array Bool} {a : Act} {w : World} {i s i' s' : Nat} (v v' : Value) (Z Z' : Value → World → Prop) (h : ∀ b b' x x', (b = true → Z x w) → (b' = true → Z' x' w) → (b = true → b' = true → x ≠ x') → WA P ops Q S ((l.setIfInBounds i b).setIfInBounds i' b') ((a.put (some s) x).put (some s') x') w)
  (hl : (l.setIfInBounds i false).setIfInBounds i' false = l := by kernel_rfl) (ha : (a.put (some s) v).put (some s') v' = a := by kernel_rfl) : WA P ops Q S l a w := by
 have := h false false v v' (fun h => by cases h) (fun h => by cases h) (fun h => by cases h)
 rw [hl, ha] at this
 exact this
theorem WA.call {P : Program} {ops : Array Oper} {Q : Exit → Act → World → Prop} {l : Array Bool} {a : Act} {w : World} {W : World} {oc : Oper} (c : Nat) (hc : ops[c]? = some oc) (ca : ∀ K : Act → World → Prop, Shut (∀ a w'', SB W w'' → (SB W w'' → WA P ops Q (SB W) (l.setIfInBounds c true) a w'') → K a w'') → if Region.wanted oc (yielded ops (a).tmps) = true then Oper.wp P oc (a) w K Q else K ((a).put oc.dst undef) w) (rT : Region.ready .any ops l = [c] := by kernel_rfl) : WA P ops Q (SB W) l a w := by
 refine WA.all (by rw [rT]; simp) (fun i hi => ?_)
 rw [rT] at hi
 simp at hi
 subst hi
 exact wpOp_step hc (fun K hK => ca K (fun a w'' hS hW => hK _ _ ⟨hS, hW hS⟩))
def LB (n m i : Nat) (b : Bool) : Array Bool := ((Array.range n).map fun k => m.testBit k).setIfInBounds i b
theorem LB.set (n m i : Nat) (b c : Bool) : (LB n m i b).setIfInBounds i c = LB n m i c := by
 unfold LB
 rw [Array.setIfInBounds_setIfInBounds]
def LB2 (n m i i' : Nat) (b b' : Bool) : Array Bool := (((Array.range n).map fun k => m.testBit k).setIfInBounds i b).setIfInBounds i' b'
theorem LB2.set (n m i i' : Nat) (h : i ≠ i') (b b' c : Bool) : (LB2 n m i i' b b').setIfInBounds i c = LB2 n m i i' c b' := by
 unfold LB2
 rw [Array.setIfInBounds_comm _ _ (Ne.symm h), Array.setIfInBounds_setIfInBounds]
theorem LB2.set' (n m i i' : Nat) (b b' c : Bool) : (LB2 n m i i' b b').setIfInBounds i' c = LB2 n m i i' b c := by
 unfold LB2
 rw [Array.setIfInBounds_setIfInBounds]
theorem WA.one {P : Program} {ops : Array Oper} {Q : Exit → Act → World → Prop} {w : World} {W : World} {o0 oc : Oper} {L0 : Bool → Array Bool} {A : Value → Act} {z : List Value} {t : TypeId} (n m c i0 : Nat)
  (h0 : ops[i0]? = some o0) (hc : ops[c]? = some oc) (bW : SB W w)
  (ca : ∀ b x w', (b = true → Pt W z t x w') → Below w.heap.size w w' → SB W w' → ∀ K : Act → World → Prop, Shut (∀ a w'', SB W w'' → (SB W w'' → WA P ops Q (SB W) ((LB n m i0 b).setIfInBounds c true) a w'') → K a w'') → if Region.wanted oc (yielded ops (A x).tmps) = true then Oper.wp P oc (A x) w' K Q else K ((A x).put oc.dst undef) w')
  (al : ∀ v w', Region.wanted o0 (yielded ops (A v).tmps) = true ∧ (execOp (A v).eval o0).run P w' = .ok (.value (.pointer (some ⟨w'.heap.size, 0, none⟩))) (w'.alloc (.cells z.toArray t)) ∧ ∀ u, (A v).put o0.dst u = A u := by intros; exact ⟨by rfl, by go_simp, fun _ => by kernel_rfl⟩)
  (h00 : ∀ b, L0 b = LB n m i0 b := by intro b; cases b <;> kernel_rfl) (rT : Region.ready .any ops (LB n m i0 true) = [c] := by kernel_rfl) (rF : Region.ready .any ops (LB n m i0 false) = (if i0 < c then [i0, c] else [c, i0]) := by kernel_rfl) : ∀ b x, (b = true → Pt W z t x w) → WA P ops Q (SB W) (L0 b) (A x) w := by
 intro b x hz
 rw [h00]
 refine WA.calls (c := c) (fun l a w' => ∃ b x, l = LB n m i0 b ∧ a = A x ∧ (b = true → Pt W z t x w') ∧ Below w.heap.size w w' ∧ SB W w') ?_ ?_ ?_ ⟨b, x, rfl, rfl, hz, Below.refl _ _, bW⟩
 ·rintro l a w' ⟨b, x, rfl, rfl, -⟩
  cases b
  ·rw [rF]; split <;> simp
  ·rw [rT]; simp
 ·rintro l a w' ⟨b, x, rfl, rfl, h1, h2, h3⟩ i hi hne
  cases b
  ·have hi0 : i = i0 := by
    rw [rF] at hi
    split at hi <;> simp at hi <;> rcases hi with h | h <;> first | exact h | exact absurd h hne
   subst hi0
   obtain ⟨hw, hr, hp⟩ := al x w'
   refine wpOp_step h0 (fun K hK => ?_)
   rw [if_pos hw]
   unfold Oper.wp
   rw [hr]
   simp only [Oper.upon]
   exact hK _ _ ⟨ba2 h3, true, _, LB.set _ _ _ _ _, hp _, fun _ => Pt.new h3 z t, ba2 h2, ba2 h3⟩
  ·rw [rT] at hi; simp at hi; exact absurd hi hne
 ·rintro l a w' ⟨b, x, rfl, rfl, h1, h2, h3⟩
  exact wpOp_step hc (fun K hK => ca b x w' h1 h2 h3 K (fun a w'' hS hW => hK _ _ ⟨hS, hW hS⟩))
theorem WA.fin {P : Program} {ops : Array Oper} {Q : Exit → Act → World → Prop} {w : World} {W : World} {o0 : Oper} {L : Bool → Array Bool} {A : Value → Act} {z : List Value} {t : TypeId} (i0 : Nat)
  (h0 : ops[i0]? = some o0) (bW : SB W w)
  (ca : ∀ x w', Pt W z t x w' → Below w.heap.size w w' → SB W w' → WA P ops Q (SB W) (L true) (A x) w')
  (al : ∀ v w', Region.wanted o0 (yielded ops (A v).tmps) = true ∧ (execOp (A v).eval o0).run P w' = .ok (.value (.pointer (some ⟨w'.heap.size, 0, none⟩))) (w'.alloc (.cells z.toArray t)) ∧ ∀ u, (A v).put o0.dst u = A u := by intros; exact ⟨by rfl, by go_simp, fun _ => by kernel_rfl⟩)
  (rF : Region.ready .any ops (L false) = [i0] := by kernel_rfl) (hL : (L false).setIfInBounds i0 true = L true := by kernel_rfl) : ∀ b x, (b = true → Pt W z t x w) → WA P ops Q (SB W) (L b) (A x) w := by
 intro b x hz
 cases b
 ·refine WA.all (by rw [rF]; simp) (fun i hi => ?_)
  rw [rF] at hi
  simp at hi
  subst hi
  obtain ⟨hw, hr, hp⟩ := al x w
  refine wpOp_step h0 (fun K hK => ?_)
  rw [if_pos hw]
  unfold Oper.wp
  rw [hr]
  simp only [Oper.upon]
  exact hK _ _ ⟨ba2 bW, by rw [hL, hp]; exact ca _ _ (Pt.new bW z t) (bel_al _ _) (ba2 bW)⟩
 ·exact ca x w (hz rfl) (Below.refl _ _) bW
structure P2 (W : World) (z z' : List Value) (t t' : TypeId) (b b' : Bool) (x x' : Value) (w : World) : Prop where
 p : b = true → Pt W z t x w
 p' : b' = true → Pt W z' t' x' w
 ne : b = true → b' = true → x ≠ x'
theorem P2.below {W w w' : World} {z z' : List Value} {t t' : TypeId} {b b' : Bool} {x x' : Value} (h : P2 W z z' t t' b b' x x' w) (hb : Below w.heap.size w w') : P2 W z z' t t' b b' x x' w' := ⟨fun e => (h.p e).below hb, fun e => (h.p' e).below hb, h.ne⟩
theorem P2.new {W w : World} {z z' : List Value} {t t' : TypeId} {b' : Bool} {x x' : Value} (h : P2 W z z' t t' false b' x x' w) (hS : SB W w) : P2 W z z' t t' true b' (.pointer (some ⟨w.heap.size, 0, none⟩)) x' (w.alloc (.cells z.toArray t)) := ⟨fun _ => Pt.new hS z t, fun e => (h.p' e).below (bel_al _ _), fun _ e => Ne.symm (h.p' e).ne⟩
theorem P2.new' {W w : World} {z z' : List Value} {t t' : TypeId} {b : Bool} {x x' : Value} (h : P2 W z z' t t' b false x x' w) (hS : SB W w) : P2 W z z' t t' b true x (.pointer (some ⟨w.heap.size, 0, none⟩)) (w.alloc (.cells z'.toArray t')) := ⟨fun e => (h.p e).below (bel_al _ _), fun _ => Pt.new hS z' t', fun e _ => (h.p e).ne⟩
theorem WA.two {P : Program} {ops : Array Oper} {Q : Exit → Act → World → Prop} {w : World} {W : World} {o0 o1 oc : Oper} {L0 : Bool → Bool → Array Bool} {A : Value → Value → Act} {z z' : List Value} {t t' : TypeId} (n m c i0 i1 : Nat)
  (h0 : ops[i0]? = some o0) (h1 : ops[i1]? = some o1) (hc : ops[c]? = some oc) (bW : SB W w)
  (ca : ∀ b b' x x' w', P2 W z z' t t' b b' x x' w' → Below w.heap.size w w' → SB W w' → ∀ K : Act → World → Prop, Shut (∀ a w'', SB W w'' → (SB W w'' → WA P ops Q (SB W) ((LB2 n m i0 i1 b b').setIfInBounds c true) a w'') → K a w'') → if Region.wanted oc (yielded ops (A x x').tmps) = true then Oper.wp P oc (A x x') w' K Q else K ((A x x').put oc.dst undef) w')
  (al : ∀ v v' w', Region.wanted o0 (yielded ops (A v v').tmps) = true ∧ (execOp (A v v').eval o0).run P w' = .ok (.value (.pointer (some ⟨w'.heap.size, 0, none⟩))) (w'.alloc (.cells z.toArray t)) ∧ ∀ u, (A v v').put o0.dst u = A u v' := by intros; exact ⟨by rfl, by go_simp, fun _ => by kernel_rfl⟩)
  (al' : ∀ v v' w', Region.wanted o1 (yielded ops (A v v').tmps) = true ∧ (execOp (A v v').eval o1).run P w' = .ok (.value (.pointer (some ⟨w'.heap.size, 0, none⟩))) (w'.alloc (.cells z'.toArray t')) ∧ ∀ u, (A v v').put o1.dst u = A v u := by intros; exact ⟨by rfl, by go_simp, fun _ => by kernel_rfl⟩)
  (h00 : ∀ b b', L0 b b' = LB2 n m i0 i1 b b' := by intro b b'; cases b <;> cases b' <;> kernel_rfl) (hne2 : i0 ≠ i1 := by decide) (hr : ∀ b b', (Region.ready .any ops (LB2 n m i0 i1 b b')).all (fun i => i == c || (i == i0 && !b) || (i == i1 && !b')) = true := by intro b b'; cases b <;> cases b' <;> kernel_rfl)
  (hn : ∀ b b', (Region.ready .any ops (LB2 n m i0 i1 b b')).contains c = true := by intro b b'; cases b <;> cases b' <;> kernel_rfl) : ∀ b b' x x', P2 W z z' t t' b b' x x' w → WA P ops Q (SB W) (L0 b b') (A x x') w := by
 intro b b' x x' hz
 rw [h00]
 refine WA.calls (c := c) (fun l a w' => ∃ b b' x x', l = LB2 n m i0 i1 b b' ∧ a = A x x' ∧ P2 W z z' t t' b b' x x' w' ∧ Below w.heap.size w w' ∧ SB W w') ?_ ?_ ?_ ⟨b, b', x, x', rfl, rfl, hz, Below.refl _ _, bW⟩
 ·rintro l a w' ⟨b, b', x, x', rfl, rfl, -⟩ e
  have := hn b b'
  rw [e] at this
  cases this
 ·rintro l a w' ⟨b, b', x, x', rfl, rfl, hp, h2, h3⟩ i hi hne
  have hh : i = c ∨ (i = i0 ∧ b = false) ∨ (i = i1 ∧ b' = false) := by simpa [or_assoc] using List.all_eq_true.1 (hr b b') i hi
  rcases hh with rfl | ⟨rfl, rfl⟩ | ⟨rfl, rfl⟩
  ·exact absurd rfl hne
  ·obtain ⟨hw, hr, hu⟩ := al x x' w'
   refine wpOp_step h0 (fun K hK => ?_)
   rw [if_pos hw]
   unfold Oper.wp
   rw [hr]
   simp only [Oper.upon]
   exact hK _ _ ⟨ba2 h3, true, b', _, x', LB2.set _ _ _ _ hne2 _ _ _, hu _, hp.new h3, ba2 h2, ba2 h3⟩
  ·obtain ⟨hw, hr, hu⟩ := al' x x' w'
   refine wpOp_step h1 (fun K hK => ?_)
   rw [if_pos hw]
   unfold Oper.wp
   rw [hr]
   simp only [Oper.upon]
   exact hK _ _ ⟨ba2 h3, b, true, x, _, LB2.set' _ _ _ _ _ _ _, hu _, hp.new' h3, ba2 h2, ba2 h3⟩
 ·rintro l a w' ⟨b, b', x, x', rfl, rfl, hp, h2, h3⟩
  exact wpOp_step hc (fun K hK => ca b b' x x' w' hp h2 h3 K (fun a w'' hS hW => hK _ _ ⟨hS, hW hS⟩))
theorem WA.fin2 {P : Program} {ops : Array Oper} {Q : Exit → Act → World → Prop} {w : World} {W : World} {o0 o1 : Oper} {L : Bool → Bool → Array Bool} {A : Value → Value → Act} {z z' : List Value} {t t' : TypeId} (i0 i1 : Nat)
  (h0 : ops[i0]? = some o0) (h1 : ops[i1]? = some o1) (bW : SB W w)
  (ca : ∀ x x' w', P2 W z z' t t' true true x x' w' → Below w.heap.size w w' → SB W w' → WA P ops Q (SB W) (L true true) (A x x') w')
  (al : ∀ v v' w', Region.wanted o0 (yielded ops (A v v').tmps) = true ∧ (execOp (A v v').eval o0).run P w' = .ok (.value (.pointer (some ⟨w'.heap.size, 0, none⟩))) (w'.alloc (.cells z.toArray t)) ∧ ∀ u, (A v v').put o0.dst u = A u v' := by intros; exact ⟨by rfl, by go_simp, fun _ => by kernel_rfl⟩)
  (al' : ∀ v v' w', Region.wanted o1 (yielded ops (A v v').tmps) = true ∧ (execOp (A v v').eval o1).run P w' = .ok (.value (.pointer (some ⟨w'.heap.size, 0, none⟩))) (w'.alloc (.cells z'.toArray t')) ∧ ∀ u, (A v v').put o1.dst u = A v u := by intros; exact ⟨by rfl, by go_simp, fun _ => by kernel_rfl⟩)
  (hr : ∀ b b', ((b && b') || (Region.ready .any ops (L b b')).all (fun i => (i == i0 && !b) || (i == i1 && !b'))) = true := by intro b b'; cases b <;> cases b' <;> kernel_rfl)
  (hn : ∀ b b', ((b && b') || !(Region.ready .any ops (L b b')).isEmpty) = true := by intro b b'; cases b <;> cases b' <;> kernel_rfl)
  (hL : ∀ b, (L false b).setIfInBounds i0 true = L true b := by intro b; cases b <;> kernel_rfl) (hL' : ∀ b, (L b false).setIfInBounds i1 true = L b true := by intro b; cases b <;> kernel_rfl) : ∀ b b' x x', P2 W z z' t t' b b' x x' w → WA P ops Q (SB W) (L b b') (A x x') w := by
 intro b b' x x' hz
 have one : ∀ b b' x x' w', P2 W z z' t t' b b' x x' w' → Below w.heap.size w w' → SB W w' → (b = false ∨ b' = false → ∀ i ∈ Region.ready .any ops (L b b'), wpOp P ops Q i (fun a' w'' => SB W w'' ∧ ∃ b2 b2' y y', (L b b').setIfInBounds i true = L b2 b2' ∧ a' = A y y' ∧ P2 W z z' t t' b2 b2' y y' w'' ∧ Below w.heap.size w w'' ∧ ((b = false ∧ b2 = true ∧ b2' = b') ∨ (b' = false ∧ b2' = true ∧ b2 = b))) (A x x') w') := by
  intro b b' x x' w' hp h2 h3 hb i hi
  have hh : (i = i0 ∧ b = false) ∨ (i = i1 ∧ b' = false) := by
   have h5 := hr b b'
   rw [show (b && b') = false by rcases hb with h | h <;> simp [h], Bool.false_or] at h5
   simpa using List.all_eq_true.1 h5 i hi
  rcases hh with ⟨rfl, rfl⟩ | ⟨rfl, rfl⟩
  ·obtain ⟨hw, hr, hu⟩ := al x x' w'
   refine wpOp_step h0 (fun K hK => ?_)
   rw [if_pos hw]
   unfold Oper.wp
   rw [hr]
   simp only [Oper.upon]
   exact hK _ _ ⟨ba2 h3, true, b', _, x', hL _, hu _, hp.new h3, ba2 h2, Or.inl ⟨rfl, rfl, rfl⟩⟩
  ·obtain ⟨hw, hr, hu⟩ := al' x x' w'
   refine wpOp_step h1 (fun K hK => ?_)
   rw [if_pos hw]
   unfold Oper.wp
   rw [hr]
   simp only [Oper.upon]
   exact hK _ _ ⟨ba2 h3, b, true, x, _, hL' _, hu _, hp.new' h3, ba2 h2, Or.inr ⟨rfl, rfl, rfl⟩⟩
 have s2 : ∀ b b' x x' w', (b = true ∨ b' = true) → P2 W z z' t t' b b' x x' w' → Below w.heap.size w w' → SB W w' → WA P ops Q (SB W) (L b b') (A x x') w' := by
  intro b b' x x' w' ht hp h2 h3
  by_cases hf : b = false ∨ b' = false
  ·refine WA.all (fun e => by have := hn b b'; rw [e] at this; rcases hf with h | h <;> simp [h] at this) (fun i hi => wpOp_mono ?_ (one b b' x x' w' hp h2 h3 hf i hi))
   rintro a'' w'' ⟨hs, b2, b2', y, y', e1, rfl, e3, e4, e5⟩
   refine ⟨hs, ?_⟩
   rw [e1]
   have : b2 = true ∧ b2' = true := by
    rcases e5 with ⟨rfl, rfl, rfl⟩ | ⟨rfl, rfl, rfl⟩ <;> simpa using ht
   obtain ⟨rfl, rfl⟩ := this
   exact ca _ _ _ e3 e4 hs
  ·have : b = true ∧ b' = true := by cases b <;> cases b' <;> simp at hf ⊢
   obtain ⟨rfl, rfl⟩ := this
   exact ca _ _ _ hp h2 h3
 by_cases ht : b = true ∨ b' = true
 ·exact s2 b b' x x' w ht hz (Below.refl _ _) bW
 ·have hf : b = false ∨ b' = false := by cases b <;> cases b' <;> simp at ht ⊢
  refine WA.all (fun e => by have := hn b b'; rw [e] at this; rcases hf with h | h <;> simp [h] at this) (fun i hi => wpOp_mono ?_ (one b b' x x' w hz (Below.refl _ _) bW hf i hi))
  rintro a'' w'' ⟨hs, b2, b2', y, y', e1, rfl, e3, e4, e5⟩
  refine ⟨hs, ?_⟩
  rw [e1]
  exact s2 _ _ _ _ _ (by rcases e5 with ⟨-, h, -⟩ | ⟨-, h, -⟩ <;> simp [h]) e3 e4 hs
theorem WA.tk {P : Program} {ops : Array Oper} {Q : Exit → Act → World → Prop} {S : World → Prop} {l : Array Bool} {a : Act} {w : World} {a' : Act} {oi : Oper} {v : Value} (i : Nat) (hi : ops[i]? = some oi) (h : WA P ops Q S (l.setIfInBounds i true) a' w)
  (hy : YieldsIf P ops S oi v a := by exact Or.inl ⟨by rfl, by (intro w hSw; go_simp; try with_reducible rfl)⟩) (hp : a.put oi.dst v = a' := by (simp only [Act.put, List.getElem_toArray, List.getElem_cons_succ, List.getElem_cons_zero, List.setIfInBounds_toArray, List.set_cons_zero, List.set_cons_succ]; exact rfl))
  (hS : S w := by assumption) (hs : Region.noSelect ops = true := by kernel_rfl) (hf : Region.free .any ops l i = true := by first | (cases b <;> cases b' <;> kernel_rfl) | (cases b <;> kernel_rfl) | kernel_rfl) (hr : (Region.ready .any ops l).contains i = true := by first | (cases b <;> cases b' <;> kernel_rfl) | (cases b <;> kernel_rfl) | kernel_rfl)
  (hQ : ∀ c a w, Q (.panic c) (a.put oi.dst v) w → Q (.panic c) a w := by exact fun _ _ _ h => h) : WA P ops Q S l a w := by
 subst hp
 exact WA.take hi hs hf hr hQ hy hS h
theorem WA.tl {P : Program} {ops : Array Oper} {Q : Exit → Act → World → Prop} {S : World → Prop} {l : Array Bool} {a : Act} {w : World} {a' : Act} {oi : Oper} {v : Value} (i : Nat) (hi : ops[i]? = some oi) (h : WA P ops Q S (l.setIfInBounds i true) a' w)
  (hy : YieldsIf P ops S oi v a := by exact Or.inl ⟨by rfl, by (intro w hSw; have hm := mk.out _ hSw; go_simp; try with_reducible rfl)⟩) (hp : a.put oi.dst v = a' := by (simp only [Act.put, List.getElem_toArray, List.getElem_cons_succ, List.getElem_cons_zero, List.setIfInBounds_toArray, List.set_cons_zero, List.set_cons_succ]; exact rfl))
  (hS : S w := by assumption) (hs : Region.noSelect ops = true := by kernel_rfl) (hf : Region.free .any ops l i = true := by first | (cases b <;> cases b' <;> kernel_rfl) | (cases b <;> kernel_rfl) | kernel_rfl) (hr : (Region.ready .any ops l).contains i = true := by first | (cases b <;> cases b' <;> kernel_rfl) | (cases b <;> kernel_rfl) | kernel_rfl)
  (hQ : ∀ c a w, Q (.panic c) (a.put oi.dst v) w → Q (.panic c) a w := by exact fun _ _ _ h => h) : WA P ops Q S l a w := by
 subst hp
 exact WA.take hi hs hf hr hQ hy hS h
theorem WA.runs {P : Program} {ops : Array Oper} {Q : Exit → Act → World → Prop} {S : World → Prop} {l : Array Bool} {a : Act} {w : World} (J : Array Bool → Act → World → Prop)
  (st : ∀ l a w, J l a w → WA P ops Q S l a w ∨ (Region.ready .any ops l ≠ [] ∧ ∀ i ∈ Region.ready .any ops l, wpOp P ops Q i (fun a' w' => S w' ∧ J (l.setIfInBounds i true) a' w') a w)) : J l a w → WA P ops Q S l a w := by
 have : ∀ n l a w, unl l = n → J l a w → WA P ops Q S l a w := by
  intro n
  induction n with
  | zero =>
   intro l a w hl hJ
   rcases st _ _ _ hJ with h | ⟨h1, h2⟩
   ·exact h
   ·refine WA.all h1 (fun i hi => ?_)
    have := unl_set (mem_ready.1 hi).1
    omega
  | succ n ih =>
   intro l a w hl hJ
   rcases st _ _ _ hJ with h | ⟨h1, h2⟩
   ·exact h
   ·refine WA.all h1 (fun i hi => wpOp_mono (fun a' w' h' => ⟨h'.1, ih _ _ _ ?_ h'.2⟩) (h2 i hi))
    have := unl_set (mem_ready.1 hi).1
    omega
 exact this _ _ _ _ rfl
structure P3 (W : World) (z : List Value) (t : TypeId) (b b' d : Bool) (x x' y : Value) (w : World) : Prop where
 p : b = true → Pt W z t x w
 p' : b' = true → Pt W z t x' w
 q : d = true → Pt W z t y w
 ne : b = true → b' = true → x ≠ x'
 nq : b = true → d = true → x ≠ y
 nq' : b' = true → d = true → x' ≠ y
theorem P3.below {W w w' : World} {z : List Value} {t : TypeId} {b b' d : Bool} {x x' y : Value} (h : P3 W z t b b' d x x' y w) (hb : Below w.heap.size w w') : P3 W z t b b' d x x' y w' := ⟨fun e => (h.p e).below hb, fun e => (h.p' e).below hb, fun e => (h.q e).below hb, h.ne, h.nq, h.nq'⟩
theorem P3.new {W w : World} {z : List Value} {t : TypeId} {b' d : Bool} {x x' y : Value} (h : P3 W z t false b' d x x' y w) (hS : SB W w) : P3 W z t true b' d (.pointer (some ⟨w.heap.size, 0, none⟩)) x' y (w.alloc (.cells z.toArray t)) := ⟨fun _ => Pt.new hS z t, fun e => (h.p' e).below (bel_al _ _), fun e => (h.q e).below (bel_al _ _), fun _ e => Ne.symm (h.p' e).ne, fun _ e => Ne.symm (h.q e).ne, h.nq'⟩
theorem P3.new' {W w : World} {z : List Value} {t : TypeId} {b d : Bool} {x x' y : Value} (h : P3 W z t b false d x x' y w) (hS : SB W w) : P3 W z t b true d x (.pointer (some ⟨w.heap.size, 0, none⟩)) y (w.alloc (.cells z.toArray t)) := ⟨fun e => (h.p e).below (bel_al _ _), fun _ => Pt.new hS z t, fun e => (h.q e).below (bel_al _ _), fun e _ => (h.p e).ne, h.nq, fun _ e => Ne.symm (h.q e).ne⟩
theorem P3.newq {W w : World} {z : List Value} {t : TypeId} {b b' : Bool} {x x' y : Value} (h : P3 W z t b b' false x x' y w) (hS : SB W w) : P3 W z t b b' true x x' (.pointer (some ⟨w.heap.size, 0, none⟩)) (w.alloc (.cells z.toArray t)) := ⟨fun e => (h.p e).below (bel_al _ _), fun e => (h.p' e).below (bel_al _ _), fun _ => Pt.new hS z t, h.ne, fun e _ => (h.p e).ne, fun e _ => (h.p' e).ne⟩
def LB3 (n m i i' j : Nat) (b b' d : Bool) : Array Bool := ((((Array.range n).map fun k => m.testBit k).setIfInBounds i b).setIfInBounds i' b').setIfInBounds j d
theorem LB3.set (n m i i' j : Nat) (h : i ≠ i') (h2 : i ≠ j) (b b' d c : Bool) : (LB3 n m i i' j b b' d).setIfInBounds i c = LB3 n m i i' j c b' d := by
 unfold LB3
 rw [Array.setIfInBounds_comm _ _ (Ne.symm h2), Array.setIfInBounds_comm _ _ (Ne.symm h), Array.setIfInBounds_setIfInBounds]
theorem LB3.set' (n m i i' j : Nat) (h : i' ≠ j) (b b' d c : Bool) : (LB3 n m i i' j b b' d).setIfInBounds i' c = LB3 n m i i' j b c d := by
 unfold LB3
 rw [Array.setIfInBounds_comm _ _ (Ne.symm h), Array.setIfInBounds_setIfInBounds]
theorem LB3.setq (n m i i' j : Nat) (b b' d c : Bool) : (LB3 n m i i' j b b' d).setIfInBounds j c = LB3 n m i i' j b b' c := by
 unfold LB3
 rw [Array.setIfInBounds_setIfInBounds]
abbrev AL3 (P : Program) (ops : Array Oper) (o : Oper) (A : Value → Value → Value → Act) (z : List Value) (t : TypeId) (B : Value → Value → Value → Value → Act) : Prop := ∀ v v' u w', Region.wanted o (yielded ops (A v v' u).tmps) = true ∧ (execOp (A v v' u).eval o).run P w' = .ok (.value (.pointer (some ⟨w'.heap.size, 0, none⟩))) (w'.alloc (.cells z.toArray t)) ∧ ∀ s, (A v v' u).put o.dst s = B v v' u s
theorem WA.gen3 {P : Program} {ops : Array Oper} {Q : Exit → Act → World → Prop} {S : World → Prop} {l : Array Bool} {a : Act} {w : World} {i s i' s' j r : Nat} (v v' u : Value) {W : World} (z : List Value) (t : TypeId) (h : ∀ b b' d x x' y, P3 W z t b b' d x x' y w → WA P ops Q S (((l.setIfInBounds i b).setIfInBounds i' b').setIfInBounds j d) (((a.put (some s) x).put (some s') x').put (some r) y) w)
  (hl : ((l.setIfInBounds i false).setIfInBounds i' false).setIfInBounds j false = l := by kernel_rfl) (ha : ((a.put (some s) v).put (some s') v').put (some r) u = a := by kernel_rfl) : WA P ops Q S l a w := by
 have := h false false false v v' u ⟨nofun, nofun, nofun, nofun, nofun, nofun⟩
 rw [hl, ha] at this
 exact this
theorem WA.al3 {P : Program} {ops : Array Oper} {Q : Exit → Act → World → Prop} {w : World} {o : Oper} {i : Nat} {a : Act} {K : Act → World → Prop} {z : List Value} {t : TypeId} (h0 : ops[i]? = some o)
  (hw : Region.wanted o (yielded ops a.tmps) = true) (hr : (execOp a.eval o).run P w = .ok (.value (.pointer (some ⟨w.heap.size, 0, none⟩))) (w.alloc (.cells z.toArray t))) (hK : K (a.put o.dst (.pointer (some ⟨w.heap.size, 0, none⟩))) (w.alloc (.cells z.toArray t))) : wpOp P ops Q i K a w := by
 refine wpOp_step h0 (fun K' hK' => ?_)
 rw [if_pos hw]
 unfold Oper.wp
 rw [hr]
 simp only [Oper.upon]
 exact hK' _ _ hK
theorem WA.three {P : Program} {ops : Array Oper} {Q : Exit → Act → World → Prop} {w : World} {W : World} {o0 o1 o2 oc : Oper} {L0 : Bool → Bool → Bool → Array Bool} {A : Value → Value → Value → Act} {z : List Value} {t : TypeId} (n m c i0 i1 i2 : Nat)
  (h0 : ops[i0]? = some o0) (h1 : ops[i1]? = some o1) (h2 : ops[i2]? = some o2) (hc : ops[c]? = some oc) (bW : SB W w)
  (ca : ∀ b b' d x x' y w', P3 W z t b b' d x x' y w' → Below w.heap.size w w' → SB W w' → ∀ K : Act → World → Prop, Shut (∀ a w'', SB W w'' → (SB W w'' → WA P ops Q (SB W) ((LB3 n m i0 i1 i2 b b' d).setIfInBounds c true) a w'') → K a w'') → if Region.wanted oc (yielded ops (A x x' y).tmps) = true then Oper.wp P oc (A x x' y) w' K Q else K ((A x x' y).put oc.dst undef) w')
  (al : AL3 P ops o0 A z t (fun _ v' u s => A s v' u) := by intros _ _ _ _; exact ⟨by rfl, by go_simp, fun _ => by kernel_rfl⟩)
  (al' : AL3 P ops o1 A z t (fun v _ u s => A v s u) := by intros _ _ _ _; exact ⟨by rfl, by go_simp, fun _ => by kernel_rfl⟩)
  (alq : AL3 P ops o2 A z t (fun v v' _ s => A v v' s) := by intros _ _ _ _; exact ⟨by rfl, by go_simp, fun _ => by kernel_rfl⟩)
  (h00 : ∀ b b' d, L0 b b' d = LB3 n m i0 i1 i2 b b' d := by intro b b' d; cases b <;> cases b' <;> cases d <;> kernel_rfl) (hne : i0 ≠ i1 ∧ i0 ≠ i2 ∧ i1 ≠ i2 := by decide)
  (hr : ∀ b b' d, (Region.ready .any ops (LB3 n m i0 i1 i2 b b' d)).all (fun i => i == c || (i == i0 && !b) || (i == i1 && !b') || (i == i2 && !d)) = true := by intro b b' d; cases b <;> cases b' <;> cases d <;> kernel_rfl)
  (hn : ∀ b b' d, (Region.ready .any ops (LB3 n m i0 i1 i2 b b' d)).contains c = true := by intro b b' d; cases b <;> cases b' <;> cases d <;> kernel_rfl) : ∀ b b' d x x' y, P3 W z t b b' d x x' y w → WA P ops Q (SB W) (L0 b b' d) (A x x' y) w := by
 intro b b' d x x' y hz
 rw [h00]
 refine WA.calls (c := c) (fun l a w' => ∃ b b' d x x' y, l = LB3 n m i0 i1 i2 b b' d ∧ a = A x x' y ∧ P3 W z t b b' d x x' y w' ∧ Below w.heap.size w w' ∧ SB W w') ?_ ?_ ?_ ⟨b, b', d, x, x', y, rfl, rfl, hz, Below.refl _ _, bW⟩
 ·rintro l a w' ⟨b, b', d, x, x', y, rfl, rfl, -⟩ e
  have := hn b b' d
  rw [e] at this
  cases this
 ·rintro l a w' ⟨b, b', d, x, x', y, rfl, rfl, hp, h3, h4⟩ i hi hne'
  have hh : i = c ∨ (i = i0 ∧ b = false) ∨ (i = i1 ∧ b' = false) ∨ (i = i2 ∧ d = false) := by simpa [or_assoc] using List.all_eq_true.1 (hr b b' d) i hi
  rcases hh with rfl | ⟨rfl, rfl⟩ | ⟨rfl, rfl⟩ | ⟨rfl, rfl⟩
  ·exact absurd rfl hne'
  ·obtain ⟨hw, hr, hu⟩ := al x x' y w'
   exact WA.al3 h0 hw hr ⟨ba2 h4, true, b', d, _, x', y, LB3.set _ _ _ _ _ hne.1 hne.2.1 _ _ _ _, hu _, hp.new h4, ba2 h3, ba2 h4⟩
  ·obtain ⟨hw, hr, hu⟩ := al' x x' y w'
   exact WA.al3 h1 hw hr ⟨ba2 h4, b, true, d, x, _, y, LB3.set' _ _ _ _ _ hne.2.2 _ _ _ _, hu _, hp.new' h4, ba2 h3, ba2 h4⟩
  ·obtain ⟨hw, hr, hu⟩ := alq x x' y w'
   exact WA.al3 h2 hw hr ⟨ba2 h4, b, b', true, x, x', _, LB3.setq _ _ _ _ _ _ _ _ _, hu _, hp.newq h4, ba2 h3, ba2 h4⟩
 ·rintro l a w' ⟨b, b', d, x, x', y, rfl, rfl, hp, h3, h4⟩
  exact wpOp_step hc (fun K hK => ca b b' d x x' y w' hp h3 h4 K (fun a w'' hS hW => hK _ _ ⟨hS, hW hS⟩))
theorem WA.fin3 {P : Program} {ops : Array Oper} {Q : Exit → Act → World → Prop} {w : World} {W : World} {o0 o1 o2 : Oper} {L0 : Bool → Bool → Bool → Array Bool} {A : Value → Value → Value → Act} {z : List Value} {t : TypeId} (n m i0 i1 i2 : Nat)
  (h0 : ops[i0]? = some o0) (h1 : ops[i1]? = some o1) (h2 : ops[i2]? = some o2) (bW : SB W w)
  (ca : ∀ x x' y w', P3 W z t true true true x x' y w' → Below w.heap.size w w' → SB W w' → WA P ops Q (SB W) (LB3 n m i0 i1 i2 true true true) (A x x' y) w')
  (al : AL3 P ops o0 A z t (fun _ v' u s => A s v' u) := by intros _ _ _ _; exact ⟨by rfl, by go_simp, fun _ => by kernel_rfl⟩)
  (al' : AL3 P ops o1 A z t (fun v _ u s => A v s u) := by intros _ _ _ _; exact ⟨by rfl, by go_simp, fun _ => by kernel_rfl⟩)
  (alq : AL3 P ops o2 A z t (fun v v' _ s => A v v' s) := by intros _ _ _ _; exact ⟨by rfl, by go_simp, fun _ => by kernel_rfl⟩)
  (h00 : ∀ b b' d, L0 b b' d = LB3 n m i0 i1 i2 b b' d := by intro b b' d; cases b <;> cases b' <;> cases d <;> kernel_rfl) (hne : i0 ≠ i1 ∧ i0 ≠ i2 ∧ i1 ≠ i2 := by decide)
  (hr : ∀ b b' d, ((b && b' && d) || (!(Region.ready .any ops (LB3 n m i0 i1 i2 b b' d)).isEmpty && (Region.ready .any ops (LB3 n m i0 i1 i2 b b' d)).all (fun i => (i == i0 && !b) || (i == i1 && !b') || (i == i2 && !d)))) = true := by intro b b' d; cases b <;> cases b' <;> cases d <;> kernel_rfl) : ∀ b b' d x x' y, P3 W z t b b' d x x' y w → WA P ops Q (SB W) (L0 b b' d) (A x x' y) w := by
 intro b b' d x x' y hz
 rw [h00]
 refine WA.runs (fun l a w' => ∃ b b' d x x' y, l = LB3 n m i0 i1 i2 b b' d ∧ a = A x x' y ∧ P3 W z t b b' d x x' y w' ∧ Below w.heap.size w w' ∧ SB W w') ?_ ⟨b, b', d, x, x', y, rfl, rfl, hz, Below.refl _ _, bW⟩
 rintro l a w' ⟨b, b', d, x, x', y, rfl, rfl, hp, h3, h4⟩
 by_cases hf : (b && b' && d) = true
 ·simp at hf
  obtain ⟨⟨rfl, rfl⟩, rfl⟩ := hf
  exact Or.inl (ca _ _ _ _ hp h3 h4)
 ·have h5 := hr b b' d
  rw [Bool.not_eq_true] at hf
  rw [hf, Bool.false_or, Bool.and_eq_true] at h5
  refine Or.inr ⟨fun e => ?_, fun i hi => ?_⟩
  ·have := h5.1
   rw [e] at this
   cases this
  have hh : (i = i0 ∧ b = false) ∨ (i = i1 ∧ b' = false) ∨ (i = i2 ∧ d = false) := by simpa [or_assoc] using List.all_eq_true.1 h5.2 i hi
  rcases hh with ⟨rfl, rfl⟩ | ⟨rfl, rfl⟩ | ⟨rfl, rfl⟩
  ·obtain ⟨hw, hr, hu⟩ := al x x' y w'
   exact WA.al3 h0 hw hr ⟨ba2 h4, true, b', d, _, x', y, LB3.set _ _ _ _ _ hne.1 hne.2.1 _ _ _ _, hu _, hp.new h4, ba2 h3, ba2 h4⟩
  ·obtain ⟨hw, hr, hu⟩ := al' x x' y w'
   exact WA.al3 h1 hw hr ⟨ba2 h4, b, true, d, x, _, y, LB3.set' _ _ _ _ _ hne.2.2 _ _ _ _, hu _, hp.new' h4, ba2 h3, ba2 h4⟩
  ·obtain ⟨hw, hr, hu⟩ := alq x x' y w'
   exact WA.al3 h2 hw hr ⟨ba2 h4, b, b', true, x, x', _, LB3.setq _ _ _ _ _ _ _ _ _, hu _, hp.newq h4, ba2 h3, ba2 h4⟩
abbrev pu3 (a : Act) (s s' r : Nat) (x x' y : Value) : Act := ((a.put (some s) x).put (some s') x').put (some r) y
theorem WA.rd3 {P : Program} {ops : Array Oper} {Q : Exit → Act → World → Prop} {w : World} {o : Oper} {i : Nat} {a : Act} {K : Act → World → Prop} {v : Value} (h0 : ops[i]? = some o)
  (hw : Region.wanted o (yielded ops a.tmps) = true) (hr : (execOp a.eval o).run P w = .ok (.value v) w) (hK : K (a.put o.dst v) w) : wpOp P ops Q i K a w := by
 refine wpOp_step h0 (fun K' hK' => ?_)
 rw [if_pos hw]
 unfold Oper.wp
 rw [hr]
 simp only [Oper.upon]
 exact hK' _ _ hK
theorem WA.swap3 {P : Program} {ops : Array Oper} {Q : Exit → Act → World → Prop} {S : World → Prop} {w wS : World} {o0 o1 o2 o3 : Oper} {l : Array Bool} {a : Act} (n m m' i0 i1 i2 i3 s s' r : Nat) (u u' t v v' q : Value)
  (h0 : ops[i0]? = some o0) (h1 : ops[i1]? = some o1) (h2 : ops[i2]? = some o2) (h3 : ops[i3]? = some o3) (hS : S w) (hS' : S wS)
  (r0 : ∀ x x' y, (execOp (pu3 a s s' r x x' y).eval o0).run P w = .ok (.value v) w)
  (r1 : ∀ x x' y, (execOp (pu3 a s s' r x x' y).eval o1).run P w = .ok (.value v') w)
  (r1' : ∀ x x' y, (execOp (pu3 a s s' r x x' y).eval o1).run P wS = .ok (.value v') wS)
  (r2 : ∀ x x' y, (execOp (pu3 a s s' r x x' y).eval o2).run P w = .ok (.value q) w)
  (st : ∀ (x' : Value) (K : Act → World → Prop), K (pu3 a s s' r v x' q) wS → if Region.wanted o3 (yielded ops (pu3 a s s' r v x' q).tmps) = true then Oper.wp P o3 (pu3 a s s' r v x' q) w K Q else K ((pu3 a s s' r v x' q).put o3.dst undef) w)
  (ca : WA P ops Q S (LB3 n m' i0 i1 i2 true true true) (pu3 a s s' r v v' q) wS)
  (ha : pu3 a s s' r u u' t = a := by kernel_rfl)
  (w0 : ∀ x x' y, Region.wanted o0 (yielded ops (pu3 a s s' r x x' y).tmps) = true := by intros; rfl) (w1 : ∀ x x' y, Region.wanted o1 (yielded ops (pu3 a s s' r x x' y).tmps) = true := by intros; rfl) (w2 : ∀ x x' y, Region.wanted o2 (yielded ops (pu3 a s s' r x x' y).tmps) = true := by intros; rfl)
  (p0 : ∀ x x' y z, (pu3 a s s' r x x' y).put o0.dst z = pu3 a s s' r z x' y := by intros; kernel_rfl) (p1 : ∀ x x' y z, (pu3 a s s' r x x' y).put o1.dst z = pu3 a s s' r x z y := by intros; kernel_rfl) (p2 : ∀ x x' y z, (pu3 a s s' r x x' y).put o2.dst z = pu3 a s s' r x x' z := by intros; kernel_rfl)
  (h00 : l = LB3 n m i0 i1 i2 false false false := by kernel_rfl) (hne : i0 ≠ i1 ∧ i0 ≠ i2 ∧ i1 ≠ i2 := by decide)
  (hr : ∀ b b' d, (!(Region.ready .any ops (LB3 n m i0 i1 i2 b b' d)).isEmpty && (Region.ready .any ops (LB3 n m i0 i1 i2 b b' d)).all (fun i => (i == i0 && !b) || (i == i1 && !b') || (i == i2 && !d) || (i == i3 && b && d))) = true := by intro b b' d; cases b <;> cases b' <;> cases d <;> kernel_rfl)
  (hr' : Region.ready .any ops (LB3 n m' i0 i1 i2 true false true) = [i1] := by kernel_rfl)
  (hm : ∀ b', (LB3 n m i0 i1 i2 true b' true).setIfInBounds i3 true = LB3 n m' i0 i1 i2 true b' true := by intro b'; cases b' <;> kernel_rfl) : WA P ops Q S l a w := by
 rw [h00, ← ha]
 refine WA.runs (fun l a' w' => (w' = w ∧ ∃ b b' d x x' y, l = LB3 n m i0 i1 i2 b b' d ∧ a' = pu3 a s s' r x x' y ∧ (b = true → x = v) ∧ (b' = true → x' = v') ∧ (d = true → y = q)) ∨ (w' = wS ∧ ∃ b' x', l = LB3 n m' i0 i1 i2 true b' true ∧ a' = pu3 a s s' r v x' q ∧ (b' = true → x' = v'))) ?_ (Or.inl ⟨rfl, false, false, false, u, u', t, rfl, rfl, nofun, nofun, nofun⟩)
 rintro l a' w' (⟨rfl, b, b', d, x, x', y, rfl, rfl, e1, e2, e3⟩ | ⟨rfl, b', x', rfl, rfl, e2⟩)
 ·have h5 := hr b b' d
  rw [Bool.and_eq_true] at h5
  refine Or.inr ⟨fun e => ?_, fun i hi => ?_⟩
  ·have := h5.1
   rw [e] at this
   cases this
  have hh : (i = i0 ∧ b = false) ∨ (i = i1 ∧ b' = false) ∨ (i = i2 ∧ d = false) ∨ (i = i3 ∧ b = true ∧ d = true) := by simpa [or_assoc, and_assoc] using List.all_eq_true.1 h5.2 i hi
  rcases hh with ⟨rfl, rfl⟩ | ⟨rfl, rfl⟩ | ⟨rfl, rfl⟩ | ⟨rfl, rfl, rfl⟩
  ·exact WA.rd3 h0 (w0 _ _ _) (r0 _ _ _) ⟨hS, Or.inl ⟨rfl, true, b', d, v, x', y, LB3.set _ _ _ _ _ hne.1 hne.2.1 _ _ _ _, p0 _ _ _ _, fun _ => rfl, e2, e3⟩⟩
  ·exact WA.rd3 h1 (w1 _ _ _) (r1 _ _ _) ⟨hS, Or.inl ⟨rfl, b, true, d, x, v', y, LB3.set' _ _ _ _ _ hne.2.2 _ _ _ _, p1 _ _ _ _, e1, fun _ => rfl, e3⟩⟩
  ·exact WA.rd3 h2 (w2 _ _ _) (r2 _ _ _) ⟨hS, Or.inl ⟨rfl, b, b', true, x, x', q, LB3.setq _ _ _ _ _ _ _ _ _, p2 _ _ _ _, e1, e2, fun _ => rfl⟩⟩
  ·obtain rfl := e1 rfl
   obtain rfl := e3 rfl
   exact wpOp_step h3 (fun K hK => st x' K (hK _ _ ⟨hS', Or.inr ⟨rfl, b', x', hm b', rfl, e2⟩⟩))
 ·cases b'
  ·refine Or.inr ⟨by rw [hr']; simp, fun i hi => ?_⟩
   rw [hr'] at hi
   simp at hi
   subst hi
   exact WA.rd3 h1 (w1 _ _ _) (r1' _ _ _) ⟨hS', Or.inr ⟨rfl, true, v', LB3.set' _ _ _ _ _ hne.2.2 _ _ _ _, p1 _ _ _ _, fun _ => rfl⟩⟩
  ·obtain rfl := e2 rfl
   exact Or.inl ca
def PtS (z : List Value) (t : TypeId) (k : Nat) (v : Value) (w : World) : Prop := ∃ g, v = .slice (some ⟨g, 0, none⟩) k k ∧ Cel w g z t
theorem PtS.below {z : List Value} {t : TypeId} {k : Nat} {v : Value} {w w' : World} (h : PtS z t k v w) (hb : Below w.heap.size w w') : PtS z t k v w' := by
 obtain ⟨g, h1, h3⟩ := h
 exact ⟨g, h1, h3.below hb⟩
abbrev ALS (P : Program) (ops : Array Oper) (o : Oper) (A : Value → Act) (z : List Value) (t : TypeId) (k : Nat) : Prop := ∀ v w', Region.wanted o (yielded ops (A v).tmps) = true ∧ (execOp (A v).eval o).run P w' = .ok (.value (.slice (some ⟨w'.heap.size, 0, none⟩) k k)) (w'.alloc (.cells z.toArray t)) ∧ ∀ u, (A v).put o.dst u = A u
theorem WA.oneS {P : Program} {ops : Array Oper} {Q : Exit → Act → World → Prop} {S : World → Prop} {w : World} {o0 oc : Oper} {L0 : Bool → Array Bool} {A : Value → Act} {z : List Value} {t : TypeId} {k : Nat} (n m c i0 : Nat)
  (h0 : ops[i0]? = some o0) (hc : ops[c]? = some oc) (sa : ∀ w', S w' → S (w'.alloc (.cells z.toArray t))) (bW : S w)
  (ca : ∀ b x w', (b = true → PtS z t k x w') → Below w.heap.size w w' → S w' → ∀ K : Act → World → Prop, Shut (∀ a w'', S w'' → (S w'' → WA P ops Q S ((LB n m i0 b).setIfInBounds c true) a w'') → K a w'') → if Region.wanted oc (yielded ops (A x).tmps) = true then Oper.wp P oc (A x) w' K Q else K ((A x).put oc.dst undef) w')
  (al : ALS P ops o0 A z t k := by intros _ _; exact ⟨by rfl, by go_simp, fun _ => by kernel_rfl⟩)
  (h00 : ∀ b, L0 b = LB n m i0 b := by intro b; cases b <;> kernel_rfl) (rT : Region.ready .any ops (LB n m i0 true) = [c] := by kernel_rfl) (rF : Region.ready .any ops (LB n m i0 false) = (if i0 < c then [i0, c] else [c, i0]) := by kernel_rfl) : ∀ b x, (b = true → PtS z t k x w) → WA P ops Q S (L0 b) (A x) w := by
 intro b x hz
 rw [h00]
 refine WA.calls (c := c) (fun l a w' => ∃ b x, l = LB n m i0 b ∧ a = A x ∧ (b = true → PtS z t k x w') ∧ Below w.heap.size w w' ∧ S w') ?_ ?_ ?_ ⟨b, x, rfl, rfl, hz, Below.refl _ _, bW⟩
 ·rintro l a w' ⟨b, x, rfl, rfl, -⟩
  cases b
  ·rw [rF]; split <;> simp
  ·rw [rT]; simp
 ·rintro l a w' ⟨b, x, rfl, rfl, h1, h2, h3⟩ i hi hne
  cases b
  ·have hi0 : i = i0 := by
    rw [rF] at hi
    split at hi <;> simp at hi <;> rcases hi with h | h <;> first | exact h | exact absurd h hne
   subst hi0
   obtain ⟨hw, hr, hp⟩ := al x w'
   refine wpOp_step h0 (fun K hK => ?_)
   rw [if_pos hw]
   unfold Oper.wp
   rw [hr]
   simp only [Oper.upon]
   exact hK _ _ ⟨sa _ h3, true, _, LB.set _ _ _ _ _, hp _, fun _ => ⟨_, rfl, Cel.new w' z t⟩, ba2 h2, sa _ h3⟩
  ·rw [rT] at hi; simp at hi; exact absurd hi hne
 ·rintro l a w' ⟨b, x, rfl, rfl, h1, h2, h3⟩
  exact wpOp_step hc (fun K hK => ca b x w' h1 h2 h3 K (fun a w'' hS hW => hK _ _ ⟨hS, hW hS⟩))
theorem WA.finS {P : Program} {ops : Array Oper} {Q : Exit → Act → World → Prop} {S : World → Prop} {w : World} {o0 : Oper} {L : Bool → Array Bool} {A : Value → Act} {z : List Value} {t : TypeId} {k : Nat} (i0 : Nat)
  (h0 : ops[i0]? = some o0) (sa : ∀ w', S w' → S (w'.alloc (.cells z.toArray t))) (bW : S w)
  (ca : ∀ x w', PtS z t k x w' → Below w.heap.size w w' → S w' → WA P ops Q S (L true) (A x) w')
  (al : ALS P ops o0 A z t k := by intros _ _; exact ⟨by rfl, by go_simp, fun _ => by kernel_rfl⟩)
  (rF : Region.ready .any ops (L false) = [i0] := by kernel_rfl) (hL : (L false).setIfInBounds i0 true = L true := by kernel_rfl) : ∀ b x, (b = true → PtS z t k x w) → WA P ops Q S (L b) (A x) w := by
 intro b x hz
 cases b
 ·refine WA.all (by rw [rF]; simp) (fun i hi => ?_)
  rw [rF] at hi
  simp at hi
  subst hi
  obtain ⟨hw, hr, hp⟩ := al x w
  refine wpOp_step h0 (fun K hK => ?_)
  rw [if_pos hw]
  unfold Oper.wp
  rw [hr]
  simp only [Oper.upon]
  exact hK _ _ ⟨sa _ bW, by rw [hL, hp]; exact ca _ _ ⟨_, rfl, Cel.new w z t⟩ (bel_al _ _) (sa _ bW)⟩
 ·exact ca x w (hz rfl) (Below.refl _ _) bW
def nt (l : List ByteArray) (j : Nat) : ByteArray := l.getD j ⟨#[]⟩
def RdS (w : World) (v : Value) (l : List ByteArray) : Prop :=
 ∃ a cap, v = .slice a l.length cap ∧ l.length ≤ cap ∧ ∀ j, j < l.length → ∃ b off, a = some ⟨b, off, none⟩ ∧ w.cell? ⟨b, off + j, none⟩ = some (.string (nt l j))
theorem RdS.below {w w' : World} {v : Value} {l : List ByteArray} (h : RdS w v l) (hb : Below w.heap.size w w') : RdS w' v l := by
 obtain ⟨a, cap, rfl, hc, h⟩ := h
 refine ⟨a, cap, rfl, hc, fun j hj => ?_⟩
 obtain ⟨b, off, rfl, h0⟩ := h j hj
 exact ⟨b, off, rfl, cell_below h0 hb⟩
theorem nt_mem {l : List ByteArray} {j : Nat} (h : j < l.length) : nt l j ∈ l := by
 unfold nt
 rw [List.getD_eq_getElem?_getD, List.getElem?_eq_getElem h]
 exact List.getElem_mem h
theorem WA.cal {P : Program} {ops : Array Oper} {Q : Exit → Act → World → Prop} {S : World → Prop} {l : Array Bool} {a : Act} {w : World} {oc : Oper} (c : Nat) (hc : ops[c]? = some oc) (ca : ∀ K : Act → World → Prop, Shut (∀ a w'', S w'' → (S w'' → WA P ops Q S (l.setIfInBounds c true) a w'') → K a w'') → if Region.wanted oc (yielded ops a.tmps) = true then Oper.wp P oc a w K Q else K (a.put oc.dst undef) w) (rT : Region.ready .any ops l = [c] := by kernel_rfl) : WA P ops Q S l a w := by
 refine WA.all (by rw [rT]; simp) (fun i hi => ?_)
 rw [rT] at hi
 simp at hi
 subst hi
 exact wpOp_step hc (fun K hK => ca K (fun a w'' hS hW => hK _ _ ⟨hS, hW hS⟩))
theorem WA.tp {P : Program} {ops : Array Oper} {Q : Exit → Act → World → Prop} {S : World → Prop} {l : Array Bool} {a : Act} {w : World} {a' : Act} {oi : Oper} {v : Value} (i : Nat) (hi : ops[i]? = some oi) (h : WA P ops Q S (l.setIfInBounds i true) a' w)
  (hy : YieldsIf P ops S oi v a := by exact Or.inl ⟨by rfl, by (intro w hSw; (try dsimp only at hSw); go_simp; try with_reducible rfl)⟩) (hp : a.put oi.dst v = a' := by (simp only [Act.put, List.getElem_toArray, List.getElem_cons_succ, List.getElem_cons_zero, List.setIfInBounds_toArray, List.set_cons_zero, List.set_cons_succ]; exact rfl))
  (hS : S w := by assumption) (hs : Region.noSelect ops = true := by kernel_rfl) (hf : Region.free .any ops l i = true := by kernel_rfl) (hr : (Region.ready .any ops l).contains i = true := by kernel_rfl)
  (hQ : ∀ c a w, Q (.panic c) (a.put oi.dst v) w → Q (.panic c) a w := by exact fun _ _ _ h => h) : WA P ops Q S l a w := by
 subst hp
 exact WA.take hi hs hf hr hQ hy hS h
theorem lmul_one (s0 : ByteArray) (w : World) (hl : ¬ (s0.size : Int) < 1) :
  Calls Tryz.prog 154 #[.string s0, .string ⟨#[1]⟩] w (Re w (.string s0)) := by
 have hz : (⟨#[1]⟩ : ByteArray).size = 1 := rfl
 go_enter Tryz.func154, Tryz.ntmps154
 go_wp2
 go_ret
 exact ⟨rfl, Below.refl _ _⟩
theorem lmul_walk (s0 s1 zS : ByteArray) (zN : Bool) (w : World) (hl : ¬ (s0.size : Int) < s1.size) (h1 : (s1.toList == [1]) = false) (hs : (s0.size : Int) ≤ 32000)
  (H1 : Hid (∀ w1, Calls Tryz.prog 184 #[.agg #[.bool false, .string s0], .agg #[.bool false, .string s1]] w1 (Re w1 (.tuple #[.agg #[.bool zN, .string zS], .int .i64 0])))) :
  Calls Tryz.prog 154 #[.string s0, .string s1] w (Re w (.string zS)) := by
 go_enter Tryz.func154, Tryz.ntmps154
 go_wp2_with fail
 go_fit (H1.out _)
 rintro e w1 ⟨rfl, b1⟩
 go_wp2
 go_ret
 exact ⟨rfl, ba b1 _⟩
theorem lmul_swap (s0 s1 zS : ByteArray) (zN : Bool) (w : World) (hl : (s0.size : Int) < s1.size) (h1 : (s0.toList == [1]) = false) (hs : (s1.size : Int) ≤ 32000)
  (H1 : Hid (∀ w1, Calls Tryz.prog 184 #[.agg #[.bool false, .string s1], .agg #[.bool false, .string s0]] w1 (Re w1 (.tuple #[.agg #[.bool zN, .string zS], .int .i64 0])))) :
  Calls Tryz.prog 154 #[.string s0, .string s1] w (Re w (.string zS)) := by
 go_enter Tryz.func154, Tryz.ntmps154
 go_wp2_with fail
 go_fit (H1.out _)
 rintro e w1 ⟨rfl, b1⟩
 go_wp2
 go_ret
 exact ⟨rfl, ba b1 _⟩
theorem lmul_swap1 (s1 : ByteArray) (w : World) (hl : (1 : Int) < s1.size) :
  Calls Tryz.prog 154 #[.string ⟨#[1]⟩, .string s1] w (Re w (.string s1)) := by
 have hz : (⟨#[1]⟩ : ByteArray).size = 1 := rfl
 go_enter Tryz.func154, Tryz.ntmps154
 go_wp2
 go_ret
 exact ⟨rfl, Below.refl _ _⟩
theorem ldivide_walk (s0 s1 qS rS : ByteArray) (qN rN : Bool) (w : World) (h0 : (s0.size : Int) ≤ 32000)
  (H1 : Hid (∀ w1, Calls Tryz.prog 137 #[.agg #[.bool false, .string s0], .agg #[.bool false, .string s1]] w1 (Re w1 (.tuple #[.agg #[.bool qN, .string qS], .agg #[.bool rN, .string rS], .int .i64 0])))) :
  Calls Tryz.prog 153 #[.string s0, .string s1] w (Re w (.tuple #[.string qS, .string rS])) := by
 go_enter Tryz.func153, Tryz.ntmps153
 go_wp2_with fail
 go_fit (H1.out _)
 rintro e w1 ⟨rfl, b1⟩
 go_wp2_with fail
 obtain ⟨w2, hw, ka, kb, b2⟩ := mk2 w1 [.bool qN, .string qS] [.bool rN, .string rS] 24 24
 rw [← hw]
 clear hw
 obtain ⟨c0, c1⟩ := xk2 ka
 obtain ⟨c2, c3⟩ := xk2 kb
 go_quiet (fail)
 go_wp2
 go_ret2
 exact ⟨rfl, below_drewN (Below.after b1 b2) _⟩
theorem WA.tn {P : Program} {ops : Array Oper} {Q : Exit → Act → World → Prop} {S : World → Prop} {l : Array Bool} {a : Act} {w : World} {a' : Act} {oi : Oper} (i : Nat) (hi : ops[i]? = some oi) (h : WA P ops Q S (l.setIfInBounds i true) a' w)
  (hy : YieldsIf P ops S oi undef a := by exact Or.inr ⟨by rfl, rfl⟩) (hp : a.put oi.dst undef = a' := by (simp only [ly]; exact rfl))
  (hS : S w := by assumption) (hs : Region.noSelect ops = true := by kernel_rfl) (hf : Region.free .any ops l i = true := by kernel_rfl) (hr : (Region.ready .any ops l).contains i = true := by kernel_rfl)
  (hQ : ∀ c a w, Q (.panic c) (a.put oi.dst undef) w → Q (.panic c) a w := by exact fun _ _ _ h => h) : WA P ops Q S l a w := by
 subst hp
 exact WA.take hi hs hf hr hQ hy hS h
abbrev xc18 (w : World) (g : Nat) (x0 x1 x2 x3 x4 x5 x6 x7 x8 x9 x10 x11 x12 x13 x14 x15 x16 x17 : Value) : Prop := w.cell? ⟨g, 0, none⟩ = some x0 ∧ w.cell? ⟨g, 1, none⟩ = some x1 ∧ w.cell? ⟨g, 2, none⟩ = some x2 ∧ w.cell? ⟨g, 3, none⟩ = some x3 ∧ w.cell? ⟨g, 4, none⟩ = some x4 ∧ w.cell? ⟨g, 5, none⟩ = some x5 ∧ w.cell? ⟨g, 6, none⟩ = some x6 ∧ w.cell? ⟨g, 7, none⟩ = some x7 ∧ w.cell? ⟨g, 8, none⟩ = some x8 ∧ w.cell? ⟨g, 9, none⟩ = some x9 ∧ w.cell? ⟨g, 10, none⟩ = some x10 ∧ w.cell? ⟨g, 11, none⟩ = some x11 ∧ w.cell? ⟨g, 12, none⟩ = some x12 ∧ w.cell? ⟨g, 13, none⟩ = some x13 ∧ w.cell? ⟨g, 14, none⟩ = some x14 ∧ w.cell? ⟨g, 15, none⟩ = some x15 ∧ w.cell? ⟨g, 16, none⟩ = some x16 ∧ w.cell? ⟨g, 17, none⟩ = some x17
theorem xk18 {w : World} {g : Nat} {t : TypeId} {x0 x1 x2 x3 x4 x5 x6 x7 x8 x9 x10 x11 x12 x13 x14 x15 x16 x17 : Value} (h : Cel w g [x0, x1, x2, x3, x4, x5, x6, x7, x8, x9, x10, x11, x12, x13, x14, x15, x16, x17] t) : xc18 w g x0 x1 x2 x3 x4 x5 x6 x7 x8 x9 x10 x11 x12 x13 x14 x15 x16 x17 := ⟨h.cell 0, h.cell 1, h.cell 2, h.cell 3, h.cell 4, h.cell 5, h.cell 6, h.cell 7, h.cell 8, h.cell 9, h.cell 10, h.cell 11, h.cell 12, h.cell 13, h.cell 14, h.cell 15, h.cell 16, h.cell 17⟩
def RdQ (w : World) (a : Option Addr) (n : Nat) (N : Nat → Bool) (S D : Nat → ByteArray) : Prop :=
 ∀ j, j < n → ∃ b off, a = some ⟨b, off, none⟩ ∧ w.cell? ⟨b, off + j * 3, none⟩ = some (.bool (N j)) ∧ w.cell? ⟨b, off + j * 3 + 1, none⟩ = some (.string (S j)) ∧ w.cell? ⟨b, off + j * 3 + 2, none⟩ = some (.string (D j))
theorem RdQ.below {w w' : World} {a : Option Addr} {n : Nat} {N : Nat → Bool} {S D : Nat → ByteArray} (h : RdQ w a n N S D) (hb : Below w.heap.size w w') : RdQ w' a n N S D := by
 intro j hj
 obtain ⟨b, off, rfl, h0, h1, h2⟩ := h j hj
 exact ⟨b, off, rfl, cell_below h0 hb, cell_below h1 hb, cell_below h2 hb⟩
def firstE (c : Nat → Nat) : Nat → Nat
 | 0 => 0
 | k + 1 => if firstE c k = 0 then c k else firstE c k
theorem firstE_stop {c : Nat → Nat} {k : Nat} (h0 : firstE c k = 0) (hc : c k ≠ 0) : ∀ n, k < n → firstE c n = c k
 | 0, h => by omega
 | n + 1, h => by
  by_cases e : n = k
  ·subst e; unfold firstE; rw [if_pos h0]
  ·have := firstE_stop h0 hc n (by omega)
   unfold firstE
   rw [this, if_neg hc]
theorem vcheck_walk (a : Option Addr) (n cap : Nat) (N : Nat → Bool) (S D : Nat → ByteArray) (c : Nat → Nat) (w : World) (hn : n ≤ 1000000) (h : RdQ w a n N S D)
  (HC : Hid (∀ (j : Nat) (w1 : World), Below w.heap.size w w1 → Calls Tryz.prog 129 #[.agg #[.bool (N j), .string (S j), .string (D j)]] w1 (Re w1 (.int .i64 (c j : Nat))))) :
  Calls Tryz.prog 94 #[.slice a n cap] w (Re w (.int .i64 (firstE c n : Nat))) := by
 replace h := shut h
 go_enter Tryz.func94, Tryz.ntmps94
 go_wp2
 go_loopw [8] (fun i wr => Below w.heap.size w wr ∧ ∃ k : Nat, k ≤ n ∧ i = .int .i64 k ∧ firstE c k = 0) (fun i _ => n - (intOf i).toNat)
 case atStart => exact ⟨Below.refl _ _, 0, by omega, rfl, rfl⟩
 case round =>
  obtain ⟨bb, k, hk, rfl, hz⟩ := hrel
  by_cases hkn : k < n
  ·obtain ⟨b, off, rfl, h0, h1, h2⟩ := h.out.below bb k hkn
   go_wp2_with fail
   go_fit (HC.out k _ (ba bb _))
   rintro e w1 ⟨rfl, b1⟩
   obtain ⟨-, b1⟩ := al1 b1
   replace bb := Below.after bb b1
   clear b1 h0 h1 h2
   by_cases hc : c k = 0
   ·have hs : firstE c (k + 1) = 0 := by unfold firstE; rw [if_pos hz, hc]
    replace hs := shut hs
    replace hz := shut hz
    rw [hc]
    go_wp2
    exact ⟨⟨bb, k + 1, by omega, by go_num, hs.out⟩, by simp [intOf]; omega⟩
   ·have hs := firstE_stop hz hc n hkn
    replace hs := shut hs
    replace hz := shut hz
    go_wp2
    go_ret
    exact ⟨by rw [hs.out]; rfl, bb⟩
  ·obtain rfl : k = n := by omega
   replace hz := shut hz
   go_wp2
   go_ret
   exact ⟨by rw [hz.out]; rfl, bb⟩
theorem den_any (n : Bool) (s d : ByteArray) (w : World) :
  Calls Tryz.prog 157 #[.agg #[.bool n, .string s, .string d]] w (Re w (.agg #[.bool false, .string d])) := by
 go_enter Tryz.func157, Tryz.ntmps157
 go_wp2
 obtain ⟨w0, hw, k0, k1, b⟩ := mk2 w [.bool n, .string s, .string d] [.bool false, .string d] 26 24
 rw [← hw]
 exact post_z (p := 2) (by kernel_rfl) rfl rfl k1 ⟨rfl, b⟩
theorem plus_ok (n0 n1 : Bool) (s0 s1 : ByteArray) (w : World) (o0 : OkZ n0 s0) (o1 : OkZ n1 s1) (z0 : s0.size ≤ 24000) (z1 : s1.size ≤ 24000) :
  Calls Tryz.prog 168 #[.agg #[.bool n0, .string s0], .agg #[.bool n1, .string s1]] w (Re w (zI (zOf n0 s0 + zOf n1 s1))) := by
 have HA := shut (fun w => zadd_ok n0 n1 s0 s1 w o0 o1 z0 z1)
 generalize hR : zI (zOf n0 s0 + zOf n1 s1) = R at *
 obtain ⟨za, zb, rfl⟩ : ∃ a b, R = .agg #[.bool a, .string b] := ⟨_, _, hR.symm⟩
 clear hR
 go_enter Tryz.func168, Tryz.ntmps168
 go_wp2_with fail
 go_fit (HA.out _)
 rintro e w1 ⟨rfl, b1⟩
 obtain ⟨ka, kb, kr, b1⟩ := al3 b1
 have bb := b1
 clear b1
 have cr_0 := cel2_0' (kr.alloc (.cells #[.bool za, .string zb] 24))
 have fr_1 := Cel.frozen (kr.alloc (.cells #[.bool za, .string zb] 24)) 0
 have cr_2 := cel2_1' (kr.alloc (.cells #[.bool za, .string zb] 24))
 have fr_3 := Cel.frozen (kr.alloc (.cells #[.bool za, .string zb] 24)) 1
 go_wp2
 have kr' := kr.alloc (.cells #[.bool za, .string zb] 24)
 exact post_z (p := 4) (by kernel_rfl) rfl rfl ((kr'.set 0 _).set 1 _) ⟨rfl, ((bb.alloc bb.size _).setCell (by simp; omega) _).setCell (by simp; omega) _⟩
theorem order_ok (n0 n1 : Bool) (s0 s1 : ByteArray) (w : World) (o0 : OkZ n0 s0) (o1 : OkZ n1 s1) (z0 : s0.size ≤ 32000) (z1 : s1.size ≤ 32000) :
  Calls Tryz.prog 155 #[.agg #[.bool n0, .string s0], .agg #[.bool n1, .string s1]] w (Re w (.int .i64 (cmpZ (zOf n0 s0) (zOf n1 s1)))) := by
 have HA := shut (fun w => zcmp_ok n0 n1 s0 s1 w o0 o1 z0 z1)
 generalize cmpZ (zOf n0 s0) (zOf n1 s1) = c at *
 go_enter Tryz.func155, Tryz.ntmps155
 go_wp2_with fail
 go_fit (HA.out _)
 rintro e w1 ⟨rfl, b1⟩
 obtain ⟨ka, kb, b1⟩ := al2 b1
 have bb := b1
 clear b1
 go_wp2
 go_ret
 exact ⟨rfl, bb⟩
theorem eq1 {s : ByteArray} (h : s = ⟨#[1]⟩) : (s.toList == [1]) = true := by subst h; decide +kernel
theorem ne1 {s : ByteArray} (h : s ≠ ⟨#[1]⟩) : (s.toList == [1]) = false := by
 rw [ByteArray.toList_eq]
 obtain ⟨⟨l⟩⟩ := s
 refine beq_eq_false_iff_ne.2 fun e => h ?_
 have e' : l = [1] := e
 subst e'
 rfl
theorem times_plain (n0 n1 : Bool) (s0 s1 : ByteArray) (w : World) (o0 : OkZ n0 s0) (o1 : OkZ n1 s1) (z0 : s0.size ≤ 16000) (z1 : s1.size ≤ 16000) (hne : s1 ≠ ⟨#[1]⟩) :
  Calls Tryz.prog 156 #[.agg #[.bool n0, .string s0], .agg #[.bool n1, .string s1]] w (Re w (zI (zOf n0 s0 * zOf n1 s1))) := by
 have HA := shut (fun w => zmul_ok n0 n1 s0 s1 w o0 o1 z0 z1)
 generalize hR : zI (zOf n0 s0 * zOf n1 s1) = R at *
 obtain ⟨za, zb, rfl⟩ : ∃ a b, R = .agg #[.bool a, .string b] := ⟨_, _, hR.symm⟩
 clear hR
 have hne := ne1 hne
 go_enter Tryz.func156, Tryz.ntmps156
 go_wp2_with fail
 go_fit (HA.out _)
 rintro e w1 ⟨rfl, b1⟩
 obtain ⟨ka, kb, kr, b1⟩ := al3 b1
 have bb := b1
 clear b1
 have cr_0 := cel2_0' (kr.alloc (.cells #[.bool za, .string zb] 24))
 have fr_1 := Cel.frozen (kr.alloc (.cells #[.bool za, .string zb] 24)) 0
 have cr_2 := cel2_1' (kr.alloc (.cells #[.bool za, .string zb] 24))
 have fr_3 := Cel.frozen (kr.alloc (.cells #[.bool za, .string zb] 24)) 1
 go_wp2
 have kr' := (kr.alloc (.cells #[.bool za, .string zb] 24))
 exact post_z (p := 4) (by kernel_rfl) rfl rfl ((kr'.set 0 _).set 1 _) ⟨rfl, (Below.setCell (ba bb _) (by simp; omega) _).setCell (by simp; omega) _⟩
theorem times_neg (n0 : Bool) (s0 : ByteArray) (w : World) (o0 : OkZ n0 s0) (o1 : OkZ true ⟨#[1]⟩) (z0 : s0.size ≤ 16000) :
  Calls Tryz.prog 156 #[.agg #[.bool n0, .string s0], .agg #[.bool true, .string ⟨#[1]⟩]] w (Re w (zI (zOf n0 s0 * zOf true ⟨#[1]⟩))) := by
 have HA := shut (fun w => zmul_ok n0 true s0 ⟨#[1]⟩ w o0 o1 z0 (by decide))
 generalize hR : zI (zOf n0 s0 * zOf true ⟨#[1]⟩) = R at *
 obtain ⟨za, zb, rfl⟩ : ∃ a b, R = .agg #[.bool a, .string b] := ⟨_, _, hR.symm⟩
 clear hR
 go_enter Tryz.func156, Tryz.ntmps156
 go_wp2_with fail
 go_fit (HA.out _)
 rintro e w1 ⟨rfl, b1⟩
 obtain ⟨ka, kb, kr, b1⟩ := al3 b1
 have bb := b1
 clear b1
 have cr_0 := cel2_0' (kr.alloc (.cells #[.bool za, .string zb] 24))
 have fr_1 := Cel.frozen (kr.alloc (.cells #[.bool za, .string zb] 24)) 0
 have cr_2 := cel2_1' (kr.alloc (.cells #[.bool za, .string zb] 24))
 have fr_3 := Cel.frozen (kr.alloc (.cells #[.bool za, .string zb] 24)) 1
 go_wp2
 have kr' := (kr.alloc (.cells #[.bool za, .string zb] 24))
 exact post_z (p := 4) (by kernel_rfl) rfl rfl ((kr'.set 0 _).set 1 _) ⟨rfl, (Below.setCell (ba bb _) (by simp; omega) _).setCell (by simp; omega) _⟩
theorem times_one (n0 : Bool) (s0 : ByteArray) (w : World) :
  Calls Tryz.prog 156 #[.agg #[.bool n0, .string s0], .agg #[.bool false, .string ⟨#[1]⟩]] w (Re w (.agg #[.bool n0, .string s0])) := by
 go_enter Tryz.func156, Tryz.ntmps156
 go_wp2
 obtain ⟨w0, hw, k0, k1, k2, b⟩ := mk3 w [.bool n0, .string s0] [.bool false, .string ⟨#[1]⟩] [.bool n0, .string s0] 24 24 24
 rw [← hw]
 exact post_z (p := 4) (by kernel_rfl) rfl rfl k2 ⟨rfl, b⟩
theorem times_ok (n0 n1 : Bool) (s0 s1 : ByteArray) (w : World) (o0 : OkZ n0 s0) (o1 : OkZ n1 s1) (z0 : s0.size ≤ 16000) (z1 : s1.size ≤ 16000) :
  Calls Tryz.prog 156 #[.agg #[.bool n0, .string s0], .agg #[.bool n1, .string s1]] w (Re w (zI (zOf n0 s0 * zOf n1 s1))) := by
 by_cases h : s1 = ⟨#[1]⟩
 ·subst h
  cases n1 with
  | true => exact times_neg n0 s0 w o0 o1 z0
  | false =>
   have := times_one n0 s0 w
   have e : zOf n0 s0 * zOf false ⟨#[1]⟩ = zOf n0 s0 := by
    rw [show zOf false ⟨#[1]⟩ = 1 by unfold zOf; rw [natOf_one]; rfl, Int.mul_one]
   rw [e, ← zV_ok o0]
   exact this
 ·exact times_plain n0 n1 s0 s1 w o0 o1 z0 z1 h
end Go.Proofs.YtiiigiggcbbgjaaGreatDoor
