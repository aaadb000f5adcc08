/-
  Two blocks that a statement lays, and fills at its end.
  A region whose order is open, state by state.
  Blocks that were laid ahead of a call, behind it; blocks of three cells.
  Package rat: den, order, plus, times, divisor, cut.
-/
import Derived.Deep.CutRange
import Derived.Deep.DeepFit
import Derived.Test.YtdbnkcimcpnpdaaGreatDoorG26
namespace Go.Proofs.YtdbnkcimcpnpdaaGreatDoor
open Go.RowKit

end Go.Proofs.YtdbnkcimcpnpdaaGreatDoor
namespace Go.Proofs.YtdbnkcimcpnpdaaGreatDoor
open Go.RowKit

theorem absO {P : Program} {OPS : Array Oper} {Q : Exit → Act → World → Prop} {S : World → Prop} {a : Act} {w : World} (n : Nat) (hn : OPS.size = n)
  (h : ∀ (ops : Array Oper) (q : Exit → Act → World → Prop) (SP : World → Prop), ops = OPS → q = Q → SP = S → wpAnyH P .any ops q SP n (Array.replicate n false) a w) : wpAnyH P .any OPS Q S OPS.size (Array.replicate OPS.size false) a w := by
 subst hn
 exact h OPS Q S rfl rfl rfl
/-- Which operations have come up. -/
def ls (n : Nat) (l : List Nat) : Array Bool := (Array.range n).map fun i => l.contains i
theorem lst {P : Program} {ops : Array Oper} {Q : Exit → Act → World → Prop} {S : World → Prop} {a : Act} {w : World} {n m : Nat} {l : Array Bool} {k : List Nat} (H : wpAnyH P .any ops Q S n (ls m k) a w) (h : l = ls m k) : wpAnyH P .any ops Q S n l a w := by
 subst h
 exact H
theorem bset {N : Nat} {w wn : World} {g : Nat} (b : Below N w wn) (h : N ≤ g) (j : Nat) (v : Value) : Below N w (wn.setCell ⟨g, j, none⟩ v) := b.setCell h v
theorem rdy {P : Program} {ops : Array Oper} {Q : Exit → Act → World → Prop} {S : World → Prop} {fuel : Nat} {listed : Array Bool} {a : Act} {w : World} (rs : List Nat) (hr : Region.ready .any ops listed = rs) (h : AllReadyH P .any ops Q S fuel listed a w rs) (hne : rs ≠ [] := by simp) : wpAnyH P .any ops Q S (fuel + 1) listed a w :=
 wpAnyH_ready hr hne h
end Go.Proofs.YtdbnkcimcpnpdaaGreatDoor
namespace Go.Proofs.YtdbnkcimcpnpdaaGreatDoor
open Go.RowKit

theorem cel3_0 {w : World} {g : Nat} {x y z : Value} {t : TypeId} (h : Cel w g [x, y, z] t) : w.cell? ⟨g, 0, none⟩ = some x := h.cell 0
theorem cel3_1 {w : World} {g : Nat} {x y z : Value} {t : TypeId} (h : Cel w g [x, y, z] t) : w.cell? ⟨g, 1, none⟩ = some y := h.cell 1
theorem cel3_2 {w : World} {g : Nat} {x y z : Value} {t : TypeId} (h : Cel w g [x, y, z] t) : w.cell? ⟨g, 2, none⟩ = some z := h.cell 2
theorem cel_top (w : World) (cs : List Value) (t : TypeId) : Cel (w.alloc (.cells cs.toArray t)) w.heap.size cs t := Cel.new w cs t
theorem bel_al (w : World) (o : Obj) : Below w.heap.size w (w.alloc o) := (Below.refl _ _).alloc (Nat.le_refl _) o
theorem ba {w w1 : World} (b : Below w.heap.size w w1) (o : Obj) : Below w.heap.size w (w1.alloc o) := b.alloc b.size o
/-- One block was laid ahead of a call. -/
theorem al1 {w w' : World} {c0 : List Value} {t0 : TypeId} (b : Below (w.alloc (.cells c0.toArray t0)).heap.size (w.alloc (.cells c0.toArray t0)) w') :
  Cel w' w.heap.size c0 t0 ∧ Below w.heap.size w w' := ⟨(cel_top w c0 t0).below b, Below.after (bel_al w _) b⟩
theorem al2 {w w' : World} {c0 c1 : List Value} {t0 t1 : TypeId} (b : Below ((w.alloc (.cells c0.toArray t0)).alloc (.cells c1.toArray t1)).heap.size ((w.alloc (.cells c0.toArray t0)).alloc (.cells c1.toArray t1)) w') :
  Cel w' w.heap.size c0 t0 ∧ Cel w' (w.heap.size + 1) c1 t1 ∧ Below w.heap.size w w' := by
 obtain ⟨k1, b1⟩ := al1 b
 obtain ⟨k0, b0⟩ := al1 b1
 exact ⟨k0, by simpa using k1, b0⟩
theorem al3 {w w' : World} {c0 c1 c2 : List Value} {t0 t1 t2 : TypeId} (b : Below (((w.alloc (.cells c0.toArray t0)).alloc (.cells c1.toArray t1)).alloc (.cells c2.toArray t2)).heap.size (((w.alloc (.cells c0.toArray t0)).alloc (.cells c1.toArray t1)).alloc (.cells c2.toArray t2)) w') :
  Cel w' w.heap.size c0 t0 ∧ Cel w' (w.heap.size + 1) c1 t1 ∧ Cel w' (w.heap.size + 1 + 1) c2 t2 ∧ Below w.heap.size w w' := by
 obtain ⟨k2, b2⟩ := al1 b
 obtain ⟨k0, k1, b0⟩ := al2 b2
 exact ⟨k0, k1, by simpa using k2, b0⟩
theorem al4 {w w' : World} {c0 c1 c2 c3 : List Value} {t0 t1 t2 t3 : TypeId} (b : Below ((((w.alloc (.cells c0.toArray t0)).alloc (.cells c1.toArray t1)).alloc (.cells c2.toArray t2)).alloc (.cells c3.toArray t3)).heap.size ((((w.alloc (.cells c0.toArray t0)).alloc (.cells c1.toArray t1)).alloc (.cells c2.toArray t2)).alloc (.cells c3.toArray t3)) w') :
  Cel w' w.heap.size c0 t0 ∧ Cel w' (w.heap.size + 1) c1 t1 ∧ Cel w' (w.heap.size + 1 + 1) c2 t2 ∧ Cel w' (w.heap.size + 1 + 1 + 1) c3 t3 ∧ Below w.heap.size w w' := by
 obtain ⟨k3, b3⟩ := al1 b
 obtain ⟨k0, k1, k2, b0⟩ := al3 b3
 exact ⟨k0, k1, k2, by simpa using k3, b0⟩
/-- The same without a call. -/
theorem mk1 (w : World) (c0 : List Value) (t0 : TypeId) : ∃ w', w' = w.alloc (.cells c0.toArray t0) ∧ Cel w' w.heap.size c0 t0 ∧ Below w.heap.size w w' := ⟨_, rfl, al1 (Below.refl _ _)⟩
theorem mk2 (w : World) (c0 c1 : List Value) (t0 t1 : TypeId) : ∃ w', w' = (w.alloc (.cells c0.toArray t0)).alloc (.cells c1.toArray t1) ∧ Cel w' w.heap.size c0 t0 ∧ Cel w' (w.heap.size + 1) c1 t1 ∧ Below w.heap.size w w' := ⟨_, rfl, al2 (Below.refl _ _)⟩
theorem mk3 (w : World) (c0 c1 c2 : List Value) (t0 t1 t2 : TypeId) : ∃ w', w' = ((w.alloc (.cells c0.toArray t0)).alloc (.cells c1.toArray t1)).alloc (.cells c2.toArray t2) ∧ Cel w' w.heap.size c0 t0 ∧ Cel w' (w.heap.size + 1) c1 t1 ∧ Cel w' (w.heap.size + 1 + 1) c2 t2 ∧ Below w.heap.size w w' := ⟨_, rfl, al3 (Below.refl _ _)⟩
theorem mk4 (w : World) (c0 c1 c2 c3 : List Value) (t0 t1 t2 t3 : TypeId) : ∃ w', w' = (((w.alloc (.cells c0.toArray t0)).alloc (.cells c1.toArray t1)).alloc (.cells c2.toArray t2)).alloc (.cells c3.toArray t3) ∧ Cel w' w.heap.size c0 t0 ∧ Cel w' (w.heap.size + 1) c1 t1 ∧ Cel w' (w.heap.size + 1 + 1) c2 t2 ∧ Cel w' (w.heap.size + 1 + 1 + 1) c3 t3 ∧ Below w.heap.size w w' := ⟨_, rfl, al4 (Below.refl _ _)⟩

/-- How a call hands back a struct of three cells. -/
theorem load3 {w : World} {g : Nat} {x y z : Value} (h : Cel w g [x, y, z] 26) : (loadVar 26 ⟨g, 0, none⟩).run Tryz.prog w = .ok (.agg #[x, y, z]) w :=
 run_loadVar_row w g 26 26 #[x, y, z] (0, 0) _ h Tryz.underlying26 rfl (by kernel_rfl)
theorem post_q {fn : Func} {p : Tmp} {R : Ending → World → Prop} {a : Act} {w : World} {g : Nat} {x y z : Value} (h : fn.results = #[.cell p 26]) (hp : a.tmps.getD p undef = .pointer (some ⟨g, 0, none⟩)) (hd : a.defers = [])
  (hc : Cel w g [x, y, z] 26) (hR : R (.returned (.agg #[x, y, z])) w) : bodyPost Tryz.prog fn R .ret a w := by
 refine ⟨hd, .agg #[x, y, z], ?_, hR⟩
 exact results_cell_row (P := Tryz.prog) h _ w g 26 #[x, y, z] (0, 0) _ hp hc Tryz.underlying26 rfl (by kernel_rfl)
theorem post_q1 {fn : Func} {p u : Tmp} {R : Ending → World → Prop} {a : Act} {w : World} {g : Nat} {x y z v : Value} (h : fn.results = #[.cell p 26, .tmp u]) (hp : a.tmps.getD p undef = .pointer (some ⟨g, 0, none⟩)) (hu : a.tmps.getD u undef = v) (hd : a.defers = [])
  (hc : Cel w g [x, y, z] 26) (hR : R (.returned (.tuple #[.agg #[x, y, z], v])) w) : bodyPost Tryz.prog fn R .ret a w := by
 refine ⟨hd, .tuple #[.agg #[x, y, z], v], ?_, hR⟩
 rw [results_cell_tmp h, hp, hu]
 simp [asAddr, load3 hc, Result.andThen]
theorem bdrew (w : World) : Below w.heap.size w w.drew := (Below.refl w.heap.size w).drew
end Go.Proofs.YtdbnkcimcpnpdaaGreatDoor
namespace Go.Proofs.YtdbnkcimcpnpdaaGreatDoor
open Go.RowKit

set_option maxHeartbeats 1000000 in
theorem den_any (n : Bool) (s d : ByteArray) (w : World) :
  Calls Tryz.prog 42 #[.agg #[.bool n, .string s, .string d]] w fun e w' => e = .returned (.agg #[.bool false, .string d]) ∧ Below w.heap.size w w' := by
 go_enter Tryz.func42, Tryz.ntmps42
 go_wp2
 obtain ⟨w0, hw, k0, k1, b⟩ := mk2 w [.bool n, .string s, .string d] [.bool false, .string d] 26 24
 rw [← hw]
 exact post_z (p := 2) (by kernel_rfl) rfl rfl k1 ⟨rfl, b⟩
set_option maxRecDepth 100000 in
set_option maxHeartbeats 1000000 in
theorem plus_ok (n0 n1 : Bool) (s0 s1 : ByteArray) (w : World) (o0 : OkZ n0 s0) (o1 : OkZ n1 s1) (z0 : s0.size ≤ 24000) (z1 : s1.size ≤ 24000) :
  Calls Tryz.prog 79 #[.agg #[.bool n0, .string s0], .agg #[.bool n1, .string s1]] w fun e w' => e = .returned (zI (zOf n0 s0 + zOf n1 s1)) ∧ Below w.heap.size w w' := by
 have HA := shut (fun w => zadd_ok n0 n1 s0 s1 w o0 o1 z0 z1)
 generalize hR : zI (zOf n0 s0 + zOf n1 s1) = R at *
 obtain ⟨za, zb, rfl⟩ : ∃ a b, R = .agg #[.bool a, .string b] := ⟨_, _, hR.symm⟩
 clear hR
 go_enter Tryz.func79, Tryz.ntmps79
 go_wp2_with fail
 go_fit (HA.out _)
 rintro e w1 ⟨rfl, b1⟩
 obtain ⟨ka, kb, kr, b1⟩ := al3 b1
 have bb := b1
 clear b1
 have cr_0 := cel2_0' (kr.alloc (.cells #[.bool za, .string zb] 24))
 have fr_1 := Cel.frozen (kr.alloc (.cells #[.bool za, .string zb] 24)) 0
 have cr_2 := cel2_1' (kr.alloc (.cells #[.bool za, .string zb] 24))
 have fr_3 := Cel.frozen (kr.alloc (.cells #[.bool za, .string zb] 24)) 1
 go_wp2
 have kr' := kr.alloc (.cells #[.bool za, .string zb] 24)
 exact post_z (p := 4) (by kernel_rfl) rfl rfl ((kr'.set 0 _).set 1 _) ⟨rfl, ((bb.alloc bb.size _).setCell (by simp; omega) _).setCell (by simp; omega) _⟩
set_option maxRecDepth 100000 in
set_option maxHeartbeats 1000000 in
theorem order_ok (n0 n1 : Bool) (s0 s1 : ByteArray) (w : World) (o0 : OkZ n0 s0) (o1 : OkZ n1 s1) (z0 : s0.size ≤ 32000) (z1 : s1.size ≤ 32000) :
  Calls Tryz.prog 40 #[.agg #[.bool n0, .string s0], .agg #[.bool n1, .string s1]] w fun e w' => e = .returned (.int .i64 (cmpZ (zOf n0 s0) (zOf n1 s1))) ∧ Below w.heap.size w w' := by
 have HA := shut (fun w => zcmp_ok n0 n1 s0 s1 w o0 o1 z0 z1)
 generalize cmpZ (zOf n0 s0) (zOf n1 s1) = c at *
 go_enter Tryz.func40, Tryz.ntmps40
 go_wp2_with fail
 go_fit (HA.out _)
 rintro e w1 ⟨rfl, b1⟩
 obtain ⟨ka, kb, b1⟩ := al2 b1
 have bb := b1
 clear b1
 go_wp2
 go_ret
 exact ⟨rfl, bb⟩
theorem eq1 {s : ByteArray} (h : s = ⟨#[1]⟩) : (s.toList == [1]) = true := by subst h; decide +kernel
theorem ne1 {s : ByteArray} (h : s ≠ ⟨#[1]⟩) : (s.toList == [1]) = false := by
 rw [ByteArray.toList_eq]
 obtain ⟨⟨l⟩⟩ := s
 refine beq_eq_false_iff_ne.2 fun e => h ?_
 have e' : l = [1] := e
 subst e'
 rfl
set_option maxRecDepth 100000 in
set_option maxHeartbeats 1000000 in
theorem times_plain (n0 n1 : Bool) (s0 s1 : ByteArray) (w : World) (o0 : OkZ n0 s0) (o1 : OkZ n1 s1) (z0 : s0.size ≤ 16000) (z1 : s1.size ≤ 16000) (hne : s1 ≠ ⟨#[1]⟩) :
  Calls Tryz.prog 41 #[.agg #[.bool n0, .string s0], .agg #[.bool n1, .string s1]] w fun e w' => e = .returned (zI (zOf n0 s0 * zOf n1 s1)) ∧ Below w.heap.size w w' := by
 have HA := shut (fun w => zmul_ok n0 n1 s0 s1 w o0 o1 z0 z1)
 generalize hR : zI (zOf n0 s0 * zOf n1 s1) = R at *
 obtain ⟨za, zb, rfl⟩ : ∃ a b, R = .agg #[.bool a, .string b] := ⟨_, _, hR.symm⟩
 clear hR
 have hne := ne1 hne
 go_enter Tryz.func41, Tryz.ntmps41
 go_wp2_with fail
 go_fit (HA.out _)
 rintro e w1 ⟨rfl, b1⟩
 obtain ⟨ka, kb, kr, b1⟩ := al3 b1
 have bb := b1
 clear b1
 have cr_0 := cel2_0' (kr.alloc (.cells #[.bool za, .string zb] 24))
 have fr_1 := Cel.frozen (kr.alloc (.cells #[.bool za, .string zb] 24)) 0
 have cr_2 := cel2_1' (kr.alloc (.cells #[.bool za, .string zb] 24))
 have fr_3 := Cel.frozen (kr.alloc (.cells #[.bool za, .string zb] 24)) 1
 go_wp2
 have kr' := (kr.alloc (.cells #[.bool za, .string zb] 24))
 exact post_z (p := 4) (by kernel_rfl) rfl rfl ((kr'.set 0 _).set 1 _) ⟨rfl, (Below.setCell (ba bb _) (by simp; omega) _).setCell (by simp; omega) _⟩
set_option maxRecDepth 100000 in
set_option maxHeartbeats 1000000 in
theorem times_neg (n0 : Bool) (s0 : ByteArray) (w : World) (o0 : OkZ n0 s0) (o1 : OkZ true ⟨#[1]⟩) (z0 : s0.size ≤ 16000) :
  Calls Tryz.prog 41 #[.agg #[.bool n0, .string s0], .agg #[.bool true, .string ⟨#[1]⟩]] w fun e w' => e = .returned (zI (zOf n0 s0 * zOf true ⟨#[1]⟩)) ∧ Below w.heap.size w w' := by
 have HA := shut (fun w => zmul_ok n0 true s0 ⟨#[1]⟩ w o0 o1 z0 (by decide))
 generalize hR : zI (zOf n0 s0 * zOf true ⟨#[1]⟩) = R at *
 obtain ⟨za, zb, rfl⟩ : ∃ a b, R = .agg #[.bool a, .string b] := ⟨_, _, hR.symm⟩
 clear hR
 go_enter Tryz.func41, Tryz.ntmps41
 go_wp2_with fail
 go_fit (HA.out _)
 rintro e w1 ⟨rfl, b1⟩
 obtain ⟨ka, kb, kr, b1⟩ := al3 b1
 have bb := b1
 clear b1
 have cr_0 := cel2_0' (kr.alloc (.cells #[.bool za, .string zb] 24))
 have fr_1 := Cel.frozen (kr.alloc (.cells #[.bool za, .string zb] 24)) 0
 have cr_2 := cel2_1' (kr.alloc (.cells #[.bool za, .string zb] 24))
 have fr_3 := Cel.frozen (kr.alloc (.cells #[.bool za, .string zb] 24)) 1
 go_wp2
 have kr' := (kr.alloc (.cells #[.bool za, .string zb] 24))
 exact post_z (p := 4) (by kernel_rfl) rfl rfl ((kr'.set 0 _).set 1 _) ⟨rfl, (Below.setCell (ba bb _) (by simp; omega) _).setCell (by simp; omega) _⟩
set_option maxRecDepth 100000 in
set_option maxHeartbeats 1000000 in
theorem times_one (n0 : Bool) (s0 : ByteArray) (w : World) :
  Calls Tryz.prog 41 #[.agg #[.bool n0, .string s0], .agg #[.bool false, .string ⟨#[1]⟩]] w fun e w' => e = .returned (.agg #[.bool n0, .string s0]) ∧ Below w.heap.size w w' := by
 go_enter Tryz.func41, Tryz.ntmps41
 go_wp2
 obtain ⟨w0, hw, k0, k1, k2, b⟩ := mk3 w [.bool n0, .string s0] [.bool false, .string ⟨#[1]⟩] [.bool n0, .string s0] 24 24 24
 rw [← hw]
 exact post_z (p := 4) (by kernel_rfl) rfl rfl k2 ⟨rfl, b⟩
theorem times_ok (n0 n1 : Bool) (s0 s1 : ByteArray) (w : World) (o0 : OkZ n0 s0) (o1 : OkZ n1 s1) (z0 : s0.size ≤ 16000) (z1 : s1.size ≤ 16000) :
  Calls Tryz.prog 41 #[.agg #[.bool n0, .string s0], .agg #[.bool n1, .string s1]] w fun e w' => e = .returned (zI (zOf n0 s0 * zOf n1 s1)) ∧ Below w.heap.size w w' := by
 by_cases h : s1 = ⟨#[1]⟩
 ·subst h
  cases n1 with
  | true => exact times_neg n0 s0 w o0 o1 z0
  | false =>
   have := times_one n0 s0 w
   have e : zOf n0 s0 * zOf false ⟨#[1]⟩ = zOf n0 s0 := by
    rw [show zOf false ⟨#[1]⟩ = 1 by unfold zOf; rw [natOf_one]; rfl, Int.mul_one]
   rw [e, ← zV_ok o0]
   exact this
 ·exact times_plain n0 n1 s0 s1 w o0 o1 z0 z1 h
end Go.Proofs.YtdbnkcimcpnpdaaGreatDoor
