/-
  Package cons: what Ratio2 divides.
  Package cons: Ratio2, walked.
  Package cons: Ratio2, walked, any.
  Sharp, Area2, Ratio2 in numbers' one form, both sides.
  gussetlaw06: ConsShapes holds.
-/
import Derived.Deep.CutBlock
import Derived.Test.YtiiigiggcbbgjaaGreatDoorK48
set_option maxRecDepth 100000
set_option maxHeartbeats 16000000
namespace Go.Proofs.YtiiigiggcbbgjaaGreatDoor
open Go.RowKit
theorem nover2n (m0 m1 m2 : Bool) (v0 : Value) (a1 a2 : Option Addr) (l1 c1 l2 c2 : Nat) (z d1 d2 : Int) (L : Nat) (B : Nat) (w : World) (hT : Tab w) (hL : L ≤ 400) (p1 : d1 ≠ 0) (p2 : d2 ≠ 0) {q : Rat} (he : mkRat z (d1.natAbs * d2.natAbs) = q)
  (n0 : NV w m0 v0 z L) (n1 : NV w m1 (.slice a1 l1 c1) d1 L) (n2 : NV w m2 (.slice a2 l2 c2) d2 L) (h : Cel w B [.bool m1, .slice a1 l1 c1, .bool m2, .slice a2 l2 c2] 72) :
  Calls Tryz.prog 78 #[.agg #[.bool m0, v0], .slice (some ⟨B, 0, none⟩) 2 2] w (Re w (.agg #[.bool (nfZ q.num), .string (sfZ q.num), .string (strOf q.den)])) := by
 subst he
 refine over_walk m0 v0 _ 2 2 (tw2 m1 m2) (tw2 a1 a2) (tw2 l1 l2) (tw2 c1 c2) z (tw2 d1 d2) _ _ _ w (by omega) n0.slice (rdn_two h) (fun k w1 hk b => ?_) (fun w1 b => nint_any _ _ z L w1 (by omega) (n0.below b)) (fun g w1 b hc => ?_)
 ·match k, hk with
  | 0, _ => exact nint_any _ _ d1 L w1 (by omega) (n1.below b)
  | 1, _ => exact nint_any _ _ d2 L w1 (by omega) (n2.below b)
 ·have b0 := n0.bd (K := 4000) (by omega)
  have b1 := n1.bd (K := 4000) (by omega)
  have b2 := n2.bd (K := 4000) (by omega)
  have o1 : OkS (sfZ d1) ∧ 0 < natOf (sfZ d1) ∧ (sfZ d1).size ≤ 8000 := ⟨okS_sfZ d1, by rw [natOf_sfZ]; omega, Nat.le_trans b1.size (by omega)⟩
  have o2 : OkS (sfZ d2) ∧ 0 < natOf (sfZ d2) ∧ (sfZ d2).size ≤ 8000 := ⟨okS_sfZ d2, by rw [natOf_sfZ]; omega, Nat.le_trans b2.size (by omega)⟩
  have hm := b1.mul b2
  have := over_any z (.slice (some ⟨g, 0, none⟩) 2 2) [sfZ d1, sfZ d2] w1 (hT.below b) (rds_two hc) (by simp) (fun x hx => by rcases List.mem_cons.1 hx with rfl | hx; exact o1; rcases List.mem_cons.1 hx with rfl | hx; exact o2; cases hx) (K := 4000 + 4000) (by omega) (b0.mono (by omega)) (by
   show natOf (sfZ d1) * (natOf (sfZ d2) * 1) < _
   rw [Nat.mul_one, natOf_sfZ, natOf_sfZ, ← Int.natAbs_mul]
   exact hm)
  rw [show Dt.nprod ([sfZ d1, sfZ d2].map natOf) = d1.natAbs * d2.natAbs by show natOf (sfZ d1) * (natOf (sfZ d2) * 1) = _; rw [Nat.mul_one, natOf_sfZ, natOf_sfZ]] at this
  exact this
theorem Gm.ratio_ne {X Y U X' Y' U' : Int} {x y x' y' : Rat} (h : Gm.Way X Y U x y) (h' : Gm.Way X' Y' U' x' y') (hN : x * y' - y * x' ≠ 0) : (X * Y' - Y * X') + (X * Y' - Y * X') ≠ 0 := by
 have p1 := Gm.upos h.1
 have p4 := Gm.upos h'.1
 have hne : X * Y' - Y * X' ≠ 0 := by
  intro e
  have e2 : ((X * Y' - Y * X' : Int) : Rat) = 0 := by rw [e]; rfl
  rw [Rat.intCast_sub, Rat.intCast_mul, Rat.intCast_mul, h.2.1, h.2.2, h'.2.1, h'.2.2] at e2
  have e3 : (U : Rat) * (U' : Rat) * (x * y' - y * x') = 0 := by grind
  rcases Rat.mul_eq_zero.1 e3 with k | k
  ·rcases Rat.mul_eq_zero.1 k with k | k <;> grind
  ·exact hN k
 omega
theorem Gm.ratio_eq {X Y U X' Y' U' : Int} {x y x' y' : Rat} (h : Gm.Way X Y U x y) (h' : Gm.Way X' Y' U' x' y') (hN : x * y' - y * x' ≠ 0) : mkRat ((X * X + Y * Y) * (X' * X' + Y' * Y')) (((X * Y' - Y * X') + (X * Y' - Y * X')).natAbs * ((X * Y' - Y * X') + (X * Y' - Y * X')).natAbs) = (x * x + y * y) * (x' * x' + y' * y') / (((x * y' - y * x') + (x * y' - y * x')) * ((x * y' - y * x') + (x * y' - y * x'))) := by
 have hne := Gm.ratio_ne h h' hN
 have hn2 : ((((X * Y' - Y * X') + (X * Y' - Y * X') : Int)) : Rat) ≠ 0 := fun e => hne (by
  have e' : ((((X * Y' - Y * X') + (X * Y' - Y * X') : Int)) : Rat) = ((0 : Int) : Rat) := e
  exact Rat.intCast_inj.1 e')
 have hq : ((x * y' - y * x') + (x * y' - y * x')) * ((x * y' - y * x') + (x * y' - y * x')) ≠ 0 := fun e => by
  rcases Rat.mul_eq_zero.1 e with k | k <;> exact hN (by grind)
 refine Gm.over_eq (b := ((((X * Y' - Y * X') + (X * Y' - Y * X') : Int)) : Rat) * ((((X * Y' - Y * X') + (X * Y' - Y * X') : Int)) : Rat)) (fun q => by rcases Rat.mul_eq_zero.1 q with k | k <;> exact hn2 k) ?_ ?_
 ·generalize (X * Y' - Y * X') + (X * Y' - Y * X') = z
  have e : ((z.natAbs * z.natAbs : Nat) : Int) = z * z := Int.natAbs_mul_self
  rw [← Rat.intCast_natCast, e, Rat.intCast_mul]
 ·have hr := Rat.mul_inv_cancel _ hq
  rw [Rat.div_def]
  push_cast
  rw [h.2.1, h.2.2, h'.2.1, h'.2.2]
  generalize (((x * y' - y * x') + (x * y' - y * x')) * ((x * y' - y * x') + (x * y' - y * x')))⁻¹ = i at *
  grind
def t3 {α : Type} (k : Nat) (x y z : α) : α := match k with
 | 0 => x
 | 1 => y
 | _ => z
theorem cRat_bad (n0 n1 n2 n3 n4 n5 : Bool) (s0 d0 s1 d1 s2 d2 s3 d3 s4 d4 s5 d5 : ByteArray) (E : Int) (w : World) (hE : ¬ E = 0)
  (HC : Hid (∀ (w1 : World) (B : Nat), Below w.heap.size w w1 → Cel w1 B [.bool n0, .string s0, .string d0, .bool n1, .string s1, .string d1, .bool n2, .string s2, .string d2, .bool n3, .string s3, .string d3, .bool n4, .string s4, .string d4, .bool n5, .string s5, .string d5] 28 → Calls Tryz.prog 45 #[.slice (some ⟨B, 0, none⟩) 3 3] w1 (Re w1 (.int .i64 E)))) :
  Calls Tryz.prog 30 #[.agg #[.bool n0, .string s0, .string d0, .bool n1, .string s1, .string d1], .agg #[.bool n2, .string s2, .string d2, .bool n3, .string s3, .string d3], .agg #[.bool n4, .string s4, .string d4, .bool n5, .string s5, .string d5]] w (Re w (.tuple #[.agg #[.bool false, .string { data := #[] }, .string { data := #[] }], .int .i64 E])) := by
 go_enter Tryz.func30, Tryz.ntmps30
 go_wp2_with fail
 obtain ⟨w0, hw, ka, kb, kc, kr, kl, bb⟩ := mk5 w [.bool n0, .string s0, .string d0, .bool n1, .string s1, .string d1] [.bool n2, .string s2, .string d2, .bool n3, .string s3, .string d3] [.bool n4, .string s4, .string d4, .bool n5, .string s5, .string d5] [.bool false, .string { data := #[] }, .string { data := #[] }] [.bool n0, .string s0, .string d0, .bool n1, .string s1, .string d1, .bool n2, .string s2, .string d2, .bool n3, .string s3, .string d3, .bool n4, .string s4, .string d4, .bool n5, .string s5, .string d5] 28 28 28 26 28
 rw [← hw]
 clear hw
 go_fit (HC.out _ _ bb kl)
 rintro e w1 ⟨rfl, b1⟩
 replace ka := ka.below b1
 replace kb := kb.below b1
 replace kc := kc.below b1
 replace kr := kr.below b1
 replace bb := Below.after bb b1
 clear b1 kl
 obtain ⟨e0, e1, e2⟩ := xk3 kr
 have f0 := Cel.frozen kr 0
 have f1 := Cel.frozen kr 1
 have f2 := Cel.frozen kr 2
 go_wp2
 exact post_q1 (p := 6) (u := 7) (v := .int .i64 E) (by kernel_rfl) rfl rfl rfl (((kr.set 0 _).set 1 _).set 2 _) ⟨rfl, bset (bset (bset bb (by omega) 0 _) (by omega) 1 _) (by omega) 2 _⟩
theorem cRat_any (n0 n1 n2 n3 n4 n5 : Bool) (s0 d0 s1 d1 s2 d2 s3 d3 s4 d4 s5 d5 : ByteArray) (iN : Bool) (iS iD : ByteArray) (jN : Bool) (jS jD : ByteArray) (hN : Bool) (hS hD : ByteArray) (lN : Bool) (lS lD : ByteArray) (k : Nat) (s t : Bool) (ux uy vx vy : Rat) (V : Value) (w : World) (hT : Tab w) (hk : (k = 0 ∧ s = true) ∨ (k = 1 ∧ s = false ∧ t = true) ∨ (k = 2 ∧ s = false ∧ t = false))
  (HC : Hid (∀ (w1 : World) (B : Nat), Below w.heap.size w w1 → Cel w1 B [.bool n0, .string s0, .string d0, .bool n1, .string s1, .string d1, .bool n2, .string s2, .string d2, .bool n3, .string s3, .string d3, .bool n4, .string s4, .string d4, .bool n5, .string s5, .string d5] 28 → Calls Tryz.prog 45 #[.slice (some ⟨B, 0, none⟩) 3 3] w1 (Re w1 (.int .i64 0))))
  (F1 : Hid (∀ w1, Below w.heap.size w w1 → Calls Tryz.prog 59 #[.agg #[.bool n0, .string s0, .string d0, .bool n1, .string s1, .string d1], .agg #[.bool n2, .string s2, .string d2, .bool n3, .string s3, .string d3]] w1 (Re w1 (.agg #[.bool iN, .string iS, .string iD]))))
  (F2 : Hid (∀ w1, Below w.heap.size w w1 → Calls Tryz.prog 59 #[.agg #[.bool n2, .string s2, .string d2, .bool n3, .string s3, .string d3], .agg #[.bool n4, .string s4, .string d4, .bool n5, .string s5, .string d5]] w1 (Re w1 (.agg #[.bool jN, .string jS, .string jD]))))
  (F3 : Hid (∀ w1, Below w.heap.size w w1 → Calls Tryz.prog 59 #[.agg #[.bool n4, .string s4, .string d4, .bool n5, .string s5, .string d5], .agg #[.bool n0, .string s0, .string d0, .bool n1, .string s1, .string d1]] w1 (Re w1 (.agg #[.bool hN, .string hS, .string hD]))))
  (HM : Hid (∀ (w1 : World) (B : Nat), Below w.heap.size w w1 → Cel w1 B [.bool jN, .string jS, .string jD, .bool hN, .string hS, .string hD] 26 → Calls Tryz.prog 79 #[.agg #[.bool iN, .string iS, .string iD], .slice (some ⟨B, 0, none⟩) 2 2] w1 (Re w1 (.agg #[.bool lN, .string lS, .string lD]))))
  (q1 : ∀ w1, (binOp .eql 26 (.agg #[.bool lN, .string lS, .string lD]) (.agg #[.bool iN, .string iS, .string iD])).run Tryz.prog w1 = .ok (.bool s) w1)
  (q2 : ∀ w1, (binOp .eql 26 (.agg #[.bool lN, .string lS, .string lD]) (.agg #[.bool hN, .string hS, .string hD])).run Tryz.prog w1 = .ok (.bool t) w1)
  (H1 : Hid (∀ w1, Calls Tryz.prog 70 #[.agg #[.bool (t3 k n4 n2 n0), .string (t3 k s4 s2 s0), .string (t3 k d4 d2 d0), .bool (t3 k n5 n3 n1), .string (t3 k s5 s3 s1), .string (t3 k d5 d3 d1)], .agg #[.bool (t3 k n0 n4 n2), .string (t3 k s0 s4 s2), .string (t3 k d0 d4 d2), .bool (t3 k n1 n5 n3), .string (t3 k s1 s5 s3), .string (t3 k d1 d5 d3)]] w1 fun e w' => ∃ m0 a0 l0 c0 m1 a1 l1 c1 a2 l2 c2 X Y U, e = .returned (.agg #[.bool m0, .slice a0 l0 c0, .bool m1, .slice a1 l1 c1, .bool false, .slice a2 l2 c2]) ∧ SpV w' m0 a0 l0 c0 m1 a1 l1 c1 a2 l2 c2 X Y U ux uy ∧ Below w1.heap.size w1 w'))
  (H2 : Hid (∀ w1, Calls Tryz.prog 70 #[.agg #[.bool (t3 k n4 n2 n0), .string (t3 k s4 s2 s0), .string (t3 k d4 d2 d0), .bool (t3 k n5 n3 n1), .string (t3 k s5 s3 s1), .string (t3 k d5 d3 d1)], .agg #[.bool (t3 k n2 n0 n4), .string (t3 k s2 s0 s4), .string (t3 k d2 d0 d4), .bool (t3 k n3 n1 n5), .string (t3 k s3 s1 s5), .string (t3 k d3 d1 d5)]] w1 fun e w' => ∃ m0 a0 l0 c0 m1 a1 l1 c1 a2 l2 c2 X Y U, e = .returned (.agg #[.bool m0, .slice a0 l0 c0, .bool m1, .slice a1 l1 c1, .bool false, .slice a2 l2 c2]) ∧ SpV w' m0 a0 l0 c0 m1 a1 l1 c1 a2 l2 c2 X Y U vx vy ∧ Below w1.heap.size w1 w')) (h0 : ((ux * vy - uy * vx) = 0 ∧ V = .tuple #[.agg #[.bool false, .string { data := #[] }, .string { data := #[] }], .int .i64 6]) ∨ ((ux * vy - uy * vx) ≠ 0 ∧ V = .tuple #[.agg #[.bool (nfZ ((ux * ux + uy * uy) * (vx * vx + vy * vy) / (((ux * vy - uy * vx) + (ux * vy - uy * vx)) * ((ux * vy - uy * vx) + (ux * vy - uy * vx)))).num), .string (sfZ ((ux * ux + uy * uy) * (vx * vx + vy * vy) / (((ux * vy - uy * vx) + (ux * vy - uy * vx)) * ((ux * vy - uy * vx) + (ux * vy - uy * vx)))).num), .string (strOf ((ux * ux + uy * uy) * (vx * vx + vy * vy) / (((ux * vy - uy * vx) + (ux * vy - uy * vx)) * ((ux * vy - uy * vx) + (ux * vy - uy * vx)))).den)], .int .i64 0])) :
  Calls Tryz.prog 30 #[.agg #[.bool n0, .string s0, .string d0, .bool n1, .string s1, .string d1], .agg #[.bool n2, .string s2, .string d2, .bool n3, .string s3, .string d3], .agg #[.bool n4, .string s4, .string d4, .bool n5, .string s5, .string d5]] w (Re w (V)) := by
 go_enter Tryz.func30, Tryz.ntmps30
 go_wp2_with fail
 obtain ⟨w0, hw, ka, kb, kc, kr, kl, bb⟩ := mk5 w [.bool n0, .string s0, .string d0, .bool n1, .string s1, .string d1] [.bool n2, .string s2, .string d2, .bool n3, .string s3, .string d3] [.bool n4, .string s4, .string d4, .bool n5, .string s5, .string d5] [.bool false, .string { data := #[] }, .string { data := #[] }] [.bool n0, .string s0, .string d0, .bool n1, .string s1, .string d1, .bool n2, .string s2, .string d2, .bool n3, .string s3, .string d3, .bool n4, .string s4, .string d4, .bool n5, .string s5, .string d5] 28 28 28 26 28
 rw [← hw]
 clear hw
 go_fit (HC.out _ _ bb kl)
 rintro e w1 ⟨rfl, b1⟩
 replace ka := ka.below b1
 replace kb := kb.below b1
 replace kc := kc.below b1
 replace kr := kr.below b1
 replace bb := Below.after bb b1
 clear b1 kl
 have tr := kr.lt
 clear HC
 replace hk := shut hk
 go_wp2_with fail
 have mk : Hid (∀ w', SB w1 w' → xc6 w' w.heap.size (.bool n0) (.string s0) (.string d0) (.bool n1) (.string s1) (.string d1) ∧ xc6 w' (w.heap.size + 1) (.bool n2) (.string s2) (.string d2) (.bool n3) (.string s3) (.string d3) ∧ xc6 w' (w.heap.size + 1 + 1) (.bool n4) (.string s4) (.string d4) (.bool n5) (.string s5) (.string d5)) := fun w' h => ⟨xk6 (ka.below h), xk6 (kb.below h), xk6 (kc.below h)⟩
 go_cut [9, 10, 11] from 25 to 33 (fun v u z wx => ∃ gc gd ge, v = .pointer (some ⟨gc, 0, none⟩) ∧ u = .pointer (some ⟨gd, 0, none⟩) ∧ z = .pointer (some ⟨ge, 0, none⟩) ∧ w1.heap.size ≤ gc ∧ w1.heap.size ≤ gd ∧ w1.heap.size ≤ ge ∧ Cel wx gc [.bool iN, .string iS, .string iD] 26 ∧ Cel wx gd [.bool jN, .string jS, .string jD] 26 ∧ Cel wx ge [.bool hN, .string hS, .string hD] 26 ∧ Below w1.heap.size w1 wx)
 case first =>
  clear HM q1 q2 H1 H2 hk h0
  refine wp_region_held_drew (S := SB w1) (by kernel_rfl) (bdrew _) (fun bc => ?_)
  refine WA.start (n := 15) (by kernel_rfl) ?_
  refine WA.tl 0 rfl ?_
  refine WA.tl 1 rfl ?_
  refine WA.tl 3 rfl ?_
  refine WA.tl 4 rfl ?_
  refine WA.tl 6 rfl ?_
  refine WA.tl 7 rfl ?_
  refine WA.gen3 (i := 9) (s := 9) (i' := 10) (s' := 10) (j := 11) (r := 11) undef undef undef (W := w1) [.bool false, .string { data := #[] }, .string { data := #[] }] 26 (fun b b' d x x' y hz => ?_)
  simp only [Act.put, List.setIfInBounds_toArray, List.set_cons_zero, List.set_cons_succ]
  revert b b' d x x' y
  refine WA.three 15 219 2 9 10 11 rfl rfl rfl rfl bc ?_
  clear bc
  intro b b' d x x' y w' hz bx bc K hK
  clear bx
  simp only [List.getElem_toArray, List.getElem_cons_succ, List.getElem_cons_zero]
  go_simp
  go_fit (F1.out _ ?_)
  ·exact Below.after bb bc
  rintro e wn ⟨rfl, bn⟩
  replace bc := Below.after bc bn
  try go_wp2_with fail
  refine hK.out _ _ bc (fun _ => ?_)
  replace hz := hz.below bn
  clear hK K bn
  revert b b' d x x' y
  refine WA.three 15 223 5 9 10 11 rfl rfl rfl rfl bc ?_
  clear bc
  intro b b' d x x' y w' hz bx bc K hK
  clear bx
  simp only [List.getElem_toArray, List.getElem_cons_succ, List.getElem_cons_zero]
  go_simp
  go_fit (F2.out _ ?_)
  ·exact Below.after bb bc
  rintro e wn ⟨rfl, bn⟩
  replace bc := Below.after bc bn
  try go_wp2_with fail
  refine hK.out _ _ bc (fun _ => ?_)
  replace hz := hz.below bn
  clear hK K bn
  revert b b' d x x' y
  refine WA.three 15 255 8 9 10 11 rfl rfl rfl rfl bc ?_
  clear bc
  intro b b' d x x' y w' hz bx bc K hK
  clear bx
  simp only [List.getElem_toArray, List.getElem_cons_succ, List.getElem_cons_zero]
  go_simp
  go_fit (F3.out _ ?_)
  ·exact Below.after bb bc
  rintro e wn ⟨rfl, bn⟩
  replace bc := Below.after bc bn
  try go_wp2_with fail
  refine hK.out _ _ bc (fun _ => ?_)
  replace hz := hz.below bn
  clear hK K bn
  revert b b' d x x' y
  refine WA.fin3 15 511 9 10 11 rfl rfl rfl bc ?_
  clear bc
  intro x x' y w' hz bx bc
  obtain ⟨g0, rfl, h0, k0⟩ := hz.p rfl
  obtain ⟨g1, rfl, h1, k1⟩ := hz.p' rfl
  obtain ⟨g2, rfl, h2, k2⟩ := hz.q rfl
  have n01 : ¬ g0 = g1 := fun e => hz.ne rfl rfl (by rw [e])
  have n02 : ¬ g0 = g2 := fun e => hz.nq rfl rfl (by rw [e])
  have n12 : ¬ g1 = g2 := fun e => hz.nq' rfl rfl (by rw [e])
  clear bx hz
  obtain ⟨e0, e1, e2⟩ := xk3 k0
  have f0 := Cel.frozen k0 0
  have f1 := Cel.frozen k0 1
  have f2 := Cel.frozen k0 2
  refine WA.call 12 rfl (fun K hK => ?_)
  simp only [List.getElem_toArray, List.getElem_cons_succ, List.getElem_cons_zero]
  go_simp
  try go_wp2_with fail
  clear e0 f0 e1 f1 e2 f2
  replace bc := (bset (bset (bset bc h0 0 (.bool iN)) h0 1 (.string iS)) h0 2 (.string iD))
  refine hK.out _ _ bc (fun _ => ?_)
  clear hK K
  replace k0 := (Cel.set (Cel.set (Cel.set k0 0 (.bool iN)) 1 (.string iS)) 2 (.string iD))
  replace k1 := (Cel.other (Cel.other (Cel.other k1 (fun e => n01 e.symm) 0 (.bool iN)) (fun e => n01 e.symm) 1 (.string iS)) (fun e => n01 e.symm) 2 (.string iD))
  replace k2 := (Cel.other (Cel.other (Cel.other k2 (fun e => n02 e.symm) 0 (.bool iN)) (fun e => n02 e.symm) 1 (.string iS)) (fun e => n02 e.symm) 2 (.string iD))
  obtain ⟨e0, e1, e2⟩ := xk3 k1
  have f0 := Cel.frozen k1 0
  have f1 := Cel.frozen k1 1
  have f2 := Cel.frozen k1 2
  refine WA.call 13 rfl (fun K hK => ?_)
  simp only [List.getElem_toArray, List.getElem_cons_succ, List.getElem_cons_zero]
  go_simp
  try go_wp2_with fail
  clear e0 f0 e1 f1 e2 f2
  replace bc := (bset (bset (bset bc h1 0 (.bool jN)) h1 1 (.string jS)) h1 2 (.string jD))
  refine hK.out _ _ bc (fun _ => ?_)
  clear hK K
  replace k0 := (Cel.other (Cel.other (Cel.other k0 n01 0 (.bool jN)) n01 1 (.string jS)) n01 2 (.string jD))
  replace k1 := (Cel.set (Cel.set (Cel.set k1 0 (.bool jN)) 1 (.string jS)) 2 (.string jD))
  replace k2 := (Cel.other (Cel.other (Cel.other k2 (fun e => n12 e.symm) 0 (.bool jN)) (fun e => n12 e.symm) 1 (.string jS)) (fun e => n12 e.symm) 2 (.string jD))
  obtain ⟨e0, e1, e2⟩ := xk3 k2
  have f0 := Cel.frozen k2 0
  have f1 := Cel.frozen k2 1
  have f2 := Cel.frozen k2 2
  refine WA.call 14 rfl (fun K hK => ?_)
  simp only [List.getElem_toArray, List.getElem_cons_succ, List.getElem_cons_zero]
  go_simp
  try go_wp2_with fail
  clear e0 f0 e1 f1 e2 f2
  replace bc := (bset (bset (bset bc h2 0 (.bool hN)) h2 1 (.string hS)) h2 2 (.string hD))
  refine hK.out _ _ bc (fun _ => ?_)
  clear hK K
  replace k0 := (Cel.other (Cel.other (Cel.other k0 n02 0 (.bool hN)) n02 1 (.string hS)) n02 2 (.string hD))
  replace k1 := (Cel.other (Cel.other (Cel.other k1 n12 0 (.bool hN)) n12 1 (.string hS)) n12 2 (.string hD))
  replace k2 := (Cel.set (Cel.set (Cel.set k2 0 (.bool hN)) 1 (.string hS)) 2 (.string hD))
  refine WA.done (by kernel_rfl) ?_
  go_wp2_with fail
  go_meet
  exact ⟨_, _, _, rfl, rfl, rfl, h0, h1, h2, k0, k1, k2, bc⟩
 case rest =>
 obtain ⟨gx, gy, gz, rfl, rfl, rfl, lx, ly, lz, kx, ky, kz, b1⟩ := hcut
 clear mk; have sz := b1.size
 replace ka := ka.below b1
 replace kb := kb.below b1
 replace kc := kc.below b1
 replace kr := kr.below b1
 replace bb := Below.after bb b1
 clear b1
 have tx := kx.lt
 have ty := ky.lt
 have tz := kz.lt
 clear F1 F2 F3
 obtain ⟨x0, x1, x2⟩ := xk3 kx
 obtain ⟨y0, y1, y2⟩ := xk3 ky
 obtain ⟨z0, z1, z2⟩ := xk3 kz
 go_wp2_with fail
 clear x0 x1 x2 y0 y1 y2 z0 z1 z2
 obtain ⟨w2, hw, kB, b1⟩ := mk1 wc [.bool jN, .string jS, .string jD, .bool hN, .string hS, .string hD] 26
 rw [← hw]
 clear hw
 have sz := b1.size
 replace ka := ka.below b1
 replace kb := kb.below b1
 replace kc := kc.below b1
 replace kr := kr.below b1
 replace kx := kx.below b1
 replace ky := ky.below b1
 replace kz := kz.below b1
 replace bb := Below.after bb b1
 clear b1
 go_fit (HM.out _ _ bb kB)
 rintro e w3 ⟨rfl, b1⟩
 have sz := b1.size
 replace ka := ka.below b1
 replace kb := kb.below b1
 replace kc := kc.below b1
 replace kr := kr.below b1
 replace kx := kx.below b1
 replace ky := ky.below b1
 replace kz := kz.below b1
 replace bb := Below.after bb b1
 clear b1 kB HM
 obtain ⟨x0, x1, x2⟩ := xk3 kx
 obtain ⟨y0, y1, y2⟩ := xk3 ky
 obtain ⟨z0, z1, z2⟩ := xk3 kz
 go_upto_block 0 with fail
 go_cut [] from 39 to 50 (fun wx => Cel wx w.heap.size [.bool (t3 k n4 n2 n0), .string (t3 k s4 s2 s0), .string (t3 k d4 d2 d0), .bool (t3 k n5 n3 n1), .string (t3 k s5 s3 s1), .string (t3 k d5 d3 d1)] 28 ∧ Cel wx (w.heap.size + 1) [.bool (t3 k n0 n4 n2), .string (t3 k s0 s4 s2), .string (t3 k d0 d4 d2), .bool (t3 k n1 n5 n3), .string (t3 k s1 s5 s3), .string (t3 k d1 d5 d3)] 28 ∧ Cel wx (w.heap.size + 1 + 1) [.bool (t3 k n2 n0 n4), .string (t3 k s2 s0 s4), .string (t3 k d2 d0 d4), .bool (t3 k n3 n1 n5), .string (t3 k s3 s1 s5), .string (t3 k d3 d1 d5)] 28 ∧ Cel wx (w.heap.size + 1 + 1 + 1) [.bool false, .string { data := #[] }, .string { data := #[] }] 26 ∧ Below w.heap.size w wx)
 case first =>
  clear H1 H2 h0
  obtain ⟨aa0, aa1, aa2, aa3, aa4, aa5⟩ := xk6 ka
  obtain ⟨ba0, ba1, ba2, ba3, ba4, ba5⟩ := xk6 kb
  obtain ⟨ca0, ca1, ca2, ca3, ca4, ca5⟩ := xk6 kc
  have fa0 := Cel.frozen ka 0
  have fa1 := Cel.frozen ka 1
  have fa2 := Cel.frozen ka 2
  have fa3 := Cel.frozen ka 3
  have fa4 := Cel.frozen ka 4
  have fa5 := Cel.frozen ka 5
  have fb0 := Cel.frozen kb 0
  have fb1 := Cel.frozen kb 1
  have fb2 := Cel.frozen kb 2
  have fb3 := Cel.frozen kb 3
  have fb4 := Cel.frozen kb 4
  have fb5 := Cel.frozen kb 5
  have fc0 := Cel.frozen kc 0
  have fc1 := Cel.frozen kc 1
  have fc2 := Cel.frozen kc 2
  have fc3 := Cel.frozen kc 3
  have fc4 := Cel.frozen kc 4
  have fc5 := Cel.frozen kc 5
  have nab : w.heap.size ≠ w.heap.size + 1 := by omega
  have nac : w.heap.size ≠ w.heap.size + 1 + 1 := by omega
  have nbc : w.heap.size + 1 ≠ w.heap.size + 1 + 1 := by omega
  rcases hk.out with ⟨rfl, rfl⟩ | ⟨rfl, rfl, rfl⟩ | ⟨rfl, rfl, rfl⟩
  ·go_wp2_with fail
   go_meet
   exact ⟨((Cel.set6 ka _ _ _ _ _ _).oth6 nab _ _ _ _ _ _).oth6 nac _ _ _ _ _ _, ((Cel.oth6 kb nab.symm _ _ _ _ _ _).set6 _ _ _ _ _ _).oth6 nbc _ _ _ _ _ _, ((Cel.oth6 kc nac.symm _ _ _ _ _ _).oth6 nbc.symm _ _ _ _ _ _).set6 _ _ _ _ _ _, ((Cel.oth6 kr (by omega) _ _ _ _ _ _).oth6 (by omega) _ _ _ _ _ _).oth6 (by omega) _ _ _ _ _ _, bset6 (bset6 (bset6 bb (by omega) _ _ _ _ _ _) (by omega) _ _ _ _ _ _) (by omega) _ _ _ _ _ _⟩
  ·go_wp2_with fail
   clear aa0 aa1 aa2 aa3 aa4 aa5 ba0 ba1 ba2 ba3 ba4 ba5 ca0 ca1 ca2 ca3 ca4 ca5 fa0 fa1 fa2 fa3 fa4 fa5 fb0 fb1 fb2 fb3 fb4 fb5 fc0 fc1 fc2 fc3 fc4 fc5
   replace ka := Cel.drew ka
   replace kb := Cel.drew kb
   replace kc := Cel.drew kc
   replace kr := Cel.drew kr
   replace bb := bb.drew
   refine wp_region_held_drew (S := fun _ => True) (by kernel_rfl) trivial (fun _ => ?_)
   generalize w3.drew = wd at *
   obtain ⟨wS, hsW⟩ : ∃ x, x = ((((((wd.setCell ⟨w.heap.size, 0, none⟩ (.bool n2)).setCell ⟨w.heap.size, 1, none⟩ (.string s2)).setCell ⟨w.heap.size, 2, none⟩ (.string d2)).setCell ⟨w.heap.size, 3, none⟩ (.bool n3)).setCell ⟨w.heap.size, 4, none⟩ (.string s3)).setCell ⟨w.heap.size, 5, none⟩ (.string d3)) := ⟨_, rfl⟩
   have kaS := Cel.set6 ka (.bool n2) (.string s2) (.string d2) (.bool n3) (.string s3) (.string d3)
   rw [← hsW] at kaS
   have kbS := Cel.oth6 kb nab.symm (.bool n2) (.string s2) (.string d2) (.bool n3) (.string s3) (.string d3)
   rw [← hsW] at kbS
   have kcS := Cel.oth6 kc nac.symm (.bool n2) (.string s2) (.string d2) (.bool n3) (.string s3) (.string d3)
   rw [← hsW] at kcS
   have krS := Cel.oth6 kr (by omega : w.heap.size + 1 + 1 + 1 ≠ w.heap.size) (.bool n2) (.string s2) (.string d2) (.bool n3) (.string s3) (.string d3)
   rw [← hsW] at krS
   have bbS := bset6 bb (Nat.le_refl w.heap.size) (.bool n2) (.string s2) (.string d2) (.bool n3) (.string s3) (.string d3)
   rw [← hsW] at bbS
   replace hsW := shut hsW
   refine WA.start (n := 6) (by kernel_rfl) ?_
   refine WA.swap3 6 0 8 0 1 2 3 48 49 50 undef undef undef (.agg #[.bool n2, .string s2, .string d2, .bool n3, .string s3, .string d3]) (.agg #[.bool n4, .string s4, .string d4, .bool n5, .string s5, .string d5]) (.agg #[.bool n0, .string s0, .string d0, .bool n1, .string s1, .string d1]) rfl rfl rfl rfl trivial trivial (fun _ _ _ => by have hm := xk6 kb; simp only [pu3, Act.put, List.setIfInBounds_toArray, List.set_cons_zero, List.set_cons_succ]; go_simp; try with_reducible rfl) (fun _ _ _ => by have hm := xk6 kc; simp only [pu3, Act.put, List.setIfInBounds_toArray, List.set_cons_zero, List.set_cons_succ]; go_simp; try with_reducible rfl) (fun _ _ _ => by have hm := xk6 kcS; simp only [pu3, Act.put, List.setIfInBounds_toArray, List.set_cons_zero, List.set_cons_succ]; go_simp; try with_reducible rfl) (fun _ _ _ => by have hm := xk6 ka; simp only [pu3, Act.put, List.setIfInBounds_toArray, List.set_cons_zero, List.set_cons_succ]; go_simp; try with_reducible rfl) (fun x' K hK => ?_) ?_ (wS := wS)
   ·obtain ⟨e0, e1, e2, e3, e4, e5⟩ := xk6 ka
    have f0 := Cel.frozen ka 0
    have f1 := Cel.frozen ka 1
    have f2 := Cel.frozen ka 2
    have f3 := Cel.frozen ka 3
    have f4 := Cel.frozen ka 4
    have f5 := Cel.frozen ka 5
    revert hK
    simp only [pu3, Act.put, List.setIfInBounds_toArray, List.set_cons_zero, List.set_cons_succ]
    intro hK
    simp only [List.getElem_toArray, List.getElem_cons_succ, List.getElem_cons_zero]
    go_simp
    try go_wp2_with fail
    rw [← hsW.out]
    exact hK
   clear ka kb kc kr bb hsW
   simp only [pu3, Act.put, List.setIfInBounds_toArray, List.set_cons_zero, List.set_cons_succ]
   obtain ⟨e0, e1, e2, e3, e4, e5⟩ := xk6 kbS
   have f0 := Cel.frozen kbS 0
   have f1 := Cel.frozen kbS 1
   have f2 := Cel.frozen kbS 2
   have f3 := Cel.frozen kbS 3
   have f4 := Cel.frozen kbS 4
   have f5 := Cel.frozen kbS 5
   refine WA.cal 4 rfl (fun K hK => ?_)
   simp only [List.getElem_toArray, List.getElem_cons_succ, List.getElem_cons_zero]
   go_simp
   try go_wp2_with fail
   clear e0 e1 e2 e3 e4 e5 f0 f1 f2 f3 f4 f5
   refine hK.out _ _ trivial (fun _ => ?_)
   clear hK K
   replace kaS := Cel.oth6 (g' := w.heap.size + 1) kaS nab (.bool n4) (.string s4) (.string d4) (.bool n5) (.string s5) (.string d5)
   replace kbS := Cel.set6 kbS (.bool n4) (.string s4) (.string d4) (.bool n5) (.string s5) (.string d5)
   replace kcS := Cel.oth6 (g' := w.heap.size + 1) kcS nbc.symm (.bool n4) (.string s4) (.string d4) (.bool n5) (.string s5) (.string d5)
   replace krS := Cel.oth6 (g' := w.heap.size + 1) krS (by omega) (.bool n4) (.string s4) (.string d4) (.bool n5) (.string s5) (.string d5)
   replace bbS := bset6 (g := w.heap.size + 1) bbS (by omega) (.bool n4) (.string s4) (.string d4) (.bool n5) (.string s5) (.string d5)
   obtain ⟨e0, e1, e2, e3, e4, e5⟩ := xk6 kcS
   have f0 := Cel.frozen kcS 0
   have f1 := Cel.frozen kcS 1
   have f2 := Cel.frozen kcS 2
   have f3 := Cel.frozen kcS 3
   have f4 := Cel.frozen kcS 4
   have f5 := Cel.frozen kcS 5
   refine WA.cal 5 rfl (fun K hK => ?_)
   simp only [List.getElem_toArray, List.getElem_cons_succ, List.getElem_cons_zero]
   go_simp
   try go_wp2_with fail
   clear e0 e1 e2 e3 e4 e5 f0 f1 f2 f3 f4 f5
   refine hK.out _ _ trivial (fun _ => ?_)
   clear hK K
   replace kaS := Cel.oth6 (g' := w.heap.size + 1 + 1) kaS nac (.bool n0) (.string s0) (.string d0) (.bool n1) (.string s1) (.string d1)
   replace kbS := Cel.oth6 (g' := w.heap.size + 1 + 1) kbS nbc (.bool n0) (.string s0) (.string d0) (.bool n1) (.string s1) (.string d1)
   replace kcS := Cel.set6 kcS (.bool n0) (.string s0) (.string d0) (.bool n1) (.string s1) (.string d1)
   replace krS := Cel.oth6 (g' := w.heap.size + 1 + 1) krS (by omega) (.bool n0) (.string s0) (.string d0) (.bool n1) (.string s1) (.string d1)
   replace bbS := bset6 (g := w.heap.size + 1 + 1) bbS (by omega) (.bool n0) (.string s0) (.string d0) (.bool n1) (.string s1) (.string d1)
   refine WA.done (by kernel_rfl) ?_
   go_wp2_with fail
   go_meet
   exact ⟨kaS, kbS, kcS, krS, bbS⟩
  ·go_wp2_with fail
   go_meet
   exact ⟨ka, kb, kc, kr, bb⟩
 case rest =>
 clear x0 x1 x2 y0 y1 y2 z0 z1 z2 ka kb kc kr bb kx ky kz
 obtain ⟨ka, kb, kc, kr, bb⟩ := hcut
 have tr := kr.lt
 clear q1 q2 hk
 replace h0 := shut h0
 go_wp2_with fail
 have mk : Hid (∀ w', SB wc w' → xc6 w' w.heap.size (.bool (t3 k n4 n2 n0)) (.string (t3 k s4 s2 s0)) (.string (t3 k d4 d2 d0)) (.bool (t3 k n5 n3 n1)) (.string (t3 k s5 s3 s1)) (.string (t3 k d5 d3 d1)) ∧ xc6 w' (w.heap.size + 1) (.bool (t3 k n0 n4 n2)) (.string (t3 k s0 s4 s2)) (.string (t3 k d0 d4 d2)) (.bool (t3 k n1 n5 n3)) (.string (t3 k s1 s5 s3)) (.string (t3 k d1 d5 d3)) ∧ xc6 w' (w.heap.size + 1 + 1) (.bool (t3 k n2 n0 n4)) (.string (t3 k s2 s0 s4)) (.string (t3 k d2 d0 d4)) (.bool (t3 k n3 n1 n5)) (.string (t3 k s3 s1 s5)) (.string (t3 k d3 d1 d5))) := fun w' h => ⟨xk6 (ka.below h), xk6 (kb.below h), xk6 (kc.below h)⟩
 go_cut [12, 13] from 51 to 56 (fun v u wx => ∃ gc gd m1 a1 l1 c1 m2 a2 l2 c2 a3 l3 c3 X1 Y1 U1 m4 a4 l4 c4 m5 a5 l5 c5 a6 l6 c6 X4 Y4 U4, v = .pointer (some ⟨gc, 0, none⟩) ∧ u = .pointer (some ⟨gd, 0, none⟩) ∧ wc.heap.size ≤ gc ∧ wc.heap.size ≤ gd ∧ Cel wx gc [.bool m1, .slice a1 l1 c1, .bool m2, .slice a2 l2 c2, .bool false, .slice a3 l3 c3] 74 ∧ Cel wx gd [.bool m4, .slice a4 l4 c4, .bool m5, .slice a5 l5 c5, .bool false, .slice a6 l6 c6] 74 ∧ SpV wx m1 a1 l1 c1 m2 a2 l2 c2 a3 l3 c3 X1 Y1 U1 ux uy ∧ SpV wx m4 a4 l4 c4 m5 a5 l5 c5 a6 l6 c6 X4 Y4 U4 vx vy ∧ Below wc.heap.size wc wx)
 case first =>
  clear h0
  refine wp_region_held_drew (S := SB wc) (by kernel_rfl) (bdrew _) (fun bc => ?_)
  refine WA.start (n := 10) (by kernel_rfl) ?_
  refine WA.tl 0 rfl ?_
  refine WA.tl 1 rfl ?_
  refine WA.tl 3 rfl ?_
  refine WA.tl 4 rfl ?_
  refine WA.gen2 (i := 6) (s := 12) (i' := 7) (s' := 13) undef undef (Pt wc [.bool false, .slice none 0 0, .bool false, .slice none 0 0, .bool false, .slice none 0 0] 74) (Pt wc [.bool false, .slice none 0 0, .bool false, .slice none 0 0, .bool false, .slice none 0 0] 74) (fun b b' x x' hz hy hn => ?_)
  simp only [Act.put, List.setIfInBounds_toArray, List.set_cons_zero, List.set_cons_succ]
  replace hz := P2.mk hz hy hn
  clear hy hn
  revert b b' x x'
  refine WA.two 10 27 2 6 7 rfl rfl rfl bc ?_
  clear bc
  intro b b' x x' w' hz bx bc K hK
  clear bx
  simp only [List.getElem_toArray, List.getElem_cons_succ, List.getElem_cons_zero]
  go_simp
  go_fit (H1.out _)
  rintro e wn ⟨m1, a1, l1, c1, m2, a2, l2, c2, a3, l3, c3, X1, Y1, U1, rfl, sv1, bn⟩
  replace bc := Below.after bc bn
  try go_wp2_with fail
  refine hK.out _ _ bc (fun _ => ?_)
  replace hz := hz.below bn
  clear hK K bn
  revert b b' x x'
  refine WA.two 10 31 5 6 7 rfl rfl rfl bc ?_
  clear bc
  intro b b' x x' w' hz bx bc K hK
  replace sv1 := sv1.below bx
  clear bx
  simp only [List.getElem_toArray, List.getElem_cons_succ, List.getElem_cons_zero]
  go_simp
  go_fit (H2.out _)
  rintro e wn ⟨m4, a4, l4, c4, m5, a5, l5, c5, a6, l6, c6, X4, Y4, U4, rfl, sv4, bn⟩
  replace bc := Below.after bc bn
  try go_wp2_with fail
  refine hK.out _ _ bc (fun _ => ?_)
  replace hz := hz.below bn
  replace sv1 := sv1.below bn
  clear hK K bn
  revert b b' x x'
  refine WA.fin2 6 7 rfl rfl bc ?_
  clear bc
  intro x x' w' hz bx bc
  replace sv1 := sv1.below bx
  replace sv4 := sv4.below bx
  obtain ⟨g0, rfl, h0, k0⟩ := hz.p rfl
  obtain ⟨g1, rfl, h1, k1⟩ := hz.p' rfl
  have n01 : ¬ g0 = g1 := fun e => hz.ne rfl rfl (by rw [e])
  clear bx hz
  obtain ⟨e0, e1, e2, e3, e4, e5⟩ := xk6 k0
  have f0 := Cel.frozen k0 0
  have f1 := Cel.frozen k0 1
  have f2 := Cel.frozen k0 2
  have f3 := Cel.frozen k0 3
  have f4 := Cel.frozen k0 4
  have f5 := Cel.frozen k0 5
  refine WA.call 8 rfl (fun K hK => ?_)
  simp only [List.getElem_toArray, List.getElem_cons_succ, List.getElem_cons_zero]
  go_simp
  try go_wp2_with fail
  clear e0 f0 e1 f1 e2 f2 e3 f3 e4 f4 e5 f5
  replace bc := (bset (bset (bset (bset (bset (bset bc h0 0 (.bool m1)) h0 1 (.slice a1 l1 c1)) h0 2 (.bool m2)) h0 3 (.slice a2 l2 c2)) h0 4 (.bool false)) h0 5 (.slice a3 l3 c3))
  refine hK.out _ _ bc (fun _ => ?_)
  clear hK K
  replace sv1 := sv1.set6 k0 (.bool m1) (.slice a1 l1 c1) (.bool m2) (.slice a2 l2 c2) (.bool false) (.slice a3 l3 c3)
  replace sv4 := sv4.set6 k0 (.bool m1) (.slice a1 l1 c1) (.bool m2) (.slice a2 l2 c2) (.bool false) (.slice a3 l3 c3)
  replace k0 := (Cel.set (Cel.set (Cel.set (Cel.set (Cel.set (Cel.set k0 0 (.bool m1)) 1 (.slice a1 l1 c1)) 2 (.bool m2)) 3 (.slice a2 l2 c2)) 4 (.bool false)) 5 (.slice a3 l3 c3))
  replace k1 := (Cel.other (Cel.other (Cel.other (Cel.other (Cel.other (Cel.other k1 (fun e => n01 e.symm) 0 (.bool m1)) (fun e => n01 e.symm) 1 (.slice a1 l1 c1)) (fun e => n01 e.symm) 2 (.bool m2)) (fun e => n01 e.symm) 3 (.slice a2 l2 c2)) (fun e => n01 e.symm) 4 (.bool false)) (fun e => n01 e.symm) 5 (.slice a3 l3 c3))
  obtain ⟨e0, e1, e2, e3, e4, e5⟩ := xk6 k1
  have f0 := Cel.frozen k1 0
  have f1 := Cel.frozen k1 1
  have f2 := Cel.frozen k1 2
  have f3 := Cel.frozen k1 3
  have f4 := Cel.frozen k1 4
  have f5 := Cel.frozen k1 5
  refine WA.call 9 rfl (fun K hK => ?_)
  simp only [List.getElem_toArray, List.getElem_cons_succ, List.getElem_cons_zero]
  go_simp
  try go_wp2_with fail
  clear e0 f0 e1 f1 e2 f2 e3 f3 e4 f4 e5 f5
  replace bc := (bset (bset (bset (bset (bset (bset bc h1 0 (.bool m4)) h1 1 (.slice a4 l4 c4)) h1 2 (.bool m5)) h1 3 (.slice a5 l5 c5)) h1 4 (.bool false)) h1 5 (.slice a6 l6 c6))
  refine hK.out _ _ bc (fun _ => ?_)
  clear hK K
  replace sv1 := sv1.set6 k1 (.bool m4) (.slice a4 l4 c4) (.bool m5) (.slice a5 l5 c5) (.bool false) (.slice a6 l6 c6)
  replace sv4 := sv4.set6 k1 (.bool m4) (.slice a4 l4 c4) (.bool m5) (.slice a5 l5 c5) (.bool false) (.slice a6 l6 c6)
  replace k0 := (Cel.other (Cel.other (Cel.other (Cel.other (Cel.other (Cel.other k0 n01 0 (.bool m4)) n01 1 (.slice a4 l4 c4)) n01 2 (.bool m5)) n01 3 (.slice a5 l5 c5)) n01 4 (.bool false)) n01 5 (.slice a6 l6 c6))
  replace k1 := (Cel.set (Cel.set (Cel.set (Cel.set (Cel.set (Cel.set k1 0 (.bool m4)) 1 (.slice a4 l4 c4)) 2 (.bool m5)) 3 (.slice a5 l5 c5)) 4 (.bool false)) 5 (.slice a6 l6 c6))
  refine WA.done (by kernel_rfl) ?_
  go_wp2_with fail
  go_meet
  exact ⟨_, _, m1, a1, l1, c1, m2, a2, l2, c2, a3, l3, c3, X1, Y1, U1, m4, a4, l4, c4, m5, a5, l5, c5, a6, l6, c6, X4, Y4, U4, rfl, rfl, h0, h1, k0, k1, sv1, sv4, bc⟩
 case rest =>
 obtain ⟨gu, gv, m1, a1, l1, c1, m2, a2, l2, c2, a3, l3, c3, X1, Y1, U1, m4, a4, l4, c4, m5, a5, l5, c5, a6, l6, c6, X4, Y4, U4, rfl, rfl, lu, lv, ku, kv, sv1, sv4, b1⟩ := hcut
 clear mk; have sz := b1.size
 replace ka := ka.below b1
 replace kb := kb.below b1
 replace kc := kc.below b1
 replace kr := kr.below b1
 replace bb := Below.after bb b1
 clear b1
 have tu := ku.lt
 have tv := kv.lt
 clear H1 H2
 obtain ⟨cu_0, cu_1, cu_2, cu_3, cu_4, cu_5⟩ := xk6 ku
 obtain ⟨cv_6, cv_7, cv_8, cv_9, cv_10, cv_11⟩ := xk6 kv
 go_wp2_with fail
 clear cu_0 cu_1 cu_2 cu_3 cu_4 cu_5 cv_6 cv_7 cv_8 cv_9 cv_10 cv_11
 go_fit (scross_any _ _ _ _ _ _ _ _ _ _ _ _ _ _ _ _ _ _ _ _ _ _ _ _ X1 Y1 X4 Y4 53 _ (by omega) sv1.1 sv1.2.1 sv4.1 sv4.2.1)
 rintro e w5 ⟨m7, v7, rfl, nv7, b1⟩
 obtain ⟨a7, l7, c7, rfl⟩ := nv7.slice
 replace ka := ka.below b1
 replace kb := kb.below b1
 replace kc := kc.below b1
 replace kr := kr.below b1
 replace ku := ku.below b1
 replace kv := kv.below b1
 replace sv1 := sv1.below b1
 replace sv4 := sv4.below b1
 replace bb := Below.after bb b1
 clear b1
 go_wp2_with fail
 go_fit (nsign_any _ _ (X1 * Y4 - Y1 * X4) (53 + 53 + 1) _ (nv7.below (bel_al _ _)))
 rintro e w6 ⟨rfl, b1⟩
 obtain ⟨kt, b1⟩ := al1 b1
 replace ka := ka.below b1
 replace kb := kb.below b1
 replace kc := kc.below b1
 replace kr := kr.below b1
 replace ku := ku.below b1
 replace kv := kv.below b1
 replace sv1 := sv1.below b1
 replace sv4 := sv4.below b1
 replace nv7 := nv7.below b1
 replace bb := Below.after bb b1
 clear b1
 rw [Gm.cross_sign sv1.2.2.2 sv4.2.2.2]
 rcases h0.out with ⟨hz, rfl⟩ | ⟨hz, rfl⟩
 ·have hg : Gm.sg (ux * vy - uy * vx) = 0 := by rw [hz]; rfl
  rw [hg]
  obtain ⟨e0, e1, e2⟩ := xk3 kr
  have f0 := Cel.frozen kr 0
  have f1 := Cel.frozen kr 1
  have f2 := Cel.frozen kr 2
  go_wp2
  exact post_q1 (p := 6) (u := 7) (v := .int .i64 6) (by kernel_rfl) rfl rfl rfl (((kr.set 0 _).set 1 _).set 2 _) ⟨rfl, bset (bset (bset bb (by omega) 0 _) (by omega) 1 _) (by omega) 2 _⟩
 have hg : (Gm.sg (ux * vy - uy * vx) == 0) = false := beq_eq_false_iff_ne.2 (fun e => hz (Gm.sg_eq_zero.1 e))
 replace hz := shut hz
 clear h0
 obtain ⟨ct_0, ct_1⟩ := xk2 kt
 go_wp2_with fail
 clear ct_0 ct_1
 go_fit (nplus_any _ _ _ _ (X1 * Y4 - Y1 * X4) (X1 * Y4 - Y1 * X4) (53 + 53 + 1) _ (by omega) nv7 nv7)
 rintro e w7 ⟨m8, v8, rfl, nv8, b1⟩
 obtain ⟨a8, l8, c8, rfl⟩ := nv8.slice
 replace ka := ka.below b1
 replace kb := kb.below b1
 replace kc := kc.below b1
 replace kr := kr.below b1
 replace ku := ku.below b1
 replace kv := kv.below b1
 replace kt := kt.below b1
 replace sv1 := sv1.below b1
 replace sv4 := sv4.below b1
 replace bb := Below.after bb b1
 clear b1
 go_wp2_with fail
 obtain ⟨w8, hw, kd, b1⟩ := mk1 w7 [.bool m8, .slice a8 l8 c8] 72
 rw [← hw]
 clear hw
 have sz := b1.size
 have tr := kr.lt
 replace ka := ka.below b1
 replace kb := kb.below b1
 replace kc := kc.below b1
 replace kr := kr.below b1
 replace ku := ku.below b1
 replace kv := kv.below b1
 replace kt := kt.below b1
 replace sv1 := sv1.below b1
 replace sv4 := sv4.below b1
 replace nv8 := nv8.below b1
 replace bb := Below.after bb b1
 clear b1
 obtain ⟨nx, ny, nu, hw1⟩ := sv1
 obtain ⟨nz, nw, nt, hw4⟩ := sv4
 clear ka kb kc kt nv7 nu nt hg
 have td := kd.lt
 have qu : gu ≠ w.heap.size + 1 + 1 + 1 := by omega
 have qv : gv ≠ w.heap.size + 1 + 1 + 1 := by omega
 have qd : w7.heap.size ≠ w.heap.size + 1 + 1 + 1 := by omega
 have he := Gm.ratio_eq hw1 hw4 hz.out
 have hp := Gm.ratio_ne hw1 hw4 hz.out
 replace he := shut he
 replace hp := shut hp
 clear hz hw1 hw4
 replace kr := kr.below (bdrew w8)
 replace ku := ku.below (bdrew w8)
 replace kv := kv.below (bdrew w8)
 replace kd := kd.below (bdrew w8)
 replace nx := nx.below (bdrew w8)
 replace ny := ny.below (bdrew w8)
 replace nz := nz.below (bdrew w8)
 replace nw := nw.below (bdrew w8)
 replace nv8 := nv8.below (bdrew w8)
 replace bb := Below.after bb (bdrew w8)
 have mk : Hid (∀ w', (Cel w' w7.heap.size [.bool m8, .slice a8 l8 c8] 72 ∧ Cel w' gu [.bool m1, .slice a1 l1 c1, .bool m2, .slice a2 l2 c2, .bool false, .slice a3 l3 c3] 74 ∧ Cel w' gv [.bool m4, .slice a4 l4 c4, .bool m5, .slice a5 l5 c5, .bool false, .slice a6 l6 c6] 74) → xc2 w' w7.heap.size (.bool m8) (.slice a8 l8 c8) ∧ xc6 w' gu (.bool m1) (.slice a1 l1 c1) (.bool m2) (.slice a2 l2 c2) (.bool false) (.slice a3 l3 c3) ∧ xc6 w' gv (.bool m4) (.slice a4 l4 c4) (.bool m5) (.slice a5 l5 c5) (.bool false) (.slice a6 l6 c6)) := fun w' h => ⟨xk2 h.1, xk6 h.2.1, xk6 h.2.2⟩
 have sa : ∀ w', (Cel w' w7.heap.size [.bool m8, .slice a8 l8 c8] 72 ∧ Cel w' gu [.bool m1, .slice a1 l1 c1, .bool m2, .slice a2 l2 c2, .bool false, .slice a3 l3 c3] 74 ∧ Cel w' gv [.bool m4, .slice a4 l4 c4, .bool m5, .slice a5 l5 c5, .bool false, .slice a6 l6 c6] 74) → (fun w' => Cel w' w7.heap.size [.bool m8, .slice a8 l8 c8] 72 ∧ Cel w' gu [.bool m1, .slice a1 l1 c1, .bool m2, .slice a2 l2 c2, .bool false, .slice a3 l3 c3] 74 ∧ Cel w' gv [.bool m4, .slice a4 l4 c4, .bool m5, .slice a5 l5 c5, .bool false, .slice a6 l6 c6] 74) (w'.alloc (.cells [.bool m8, .slice a8 l8 c8, .bool m8, .slice a8 l8 c8].toArray 72)) := fun w' h => ⟨h.1.alloc _, h.2.1.alloc _, h.2.2.alloc _⟩
 refine wp_region_held_drew (S := fun w' => Cel w' w7.heap.size [.bool m8, .slice a8 l8 c8] 72 ∧ Cel w' gu [.bool m1, .slice a1 l1 c1, .bool m2, .slice a2 l2 c2, .bool false, .slice a3 l3 c3] 74 ∧ Cel w' gv [.bool m4, .slice a4 l4 c4, .bool m5, .slice a5 l5 c5, .bool false, .slice a6 l6 c6] 74) (by kernel_rfl) ⟨kd, ku, kv⟩ (fun hS => ?_)
 generalize w8.drew = wd at *
 refine WA.start (n := 11) (by kernel_rfl) ?_
 refine WA.tl 0 rfl ?_
 refine WA.tl 2 rfl ?_
 refine WA.tl 5 rfl ?_
 refine WA.tl 6 rfl ?_
 refine WA.gen (i := 7) (s := 74) undef (PtS [.bool m8, .slice a8 l8 c8, .bool m8, .slice a8 l8 c8] 72 2) (fun b x hz => ?_)
 simp only [Act.put, List.setIfInBounds_toArray, List.set_cons_zero, List.set_cons_succ]
 revert b x
 refine WA.oneS 11 101 1 7 rfl rfl sa hS ?_
 clear hS
 intro b x w' hz bx hS K hK
 replace kr := kr.below bx
 replace nx := nx.below bx
 replace ny := ny.below bx
 replace nz := nz.below bx
 replace nw := nw.below bx
 replace nv8 := nv8.below bx
 replace bb := Below.after bb bx
 clear bx
 simp only [List.getElem_toArray, List.getElem_cons_succ, List.getElem_cons_zero]
 go_simp
 go_fit (ssquare_any _ _ _ _ _ _ _ _ _ _ _ _ X1 Y1 53 _ (by omega) nx ny)
 rintro e wn ⟨m9, v9, rfl, nv9, bn⟩
 obtain ⟨a9, l9, c9, rfl⟩ := nv9.slice
 replace kr := kr.below bn
 replace nx := nx.below bn
 replace ny := ny.below bn
 replace nz := nz.below bn
 replace nw := nw.below bn
 replace nv8 := nv8.below bn
 replace bb := Below.after bb bn
 replace hS := (show _ ∧ _ ∧ _ from ⟨hS.1.below bn, hS.2.1.below bn, hS.2.2.below bn⟩)
 try go_wp2_with fail
 refine hK.out _ _ hS (fun _ => ?_)
 replace hz := fun h => (hz h).below bn
 clear hK K bn
 revert b x
 refine WA.oneS 11 103 3 7 rfl rfl sa hS ?_
 clear hS
 intro b x w' hz bx hS K hK
 replace kr := kr.below bx
 replace nx := nx.below bx
 replace ny := ny.below bx
 replace nz := nz.below bx
 replace nw := nw.below bx
 replace nv8 := nv8.below bx
 replace nv9 := nv9.below bx
 replace bb := Below.after bb bx
 clear bx
 simp only [List.getElem_toArray, List.getElem_cons_succ, List.getElem_cons_zero]
 go_simp
 go_fit (ssquare_any _ _ _ _ _ _ _ _ _ _ _ _ X4 Y4 53 _ (by omega) nz nw)
 rintro e wn ⟨m10, v10, rfl, nv10, bn⟩
 obtain ⟨a10, l10, c10, rfl⟩ := nv10.slice
 replace kr := kr.below bn
 replace nx := nx.below bn
 replace ny := ny.below bn
 replace nz := nz.below bn
 replace nw := nw.below bn
 replace nv8 := nv8.below bn
 replace nv9 := nv9.below bn
 replace bb := Below.after bb bn
 replace hS := (show _ ∧ _ ∧ _ from ⟨hS.1.below bn, hS.2.1.below bn, hS.2.2.below bn⟩)
 try go_wp2_with fail
 refine hK.out _ _ hS (fun _ => ?_)
 replace hz := fun h => (hz h).below bn
 clear hK K bn
 revert b x
 refine WA.oneS 11 111 4 7 rfl rfl sa hS ?_
 clear hS
 intro b x w' hz bx hS K hK
 replace kr := kr.below bx
 replace nx := nx.below bx
 replace ny := ny.below bx
 replace nz := nz.below bx
 replace nw := nw.below bx
 replace nv8 := nv8.below bx
 replace nv9 := nv9.below bx
 replace nv10 := nv10.below bx
 replace bb := Below.after bb bx
 clear bx
 simp only [List.getElem_toArray, List.getElem_cons_succ, List.getElem_cons_zero]
 go_simp
 go_fit (ntimes_any _ _ _ _ (X1 * X1 + Y1 * Y1) (X4 * X4 + Y4 * Y4) (53 + 53 + 1) (53 + 53 + 1) _ (by omega) (by omega) nv9 nv10)
 rintro e wn ⟨m11, v11, rfl, nv11, -, bn⟩
 obtain ⟨a11, l11, c11, rfl⟩ := nv11.slice
 replace kr := kr.below bn
 replace nx := nx.below bn
 replace ny := ny.below bn
 replace nz := nz.below bn
 replace nw := nw.below bn
 replace nv8 := nv8.below bn
 replace nv9 := nv9.below bn
 replace nv10 := nv10.below bn
 replace bb := Below.after bb bn
 replace hS := (show _ ∧ _ ∧ _ from ⟨hS.1.below bn, hS.2.1.below bn, hS.2.2.below bn⟩)
 try go_wp2_with fail
 refine hK.out _ _ hS (fun _ => ?_)
 replace hz := fun h => (hz h).below bn
 clear hK K bn
 clear nx ny nz nw nv9 nv10
 revert b x
 refine WA.finS 7 rfl sa hS ?_
 clear hS
 intro x w' hz bx hS
 replace kr := kr.below bx
 replace nv8 := nv8.below bx
 replace nv11 := nv11.below bx
 replace bb := Below.after bb bx
 clear bx
 obtain ⟨gB, rfl, kB⟩ := hz
 refine WA.cal 8 rfl (fun K hK => ?_)
 simp only [List.getElem_toArray, List.getElem_cons_succ, List.getElem_cons_zero]
 go_simp
 go_fit (nover2n _ _ _ _ _ _ _ _ _ _ ((X1 * X1 + Y1 * Y1) * (X4 * X4 + Y4 * Y4)) ((X1 * Y4 - Y1 * X4) + (X1 * Y4 - Y1 * X4)) ((X1 * Y4 - Y1 * X4) + (X1 * Y4 - Y1 * X4)) (53 + 53 + 1 + (53 + 53 + 1)) _ _ (hT.below bb) (by omega) hp.out hp.out he.out nv11 (nv8.mono (by omega)) (nv8.mono (by omega)) kB)
 rintro e wn ⟨rfl, bn⟩
 replace kr := kr.below bn
 replace bb := Below.after bb bn
 replace hS := (show _ ∧ _ ∧ _ from ⟨hS.1.below bn, hS.2.1.below bn, hS.2.2.below bn⟩)
 try go_wp2_with fail
 refine hK.out _ _ hS (fun _ => ?_)
 clear hK K bn
 obtain ⟨e0, e1, e2⟩ := xk3 kr
 have f0 := Cel.frozen kr 0
 have f1 := Cel.frozen kr 1
 have f2 := Cel.frozen kr 2
 refine WA.cal 9 rfl (fun K hK => ?_)
 simp only [List.getElem_toArray, List.getElem_cons_succ, List.getElem_cons_zero]
 go_simp
 try go_wp2_with fail
 clear e0 e1 e2 f0 f1 f2
 refine hK.out _ _ ⟨hS.1.oth3 qd _ _ _, hS.2.1.oth3 qu _ _ _, hS.2.2.oth3 qv _ _ _⟩ (fun hS => ?_)
 clear hK K
 refine WA.tp 10 rfl ?_
 refine WA.done (by kernel_rfl) ?_
 clear hS
 go_wp2_with fail
 exact post_q1 (p := 6) (u := 7) (v := .int .i64 0) (by kernel_rfl) rfl rfl rfl (((kr.set 0 _).set 1 _).set 2 _) ⟨rfl, bset (bset (bset bb (by omega) 0 _) (by omega) 1 _) (by omega) 2 _⟩
theorem rq_int (z : Int) : rq ((z : Int) : Rat) = .agg #[.bool (nfZ z), .string (sfZ z), .string ⟨#[1]⟩] := by
 have e : strOf 1 = ⟨#[1]⟩ := by decide +kernel
 simp only [rq, Rat.num_intCast, Rat.den_intCast, e]
theorem cmp_sg (a b : Rat) : decide (0 < Q.cmp a b) = decide (0 < Gm.sg (a - b)) := by
 by_cases h : b < a
 ·rw [decide_eq_true (cmp_yes h), decide_eq_true (by rw [Gm.sg_pos (by grind)]; decide)]
 ·rw [cmp_no h, decide_eq_false]
  rcases Gm.sg_cases (a - b) with ⟨q, e⟩ | ⟨q, e⟩ | ⟨q, e⟩
  ·rw [e]; decide
  ·exact absurd q (by grind)
  ·rw [e]; decide
theorem rsharpI (x0 y0 x1 y1 x2 y2 : Rat) {K : Nat} (hK : K ≤ 60) (b0 : Bq x0 K) (b1 : Bq y0 K) (b2 : Bq x1 K) (b3 : Bq y1 K) (b4 : Bq x2 K) (b5 : Bq y2 K) (w : World) : Calls Tryz.prog 32 #[pq x0 y0, pq x1 y1, pq x2 y2] w (Ra w (.bool (shp (x0 - x1) (y0 - y1) (x2 - x1) (y2 - y1)))) := by
 have bux := vqm_sub b0 b2
 have buy := vqm_sub b1 b3
 have bvx := vqm_sub b4 b2
 have bvy := vqm_sub b5 b3
 have bd := vqm_add (vqm_mul bux bvx) (vqm_mul buy bvy)
 have bn := vqm_add (vqm_mul bux bux) (vqm_mul buy buy)
 have bm := vqm_add (vqm_mul bvx bvx) (vqm_mul bvy bvy)
 have be := vqm_mul bd bd
 have b4' : Bq ((4 : Int) : Rat) 1 := bq_int 4 (by omega) (by omega)
 have bf := vqm_mul b4' be
 have bi := vqm_mul bn bm
 obtain ⟨M, hM⟩ : ∃ M : Nat, M = 4000 := ⟨_, rfl⟩
 unfold shp
 by_cases hd : Gm.sg ((x0 - x1) * (x2 - x1) + (y0 - y1) * (y2 - y1)) ≤ 0
 ·rw [decide_eq_false (by omega), Bool.false_and]
  exact rsharp_no _ _ _ _ _ _ _ _ _ _ _ _ _ _ _ _ _ _ _ _ _ _ _ _ _ _ _ _ _ _ _ _ _ _ w hd (fun w1 _ => rminusP x0 y0 x1 y1 (K := K) (by omega) b0 b1 b2 b3 w1) (fun w1 _ => rminusP x2 y2 x1 y1 (K := K) (by omega) b4 b5 b2 b3 w1) (fun w1 _ => rdotP _ _ _ _ (K := (K + K + 1)) (by omega) bux buy bvx bvy w1) (fun w1 _ => rsignI _ w1)
 ·rw [decide_eq_true (by omega), Bool.true_and]
  have := rsharp_ok _ _ _ _ _ _ _ _ _ _ _ _ _ _ _ _ _ _ _ _ _ _ _ _ _ _ _ _ _ _ _ _ _ _ _ _ _ _ _ _ _ _ _ _ _ _ _ _ _ _ _ _ _ w hd (fun w1 _ => rminusP x0 y0 x1 y1 (K := K) (by omega) b0 b1 b2 b3 w1) (fun w1 _ => rminusP x2 y2 x1 y1 (K := K) (by omega) b4 b5 b2 b3 w1) (fun w1 _ => rdotP _ _ _ _ (K := (K + K + 1)) (by omega) bux buy bvx bvy w1) (fun w1 _ => rsignI _ w1) (fun w1 _ => by have := roq_any 4 (by omega) (by omega) w1; rwa [← rq_int] at this) (fun w1 _ => rsqr_walk _ _ _ _ _ _ w1 (fun w2 _ => rtimesI _ _ (K := M) (by omega) (bq_mono bd (by omega)) (bq_mono bd (by omega)) w2)) (fun w1 _ => rtimesI _ _ (K := M) (by omega) (bq_mono b4' (by omega)) (bq_mono be (by omega)) w1) (fun w1 _ => rnormP _ _ (K := (K + K + 1)) (by omega) bux buy w1) (fun w1 _ => rnormP _ _ (K := (K + K + 1)) (by omega) bvx bvy w1) (fun w1 _ => rtimesI _ _ (K := M) (by omega) (bq_mono bn (by omega)) (bq_mono bm (by omega)) w1) (fun w1 _ => rorderI _ _ (K := M) (by omega) (bq_mono bf (by omega)) (bq_mono bi (by omega)) w1)
  rwa [cmp_sg, show ((4 : Int) : Rat) * (((x0 - x1) * (x2 - x1) + (y0 - y1) * (y2 - y1)) * ((x0 - x1) * (x2 - x1) + (y0 - y1) * (y2 - y1))) - ((x0 - x1) * (x0 - x1) + (y0 - y1) * (y0 - y1)) * ((x2 - x1) * (x2 - x1) + (y2 - y1) * (y2 - y1)) = 4 * (((x0 - x1) * (x2 - x1) + (y0 - y1) * (y2 - y1)) * ((x0 - x1) * (x2 - x1) + (y0 - y1) * (y2 - y1))) - ((x0 - x1) * (x0 - x1) + (y0 - y1) * (y0 - y1)) * ((x2 - x1) * (x2 - x1) + (y2 - y1) * (y2 - y1)) from rfl] at this
theorem rareaI (x0 y0 x1 y1 x2 y2 : Rat) {K : Nat} (hK : K ≤ 60) (b0 : Bq x0 K) (b1 : Bq y0 K) (b2 : Bq x1 K) (b3 : Bq y1 K) (b4 : Bq x2 K) (b5 : Bq y2 K) (w : World) : Calls Tryz.prog 31 #[pq x0 y0, pq x1 y1, pq x2 y2] w (Ra w (rq ((x1 - x0) * (y2 - y0) - (y1 - y0) * (x2 - x0)))) :=
 rarea_walk _ _ _ _ _ _ _ _ _ _ _ _ _ _ _ _ _ _ _ _ _ _ _ _ _ _ _ _ _ _ _ _ _ w (fun w1 _ => rminusP x1 y1 x0 y0 (K := K) (by omega) b2 b3 b0 b1 w1) (fun w1 _ => rminusP x2 y2 x0 y0 (K := K) (by omega) b4 b5 b0 b1 w1) (fun w1 _ => rcrossP _ _ _ _ (K := (K + K + 1)) (by omega) (vqm_sub b2 b0) (vqm_sub b3 b1) (vqm_sub b4 b0) (vqm_sub b5 b1) w1)
theorem lm2_bq {x y : Rat} {K : Nat} (hx : Bq x K) (hy : Bq y K) : Bq (lm2 x y) K := by
 unfold lm2
 split <;> assumption
theorem rshortI (x0 y0 x1 y1 x2 y2 : Rat) {K : Nat} (hK : K ≤ 60) (b0 : Bq x0 K) (b1 : Bq y0 K) (b2 : Bq x1 K) (b3 : Bq y1 K) (b4 : Bq x2 K) (b5 : Bq y2 K) (w : World) : Calls Tryz.prog 82 #[pq x0 y0, pq x1 y1, pq x2 y2] w (Ra w (rq (lm2 ((x1 - x0) * (x1 - x0) + (y1 - y0) * (y1 - y0)) (lm2 ((x2 - x1) * (x2 - x1) + (y2 - y1) * (y2 - y1)) ((x0 - x2) * (x0 - x2) + (y0 - y2) * (y0 - y2)))))) := by
 have ba := vqm_add (vqm_mul (vqm_sub b2 b0) (vqm_sub b2 b0)) (vqm_mul (vqm_sub b3 b1) (vqm_sub b3 b1))
 have bb := vqm_add (vqm_mul (vqm_sub b4 b2) (vqm_sub b4 b2)) (vqm_mul (vqm_sub b5 b3) (vqm_sub b5 b3))
 have bc := vqm_add (vqm_mul (vqm_sub b0 b4) (vqm_sub b0 b4)) (vqm_mul (vqm_sub b1 b5) (vqm_sub b1 b5))
 exact rshort_walk _ _ _ _ _ _ _ _ _ _ _ _ _ _ _ _ _ _ _ _ _ _ _ _ _ _ _ _ _ _ _ _ _ w (fun w1 _ => far6I x0 y0 x1 y1 (K := K) (by omega) b0 b1 b2 b3 w1) (fun w1 _ => far6I x1 y1 x2 y2 (K := K) (by omega) b2 b3 b4 b5 w1) (fun w1 _ => far6I x2 y2 x0 y0 (K := K) (by omega) b4 b5 b0 b1 w1) (fun w1 _ => leastI _ _ (by omega) bb bc w1) (fun w1 _ => leastI _ _ (by omega) ba (lm2_bq bb bc) w1)
theorem rratioI (x0 y0 x1 y1 x2 y2 : Rat) {K : Nat} (hK : K ≤ 60) (b0 : Bq x0 K) (b1 : Bq y0 K) (b2 : Bq x1 K) (b3 : Bq y1 K) (b4 : Bq x2 K) (b5 : Bq y2 K) (w : World) (hA : ((x1 - x0) * (y2 - y0) - (y1 - y0) * (x2 - x0)) ≠ 0) (hs : ¬ (lm2 ((x1 - x0) * (x1 - x0) + (y1 - y0) * (y1 - y0)) (lm2 ((x2 - x1) * (x2 - x1) + (y2 - y1) * (y2 - y1)) ((x0 - x2) * (x0 - x2) + (y0 - y2) * (y0 - y2)))) = 0) : Calls Tryz.prog 33 #[pq x0 y0, pq x1 y1, pq x2 y2] w (Ra w (rq (((cenX (x1 - x0) (y1 - y0) (x2 - x0) (y2 - y0)) * (cenX (x1 - x0) (y1 - y0) (x2 - x0) (y2 - y0)) + (cenY (x1 - x0) (y1 - y0) (x2 - x0) (y2 - y0)) * (cenY (x1 - x0) (y1 - y0) (x2 - x0) (y2 - y0))) / (lm2 ((x1 - x0) * (x1 - x0) + (y1 - y0) * (y1 - y0)) (lm2 ((x2 - x1) * (x2 - x1) + (y2 - y1) * (y2 - y1)) ((x0 - x2) * (x0 - x2) + (y0 - y2) * (y0 - y2))))))) := by
 have ba := vqm_add (vqm_mul (vqm_sub b2 b0) (vqm_sub b2 b0)) (vqm_mul (vqm_sub b3 b1) (vqm_sub b3 b1))
 have bb := vqm_add (vqm_mul (vqm_sub b4 b2) (vqm_sub b4 b2)) (vqm_mul (vqm_sub b5 b3) (vqm_sub b5 b3))
 have bc := vqm_add (vqm_mul (vqm_sub b0 b4) (vqm_sub b0 b4)) (vqm_mul (vqm_sub b1 b5) (vqm_sub b1 b5))
 have bs := lm2_bq ba (lm2_bq bb bc)
 obtain ⟨bx, bY⟩ := cen_bq b0 b1 b2 b3 b4 b5 hA
 have br := vqm_add (vqm_mul bx bx) (vqm_mul bY bY)
 have ef : ((x0 - (x0 + (cenX (x1 - x0) (y1 - y0) (x2 - x0) (y2 - y0)))) * (x0 - (x0 + (cenX (x1 - x0) (y1 - y0) (x2 - x0) (y2 - y0)))) + (y0 - (y0 + (cenY (x1 - x0) (y1 - y0) (x2 - x0) (y2 - y0)))) * (y0 - (y0 + (cenY (x1 - x0) (y1 - y0) (x2 - x0) (y2 - y0))))) = (cenX (x1 - x0) (y1 - y0) (x2 - x0) (y2 - y0)) * (cenX (x1 - x0) (y1 - y0) (x2 - x0) (y2 - y0)) + (cenY (x1 - x0) (y1 - y0) (x2 - x0) (y2 - y0)) * (cenY (x1 - x0) (y1 - y0) (x2 - x0) (y2 - y0)) := by
  generalize (cenX (x1 - x0) (y1 - y0) (x2 - x0) (y2 - y0)) = X
  generalize (cenY (x1 - x0) (y1 - y0) (x2 - x0) (y2 - y0)) = Y
  grind
 obtain ⟨M, hM⟩ : ∃ M : Nat, M = 4000 := ⟨_, rfl⟩
 exact rratio_walk _ _ _ _ _ _ _ _ _ _ _ _ _ _ _ _ _ _ _ _ _ _ _ _ _ _ _ _ _ _ _ _ _ w (fun w1 _ => rcenI x0 y0 x1 y1 x2 y2 (K := K) (by omega) b0 b1 b2 b3 b4 b5 w1 hA) (fun w1 _ => by have := far6L (x0 + (cenX (x1 - x0) (y1 - y0) (x2 - x0) (y2 - y0))) (y0 + (cenY (x1 - x0) (y1 - y0) (x2 - x0) (y2 - y0))) x0 y0 (K := K) (M' := K + (16 * K + 5) + 1) (by omega) (by omega) (vqm_add b0 bx) (vqm_add b1 bY) b0 b1 w1; rwa [ef] at this) (fun w1 _ => rshortI x0 y0 x1 y1 x2 y2 hK b0 b1 b2 b3 b4 b5 w1) (fun w1 _ => roverI _ _ (K := M) (by omega) (bq_mono br (by omega)) (bq_mono bs (by omega)) hs w1)
theorem qcmpI (x y : Rat) {K : Nat} (hK : K ≤ 4000) (b0 : Bq x K) (b1 : Bq y K) (w : World) (hT : Tab w) : Calls Tryz.prog 116 #[rq x, rq y] w (Ra w (.tuple #[.int .i64 (Q.cmp x y), .int .i64 0])) := by
 have := qcmp_ok (nfZ x.num) (nfZ y.num) (sfZ x.num) (strOf x.den) (sfZ y.num) (strOf y.den) w hT (twoq_zero.2 ⟨chk_can8 x hK b0, chk_can8 y hK b1⟩) (K := K) hK (bq_sz (Nat.le_refl _) b0).1 (bq_sz (Nat.le_refl _) b0).2 (bq_sz (Nat.le_refl _) b1).1 (bq_sz (Nat.le_refl _) b1).2
 simp only [qOf_one] at this
 exact this
def ls2 (f : Rat) (o : Nat → Rat) : Nat → Rat
 | 0 => f
 | k + 1 => if o k < ls2 f o k then o k else ls2 f o k
theorem ls2_bq {f : Rat} {o : Nat → Rat} {K : Nat} (hf : Bq f K) (ho : ∀ k, Bq (o k) K) : ∀ k, Bq (ls2 f o k) K
 | 0 => hf
 | k + 1 => by
  unfold ls2
  split
  ·exact ho k
  ·exact ls2_bq hf ho k
theorem cmp_lt (a b : Rat) : Q.cmp a b < 0 ↔ a < b := by
 unfold Q.cmp
 split
 ·simpa
 ·split
  ·simp; assumption
  ·simp; assumption
theorem leastcI (x y z : Rat) {K : Nat} (hK : K ≤ 4000) (b0 : Bq x K) (b1 : Bq y K) (b2 : Bq z K) (w : World) (hT : Tab w) : Hid (∀ (w1 : World) (B : Nat), Below w.heap.size w w1 → Cel w1 B [.bool (nfZ y.num), .string (sfZ y.num), .string (strOf y.den), .bool (nfZ z.num), .string (sfZ z.num), .string (strOf z.den)] 26 → Calls Tryz.prog 79 #[rq x, .slice (some ⟨B, 0, none⟩) 2 2] w1 (Ra w1 (rq (ls2 x (fun k => if k = 0 then y else z) 2)))) := fun w1 B b h => by
 have ho : ∀ k : Nat, Bq (if k = 0 then y else z) K := fun k => by split <;> assumption
 refine cleast_walk (some ⟨B, 0, none⟩) 2 2 (fun k => nfZ (if k = 0 then y else z).num) (fun k => nfZ (ls2 x (fun k => if k = 0 then y else z) k).num) (fun k => sfZ (if k = 0 then y else z).num) (fun k => strOf (if k = 0 then y else z).den) (fun k => sfZ (ls2 x (fun k => if k = 0 then y else z) k).num) (fun k => strOf (ls2 x (fun k => if k = 0 then y else z) k).den) (fun k => Q.cmp (if k = 0 then y else z) (ls2 x (fun k => if k = 0 then y else z) k)) w1 (by omega) ?_ ?_ ?_
 ·intro j hj
  refine ⟨B, 0, rfl, ?_⟩
  match j, hj with
  | 0, _ => exact ⟨h.cell 0, h.cell 1, h.cell 2⟩
  | 1, _ => exact ⟨h.cell 3, h.cell 4, h.cell 5⟩
 ·exact fun j w2 _ b' => qcmpI _ _ hK (ho j) (ls2_bq b0 ho j) w2 (hT.below (Below.after b b'))
 ·intro j _
  by_cases hc : (if j = 0 then y else z) < ls2 x (fun k => if k = 0 then y else z) j
  ·left
   have e : ls2 x (fun k => if k = 0 then y else z) (j + 1) = (if j = 0 then y else z) := if_pos hc
   exact ⟨(cmp_lt _ _).2 hc, by rw [e], by rw [e], by rw [e]⟩
  ·right
   have e : ls2 x (fun k => if k = 0 then y else z) (j + 1) = ls2 x (fun k => if k = 0 then y else z) j := if_neg hc
   exact ⟨fun q => hc ((cmp_lt _ _).1 q), by rw [e], by rw [e], by rw [e]⟩
abbrev fq2 (a b c d : Rat) : Rat := (c - a) * (c - a) + (d - b) * (d - b)
abbrev nq6 (a b c d e f : Rat) : Rat := (c - a) * (f - b) - (d - b) * (e - a)
theorem cen_sq {ux uy vx vy : Rat} : cenX ux uy vx vy * cenX ux uy vx vy + cenY ux uy vx vy * cenY ux uy vx vy = (ux * ux + uy * uy) * (vx * vx + vy * vy) * ((vx - ux) * (vx - ux) + (vy - uy) * (vy - uy)) * (((ux * vy - uy * vx) + (ux * vy - uy * vx))⁻¹ * ((ux * vy - uy * vx) + (ux * vy - uy * vx))⁻¹) := by
 unfold cenX cenY
 rw [Rat.div_def, Rat.div_def]
 generalize ((ux * vy - uy * vx) + (ux * vy - uy * vx))⁻¹ = i
 grind
theorem ls2_eq (a b c : Rat) : ls2 a (fun k => if k = 0 then b else c) 2 = lm2 a (lm2 b c) := by
 show (if (if 1 = 0 then b else c) < (if (if 0 = 0 then b else c) < a then (if 0 = 0 then b else c) else a) then (if 1 = 0 then b else c) else (if (if 0 = 0 then b else c) < a then (if 0 = 0 then b else c) else a)) = _
 rw [if_neg (by omega : ¬ (1 = 0)), if_pos rfl]
 unfold lm2
 by_cases h1 : b < a <;> by_cases h2 : c < b <;> by_cases h3 : c < a <;> simp only [h1, h2, h3, if_true, if_false] <;> grind
theorem ls2_one (a b c : Rat) : lm2 a (lm2 b c) = a ∨ lm2 a (lm2 b c) = b ∨ lm2 a (lm2 b c) = c := by
 unfold lm2
 by_cases h2 : c < b
 ·rw [if_pos h2]
  by_cases h3 : c < a
  ·exact .inr (.inr (if_pos h3))
  ·exact .inl (if_neg h3)
 ·rw [if_neg h2]
  by_cases h3 : b < a
  ·exact .inr (.inl (if_pos h3))
  ·exact .inl (if_neg h3)
theorem mul_inv2 (a : Rat) : (a * a)⁻¹ = a⁻¹ * a⁻¹ := by
 by_cases h : a = 0
 ·subst h; decide +kernel
 ·have h2 : a * a ≠ 0 := fun e => by rcases Rat.mul_eq_zero.1 e with k | k <;> exact h k
  have r1 := Rat.mul_inv_cancel _ h
  have r2 := Rat.mul_inv_cancel _ h2
  generalize a⁻¹ = i at *
  generalize (a * a)⁻¹ = j at *
  have e : j = j * (a * i) * (a * i) := by rw [r1]; grind
  rw [e]
  have e2 : j * (a * i) * (a * i) = (a * a * j) * (i * i) := by grind
  rw [e2, r2]
  grind
theorem ratI (x0 y0 x1 y1 x2 y2 : Rat) {K : Nat} (hK : K ≤ 60) (b0 : Bq x0 K) (b1 : Bq y0 K) (b2 : Bq x1 K) (b3 : Bq y1 K) (b4 : Bq x2 K) (b5 : Bq y2 K) (w : World) (hT : Tab w) {V : Value} (hV : ((nq6 x0 y0 x1 y1 x2 y2) = 0 ∧ V = .tuple #[.agg #[.bool false, .string { data := #[] }, .string { data := #[] }], .int .i64 6]) ∨ ((nq6 x0 y0 x1 y1 x2 y2) ≠ 0 ∧ V = .tuple #[rq (((cenX (x1 - x0) (y1 - y0) (x2 - x0) (y2 - y0)) * (cenX (x1 - x0) (y1 - y0) (x2 - x0) (y2 - y0)) + (cenY (x1 - x0) (y1 - y0) (x2 - x0) (y2 - y0)) * (cenY (x1 - x0) (y1 - y0) (x2 - x0) (y2 - y0))) / (lm2 (fq2 x0 y0 x1 y1) (lm2 (fq2 x1 y1 x2 y2) (fq2 x2 y2 x0 y0)))), .int .i64 0])) : Calls Tryz.prog 30 #[pq x0 y0, pq x1 y1, pq x2 y2] w (Ra w V) := by
 have ba := vqm_add (vqm_mul (vqm_sub b2 b0) (vqm_sub b2 b0)) (vqm_mul (vqm_sub b3 b1) (vqm_sub b3 b1))
 have bb := vqm_add (vqm_mul (vqm_sub b4 b2) (vqm_sub b4 b2)) (vqm_mul (vqm_sub b5 b3) (vqm_sub b5 b3))
 have bc := vqm_add (vqm_mul (vqm_sub b0 b4) (vqm_sub b0 b4)) (vqm_mul (vqm_sub b1 b5) (vqm_sub b1 b5))
 obtain ⟨M, hM⟩ : ∃ M : Nat, M = 4000 := ⟨_, rfl⟩
 replace ba := bq_mono (M' := M) ba (by omega)
 replace bb := bq_mono (M' := M) bb (by omega)
 replace bc := bq_mono (M' := M) bc (by omega)
 have eL := ls2_eq (fq2 x0 y0 x1 y1) (fq2 x1 y1 x2 y2) (fq2 x2 y2 x0 y0)
 have eO := ls2_one (fq2 x0 y0 x1 y1) (fq2 x1 y1 x2 y2) (fq2 x2 y2 x0 y0)
 rw [← eL] at eO
 have es := cen_sq (ux := (x1 - x0)) (uy := (y1 - y0)) (vx := (x2 - x0)) (vy := (y2 - y0))
 have pAB : (nq6 x0 y0 x1 y1 x2 y2) ≠ 0 → (fq2 x0 y0 x1 y1) ≠ 0 := fun h e => h (by obtain ⟨a, b⟩ := Gm.norm_zero e; grind)
 have pCA : (nq6 x0 y0 x1 y1 x2 y2) ≠ 0 → (fq2 x2 y2 x0 y0) ≠ 0 := fun h e => h (by obtain ⟨a, b⟩ := Gm.norm_zero e; grind)
 have pBC : (nq6 x0 y0 x1 y1 x2 y2) ≠ 0 → (fq2 x1 y1 x2 y2) ≠ 0 := fun h e => h (by obtain ⟨a, b⟩ := Gm.norm_zero e; grind)
 by_cases c1 : (ls2 (fq2 x0 y0 x1 y1) (fun k => if k = 0 then (fq2 x1 y1 x2 y2) else (fq2 x2 y2 x0 y0)) 2) = (fq2 x0 y0 x1 y1)
 ·have e1 : decide ((ls2 (fq2 x0 y0 x1 y1) (fun k => if k = 0 then (fq2 x1 y1 x2 y2) else (fq2 x2 y2 x0 y0)) 2) = (fq2 x0 y0 x1 y1)) = true := decide_eq_true c1
  obtain ⟨t, e2⟩ : ∃ t, decide ((ls2 (fq2 x0 y0 x1 y1) (fun k => if k = 0 then (fq2 x1 y1 x2 y2) else (fq2 x2 y2 x0 y0)) 2) = (fq2 x2 y2 x0 y0)) = t := ⟨_, rfl⟩
  have en : (nq6 x2 y2 x0 y0 x1 y1) = (nq6 x0 y0 x1 y1 x2 y2) := by grind
  refine cRat_any _ _ _ _ _ _ _ _ _ _ _ _ _ _ _ _ _ _ _ _ _ _ _ _ _ _ _ _ _ _ 0 true t (x0 - x2) (y0 - y2) (x1 - x2) (y1 - y2) _ w hT (by simp) (chkI x0 y0 x1 y1 x2 y2 (by omega) b0 b1 b2 b3 b4 b5 w hT) (fun w1 b => farI x0 y0 x1 y1 (by omega) b0 b1 b2 b3 w1 (hT.below b)) (fun w1 b => farI x1 y1 x2 y2 (by omega) b2 b3 b4 b5 w1 (hT.below b)) (fun w1 b => farI x2 y2 x0 y0 (by omega) b4 b5 b0 b1 w1 (hT.below b)) (leastcI (fq2 x0 y0 x1 y1) (fq2 x1 y1 x2 y2) (fq2 x2 y2 x0 y0) (K := M) (by omega) ba bb bc w hT) (eqI (ls2 (fq2 x0 y0 x1 y1) (fun k => if k = 0 then (fq2 x1 y1 x2 y2) else (fq2 x2 y2 x0 y0)) 2) (fq2 x0 y0 x1 y1) e1) (eqI (ls2 (fq2 x0 y0 x1 y1) (fun k => if k = 0 then (fq2 x1 y1 x2 y2) else (fq2 x2 y2 x0 y0)) 2) (fq2 x2 y2 x0 y0) e2) (ofI x2 y2 x0 y0 (by omega) b4 b5 b0 b1) (ofI x2 y2 x1 y1 (by omega) b4 b5 b2 b3) ?_
  rcases hV with ⟨h, rfl⟩ | ⟨h, rfl⟩
  ·exact .inl ⟨en.trans h, rfl⟩
  ·refine .inr ⟨fun e => h (en.symm.trans e), ?_⟩
   have ev : (fq2 x2 y2 x0 y0 * fq2 x2 y2 x1 y1 / (((nq6 x2 y2 x0 y0 x1 y1) + (nq6 x2 y2 x0 y0 x1 y1)) * ((nq6 x2 y2 x0 y0 x1 y1) + (nq6 x2 y2 x0 y0 x1 y1)))) = (((cenX (x1 - x0) (y1 - y0) (x2 - x0) (y2 - y0)) * (cenX (x1 - x0) (y1 - y0) (x2 - x0) (y2 - y0)) + (cenY (x1 - x0) (y1 - y0) (x2 - x0) (y2 - y0)) * (cenY (x1 - x0) (y1 - y0) (x2 - x0) (y2 - y0))) / (lm2 (fq2 x0 y0 x1 y1) (lm2 (fq2 x1 y1 x2 y2) (fq2 x2 y2 x0 y0)))) := by
    rw [← eL, c1, es, en, Rat.div_def, Rat.div_def, mul_inv2]
    have hr := Rat.mul_inv_cancel _ (pAB h)
    rw [show fq2 x0 y0 x1 y1 * fq2 x0 y0 x2 y2 * fq2 (x1 - x0) (y1 - y0) (x2 - x0) (y2 - y0) = (fq2 x0 y0 x1 y1) * ((fq2 x1 y1 x2 y2) * (fq2 x2 y2 x0 y0)) by grind, show fq2 x2 y2 x0 y0 * fq2 x2 y2 x1 y1 = (fq2 x1 y1 x2 y2) * (fq2 x2 y2 x0 y0) by grind]
    generalize ((nq6 x0 y0 x1 y1 x2 y2) + (nq6 x0 y0 x1 y1 x2 y2))⁻¹ = i
    generalize (fq2 x1 y1 x2 y2) * (fq2 x2 y2 x0 y0) = o
    generalize ((fq2 x0 y0 x1 y1))⁻¹ = l at *
    generalize (fq2 x0 y0 x1 y1) = a at *
    grind
   exact congrArg (fun q : Rat => (Value.tuple #[rq q, .int .i64 0])) ev.symm
 have e1 : decide ((ls2 (fq2 x0 y0 x1 y1) (fun k => if k = 0 then (fq2 x1 y1 x2 y2) else (fq2 x2 y2 x0 y0)) 2) = (fq2 x0 y0 x1 y1)) = false := decide_eq_false c1
 by_cases c2 : (ls2 (fq2 x0 y0 x1 y1) (fun k => if k = 0 then (fq2 x1 y1 x2 y2) else (fq2 x2 y2 x0 y0)) 2) = (fq2 x2 y2 x0 y0)
 ·have e2 : decide ((ls2 (fq2 x0 y0 x1 y1) (fun k => if k = 0 then (fq2 x1 y1 x2 y2) else (fq2 x2 y2 x0 y0)) 2) = (fq2 x2 y2 x0 y0)) = true := decide_eq_true c2
  have en : (nq6 x1 y1 x2 y2 x0 y0) = (nq6 x0 y0 x1 y1 x2 y2) := by grind
  refine cRat_any _ _ _ _ _ _ _ _ _ _ _ _ _ _ _ _ _ _ _ _ _ _ _ _ _ _ _ _ _ _ 1 false true (x2 - x1) (y2 - y1) (x0 - x1) (y0 - y1) _ w hT (by simp) (chkI x0 y0 x1 y1 x2 y2 (by omega) b0 b1 b2 b3 b4 b5 w hT) (fun w1 b => farI x0 y0 x1 y1 (by omega) b0 b1 b2 b3 w1 (hT.below b)) (fun w1 b => farI x1 y1 x2 y2 (by omega) b2 b3 b4 b5 w1 (hT.below b)) (fun w1 b => farI x2 y2 x0 y0 (by omega) b4 b5 b0 b1 w1 (hT.below b)) (leastcI (fq2 x0 y0 x1 y1) (fq2 x1 y1 x2 y2) (fq2 x2 y2 x0 y0) (K := M) (by omega) ba bb bc w hT) (eqI (ls2 (fq2 x0 y0 x1 y1) (fun k => if k = 0 then (fq2 x1 y1 x2 y2) else (fq2 x2 y2 x0 y0)) 2) (fq2 x0 y0 x1 y1) e1) (eqI (ls2 (fq2 x0 y0 x1 y1) (fun k => if k = 0 then (fq2 x1 y1 x2 y2) else (fq2 x2 y2 x0 y0)) 2) (fq2 x2 y2 x0 y0) e2) (ofI x1 y1 x2 y2 (by omega) b2 b3 b4 b5) (ofI x1 y1 x0 y0 (by omega) b2 b3 b0 b1) ?_
  rcases hV with ⟨h, rfl⟩ | ⟨h, rfl⟩
  ·exact .inl ⟨en.trans h, rfl⟩
  ·refine .inr ⟨fun e => h (en.symm.trans e), ?_⟩
   have ev : (fq2 x1 y1 x2 y2 * fq2 x1 y1 x0 y0 / (((nq6 x1 y1 x2 y2 x0 y0) + (nq6 x1 y1 x2 y2 x0 y0)) * ((nq6 x1 y1 x2 y2 x0 y0) + (nq6 x1 y1 x2 y2 x0 y0)))) = (((cenX (x1 - x0) (y1 - y0) (x2 - x0) (y2 - y0)) * (cenX (x1 - x0) (y1 - y0) (x2 - x0) (y2 - y0)) + (cenY (x1 - x0) (y1 - y0) (x2 - x0) (y2 - y0)) * (cenY (x1 - x0) (y1 - y0) (x2 - x0) (y2 - y0))) / (lm2 (fq2 x0 y0 x1 y1) (lm2 (fq2 x1 y1 x2 y2) (fq2 x2 y2 x0 y0)))) := by
    rw [← eL, c2, es, en, Rat.div_def, Rat.div_def, mul_inv2]
    have hr := Rat.mul_inv_cancel _ (pCA h)
    rw [show fq2 x0 y0 x1 y1 * fq2 x0 y0 x2 y2 * fq2 (x1 - x0) (y1 - y0) (x2 - x0) (y2 - y0) = (fq2 x2 y2 x0 y0) * ((fq2 x0 y0 x1 y1) * (fq2 x1 y1 x2 y2)) by grind, show fq2 x1 y1 x2 y2 * fq2 x1 y1 x0 y0 = (fq2 x0 y0 x1 y1) * (fq2 x1 y1 x2 y2) by grind]
    generalize ((nq6 x0 y0 x1 y1 x2 y2) + (nq6 x0 y0 x1 y1 x2 y2))⁻¹ = i
    generalize (fq2 x0 y0 x1 y1) * (fq2 x1 y1 x2 y2) = o
    generalize ((fq2 x2 y2 x0 y0))⁻¹ = l at *
    generalize (fq2 x2 y2 x0 y0) = a at *
    grind
   exact congrArg (fun q : Rat => (Value.tuple #[rq q, .int .i64 0])) ev.symm
 ·have e2 : decide ((ls2 (fq2 x0 y0 x1 y1) (fun k => if k = 0 then (fq2 x1 y1 x2 y2) else (fq2 x2 y2 x0 y0)) 2) = (fq2 x2 y2 x0 y0)) = false := decide_eq_false c2
  have c3 : (ls2 (fq2 x0 y0 x1 y1) (fun k => if k = 0 then (fq2 x1 y1 x2 y2) else (fq2 x2 y2 x0 y0)) 2) = (fq2 x1 y1 x2 y2) := by
   rcases eO with h | h | h
   ·exact absurd h c1
   ·exact h
   ·exact absurd h c2
  have en : (nq6 x0 y0 x1 y1 x2 y2) = (nq6 x0 y0 x1 y1 x2 y2) := by grind
  refine cRat_any _ _ _ _ _ _ _ _ _ _ _ _ _ _ _ _ _ _ _ _ _ _ _ _ _ _ _ _ _ _ 2 false false (x1 - x0) (y1 - y0) (x2 - x0) (y2 - y0) _ w hT (by simp) (chkI x0 y0 x1 y1 x2 y2 (by omega) b0 b1 b2 b3 b4 b5 w hT) (fun w1 b => farI x0 y0 x1 y1 (by omega) b0 b1 b2 b3 w1 (hT.below b)) (fun w1 b => farI x1 y1 x2 y2 (by omega) b2 b3 b4 b5 w1 (hT.below b)) (fun w1 b => farI x2 y2 x0 y0 (by omega) b4 b5 b0 b1 w1 (hT.below b)) (leastcI (fq2 x0 y0 x1 y1) (fq2 x1 y1 x2 y2) (fq2 x2 y2 x0 y0) (K := M) (by omega) ba bb bc w hT) (eqI (ls2 (fq2 x0 y0 x1 y1) (fun k => if k = 0 then (fq2 x1 y1 x2 y2) else (fq2 x2 y2 x0 y0)) 2) (fq2 x0 y0 x1 y1) e1) (eqI (ls2 (fq2 x0 y0 x1 y1) (fun k => if k = 0 then (fq2 x1 y1 x2 y2) else (fq2 x2 y2 x0 y0)) 2) (fq2 x2 y2 x0 y0) e2) (ofI x0 y0 x1 y1 (by omega) b0 b1 b2 b3) (ofI x0 y0 x2 y2 (by omega) b0 b1 b4 b5) ?_
  rcases hV with ⟨h, rfl⟩ | ⟨h, rfl⟩
  ·exact .inl ⟨en.trans h, rfl⟩
  ·refine .inr ⟨fun e => h (en.symm.trans e), ?_⟩
   have ev : (fq2 x0 y0 x1 y1 * fq2 x0 y0 x2 y2 / (((nq6 x0 y0 x1 y1 x2 y2) + (nq6 x0 y0 x1 y1 x2 y2)) * ((nq6 x0 y0 x1 y1 x2 y2) + (nq6 x0 y0 x1 y1 x2 y2)))) = (((cenX (x1 - x0) (y1 - y0) (x2 - x0) (y2 - y0)) * (cenX (x1 - x0) (y1 - y0) (x2 - x0) (y2 - y0)) + (cenY (x1 - x0) (y1 - y0) (x2 - x0) (y2 - y0)) * (cenY (x1 - x0) (y1 - y0) (x2 - x0) (y2 - y0))) / (lm2 (fq2 x0 y0 x1 y1) (lm2 (fq2 x1 y1 x2 y2) (fq2 x2 y2 x0 y0)))) := by
    rw [← eL, c3, es, en, Rat.div_def, Rat.div_def, mul_inv2]
    have hr := Rat.mul_inv_cancel _ (pBC h)
    rw [show fq2 x0 y0 x1 y1 * fq2 x0 y0 x2 y2 * fq2 (x1 - x0) (y1 - y0) (x2 - x0) (y2 - y0) = (fq2 x1 y1 x2 y2) * ((fq2 x0 y0 x1 y1) * (fq2 x2 y2 x0 y0)) by grind, show fq2 x0 y0 x1 y1 * fq2 x0 y0 x2 y2 = (fq2 x0 y0 x1 y1) * (fq2 x2 y2 x0 y0) by grind]
    generalize ((nq6 x0 y0 x1 y1 x2 y2) + (nq6 x0 y0 x1 y1 x2 y2))⁻¹ = i
    generalize (fq2 x0 y0 x1 y1) * (fq2 x2 y2 x0 y0) = o
    generalize ((fq2 x1 y1 x2 y2))⁻¹ = l at *
    generalize (fq2 x1 y1 x2 y2) = a at *
    grind
   exact congrArg (fun q : Rat => (Value.tuple #[rq q, .int .i64 0])) ev.symm
theorem shapes6_law (n0 n1 n2 n3 n4 n5 : Bool) (s0 d0 s1 d1 s2 d2 s3 d3 s4 d4 s5 d5 : ByteArray) (w : World) (hT : Tab w) :
  Calls Tryz.prog 5 #[.agg #[.bool n0, .string s0, .string d0, .bool n1, .string s1, .string d1, .bool n2, .string s2, .string d2, .bool n3, .string s3, .string d3, .bool n4, .string s4, .string d4, .bool n5, .string s5, .string d5]] w (Re w (.bool true)) := by
 have HL : Hid (∀ w1, Below w.heap.size w w1 → Calls Tryz.prog 19 #[] w1 (Re w1 (.bool true))) := fun w1 b => live6_any w1 (hT.below b)
 have hs := fun w1 => small6_any n0 n1 n2 n3 n4 n5 s0 d0 s1 d1 s2 d2 s3 d3 s4 d4 s5 d5 w1
 cases e1 : (sh6 s0 d0 && (sh6 s1 d1 && (sh6 s2 d2 && (sh6 s3 d3 && (sh6 s4 d4 && sh6 s5 d5))))) with
 | false => rw [e1] at hs; exact shapes6_l n0 n1 n2 n3 n4 n5 s0 d0 s1 d1 s2 d2 s3 d3 s4 d4 s5 d5 w hs HL
 | true =>
  rw [e1] at hs
  simp only [Bool.and_eq_true] at e1
  obtain ⟨q0, q1, q2, q3, q4, q5⟩ := e1
  have z0 := sh6_t q0; have z1 := sh6_t q1; have z2 := sh6_t q2; have z3 := sh6_t q3; have z4 := sh6_t q4; have z5 := sh6_t q5
  clear q0 q1 q2 q3 q4 q5
  have ha := fun w1 (_ : Below w.heap.size w w1) => asked6_any n0 n1 n2 n3 n4 n5 s0 d0 s1 d1 s2 d2 s3 d3 s4 d4 s5 d5 w1 (le100 z0) (le100 z1) (le100 z2) (le100 z3) (le100 z4) (le100 z5)
  by_cases hE : twoc (twoc (twoq n0 s0 d0 n1 s1 d1) (twoq n2 s2 d2 n3 s3 d3)) (twoq n4 s4 d4 n5 s5 d5) = 0
  case neg => exact shapes6_a n0 n1 n2 n3 n4 n5 s0 d0 s1 d1 s2 d2 s3 d3 s4 d4 s5 d5 _ w (by omega) hs (fun w1 b => cSharp_bad n0 n1 n2 n3 n4 n5 s0 d0 s1 d1 s2 d2 s3 d3 s4 d4 s5 d5 _ w1 (by omega) (fun w2 B b2 h => scheck3 B n0 n1 n2 n3 n4 n5 s0 d0 s1 d1 s2 d2 s3 d3 s4 d4 s5 d5 w2 (hT.below (Below.after b b2)) h (le100 z0) (le100 z1) (le100 z2) (le100 z3) (le100 z4) (le100 z5))) (fun w1 b => cArea_bad n0 n1 n2 n3 n4 n5 s0 d0 s1 d1 s2 d2 s3 d3 s4 d4 s5 d5 _ w1 (by omega) (fun w2 B b2 h => scheck3 B n0 n1 n2 n3 n4 n5 s0 d0 s1 d1 s2 d2 s3 d3 s4 d4 s5 d5 w2 (hT.below (Below.after b b2)) h (le100 z0) (le100 z1) (le100 z2) (le100 z3) (le100 z4) (le100 z5))) (fun w1 b => cRat_bad n0 n1 n2 n3 n4 n5 s0 d0 s1 d1 s2 d2 s3 d3 s4 d4 s5 d5 _ w1 (by omega) (fun w2 B b2 h => scheck3 B n0 n1 n2 n3 n4 n5 s0 d0 s1 d1 s2 d2 s3 d3 s4 d4 s5 d5 w2 (hT.below (Below.after b b2)) h (le100 z0) (le100 z1) (le100 z2) (le100 z3) (le100 z4) (le100 z5))) ha HL
  rw [hE] at ha
  simp only [two_zero, twoq_zero] at hE
  obtain ⟨⟨⟨a0, a1⟩, a2, a3⟩, a4, a5⟩ := hE
  obtain ⟨x0, b0, rfl, rfl, rfl⟩ := canon a0 z0
  obtain ⟨x1, b1, rfl, rfl, rfl⟩ := canon a1 z1
  obtain ⟨x2, b2, rfl, rfl, rfl⟩ := canon a2 z2
  obtain ⟨x3, b3, rfl, rfl, rfl⟩ := canon a3 z3
  obtain ⟨x4, b4, rfl, rfl, rfl⟩ := canon a4 z4
  obtain ⟨x5, b5, rfl, rfl, rfl⟩ := canon a5 z5
  by_cases c1 : x0 = x2 ∧ x1 = x3
  ·have hA : (x2 - x0) * (x5 - x1) - (x3 - x1) * (x4 - x0) = 0 := by obtain ⟨p, q⟩ := c1; grind
   exact shapes6_c _ _ _ _ _ _ _ _ _ _ _ _ _ _ _ _ _ _ _ _ _ _ _ w (.inl (decide_eq_true c1)) hs (fun w1 b => cSharp_flat1 (nfZ x0.num) (nfZ x1.num) (nfZ x2.num) (nfZ x3.num) (nfZ x4.num) (nfZ x5.num) (sfZ x0.num) (strOf x0.den) (sfZ x1.num) (strOf x1.den) (sfZ x2.num) (strOf x2.den) (sfZ x3.num) (strOf x3.den) (sfZ x4.num) (strOf x4.den) (sfZ x5.num) (strOf x5.den) w1 (chkI x0 x1 x2 x3 x4 x5 (K := 60) (by omega) b0 b1 b2 b3 b4 b5 w1 (hT.below b)) (eqPI x2 x3 x0 x1 (decide_eq_true ⟨c1.1.symm, c1.2.symm⟩))) (fun w1 b => areaI x0 x1 x2 x3 x4 x5 (K := 60) (by omega) b0 b1 b2 b3 b4 b5 w1 (hT.below b)) (fun w1 b => ratI x0 x1 x2 x3 x4 x5 (K := 60) (by omega) b0 b1 b2 b3 b4 b5 w1 (hT.below b) (.inl ⟨hA, rfl⟩)) ha (fun w1 _ => rareaI x0 x1 x2 x3 x4 x5 (K := 60) (by omega) b0 b1 b2 b3 b4 b5 w1) (eqPI x0 x1 x2 x3 rfl) (eqPI x2 x3 x4 x5 rfl) (fun w1 _ => by have := rorientI x0 x1 x2 x3 x4 x5 (K := 60) (by omega) b0 b1 b2 b3 b4 b5 w1; rwa [show Gm.sg (Gm.cr x0 x1 x2 x3 x4 x5) = 0 from by unfold Gm.cr; rw [hA]; rfl] at this) HL
  by_cases c2 : x2 = x4 ∧ x3 = x5
  ·have hA : (x2 - x0) * (x5 - x1) - (x3 - x1) * (x4 - x0) = 0 := by obtain ⟨p, q⟩ := c2; grind
   exact shapes6_c _ _ _ _ _ _ _ _ _ _ _ _ _ _ _ _ _ _ _ _ _ _ _ w (.inr ⟨decide_eq_false c1, decide_eq_true c2⟩) hs (fun w1 b => cSharp_flat2 (nfZ x0.num) (nfZ x1.num) (nfZ x2.num) (nfZ x3.num) (nfZ x4.num) (nfZ x5.num) (sfZ x0.num) (strOf x0.den) (sfZ x1.num) (strOf x1.den) (sfZ x2.num) (strOf x2.den) (sfZ x3.num) (strOf x3.den) (sfZ x4.num) (strOf x4.den) (sfZ x5.num) (strOf x5.den) w1 (chkI x0 x1 x2 x3 x4 x5 (K := 60) (by omega) b0 b1 b2 b3 b4 b5 w1 (hT.below b)) (eqPI x2 x3 x0 x1 (decide_eq_false (fun e => c1 ⟨e.1.symm, e.2.symm⟩))) (eqPI x2 x3 x4 x5 (decide_eq_true c2))) (fun w1 b => areaI x0 x1 x2 x3 x4 x5 (K := 60) (by omega) b0 b1 b2 b3 b4 b5 w1 (hT.below b)) (fun w1 b => ratI x0 x1 x2 x3 x4 x5 (K := 60) (by omega) b0 b1 b2 b3 b4 b5 w1 (hT.below b) (.inl ⟨hA, rfl⟩)) ha (fun w1 _ => rareaI x0 x1 x2 x3 x4 x5 (K := 60) (by omega) b0 b1 b2 b3 b4 b5 w1) (eqPI x0 x1 x2 x3 rfl) (eqPI x2 x3 x4 x5 rfl) (fun w1 _ => by have := rorientI x0 x1 x2 x3 x4 x5 (K := 60) (by omega) b0 b1 b2 b3 b4 b5 w1; rwa [show Gm.sg (Gm.cr x0 x1 x2 x3 x4 x5) = 0 from by unfold Gm.cr; rw [hA]; rfl] at this) HL
  have hc1 : ¬ (x2 = x0 ∧ x3 = x1) := fun e => c1 ⟨e.1.symm, e.2.symm⟩
  by_cases hA : (x2 - x0) * (x5 - x1) - (x3 - x1) * (x4 - x0) = 0
  ·exact shapes6_f _ _ _ _ _ _ _ _ _ _ _ _ _ _ _ _ _ _ _ _ _ _ w hs (fun w1 b => sharpI x0 x1 x2 x3 x4 x5 (K := 60) (by omega) b0 b1 b2 b3 b4 b5 w1 (hT.below b) hc1 c2) (fun w1 b => areaI x0 x1 x2 x3 x4 x5 (K := 60) (by omega) b0 b1 b2 b3 b4 b5 w1 (hT.below b)) (fun w1 b => ratI x0 x1 x2 x3 x4 x5 (K := 60) (by omega) b0 b1 b2 b3 b4 b5 w1 (hT.below b) (.inl ⟨hA, rfl⟩)) ha (fun w1 _ => rareaI x0 x1 x2 x3 x4 x5 (K := 60) (by omega) b0 b1 b2 b3 b4 b5 w1) (eqPI x0 x1 x2 x3 (decide_eq_false c1)) (eqPI x2 x3 x4 x5 (decide_eq_false c2)) (fun w1 _ => rsharpI x0 x1 x2 x3 x4 x5 (K := 60) (by omega) b0 b1 b2 b3 b4 b5 w1) (fun w1 _ => by have := rorientI x0 x1 x2 x3 x4 x5 (K := 60) (by omega) b0 b1 b2 b3 b4 b5 w1; rwa [show Gm.sg (Gm.cr x0 x1 x2 x3 x4 x5) = 0 from by unfold Gm.cr; rw [hA]; rfl] at this) HL
  ·have hn : ¬ (lm2 (fq2 x0 x1 x2 x3) (lm2 (fq2 x2 x3 x4 x5) (fq2 x4 x5 x0 x1))) = 0 := fun e => by
    rcases ls2_one (fq2 x0 x1 x2 x3) (fq2 x2 x3 x4 x5) (fq2 x4 x5 x0 x1) with k | k | k
    ·rw [k] at e; obtain ⟨p, q⟩ := Gm.norm_zero e; exact hA (by rw [p, q]; grind)
    ·rw [k] at e; obtain ⟨p, q⟩ := Gm.norm_zero e; exact hA (by grind)
    ·rw [k] at e; obtain ⟨p, q⟩ := Gm.norm_zero e; exact hA (by grind)
   exact shapes6_ok _ _ _ _ _ _ _ _ _ _ _ _ _ _ _ _ _ _ _ _ _ _ _ _ _ _ w (sg_ne (x := Gm.cr x0 x1 x2 x3 x4 x5) hA) hs (fun w1 b => sharpI x0 x1 x2 x3 x4 x5 (K := 60) (by omega) b0 b1 b2 b3 b4 b5 w1 (hT.below b) hc1 c2) (fun w1 b => areaI x0 x1 x2 x3 x4 x5 (K := 60) (by omega) b0 b1 b2 b3 b4 b5 w1 (hT.below b)) (fun w1 b => ratI x0 x1 x2 x3 x4 x5 (K := 60) (by omega) b0 b1 b2 b3 b4 b5 w1 (hT.below b) (.inr ⟨hA, rfl⟩)) ha (fun w1 _ => rareaI x0 x1 x2 x3 x4 x5 (K := 60) (by omega) b0 b1 b2 b3 b4 b5 w1) (eqPI x0 x1 x2 x3 (decide_eq_false c1)) (eqPI x2 x3 x4 x5 (decide_eq_false c2)) (fun w1 _ => rsharpI x0 x1 x2 x3 x4 x5 (K := 60) (by omega) b0 b1 b2 b3 b4 b5 w1) (fun w1 _ => by have := rorientI x0 x1 x2 x3 x4 x5 (K := 60) (by omega) b0 b1 b2 b3 b4 b5 w1; exact this) (fun w1 _ => rratioI x0 x1 x2 x3 x4 x5 (K := 60) (by omega) b0 b1 b2 b3 b4 b5 w1 hA hn) HL
end Go.Proofs.YtiiigiggcbbgjaaGreatDoor
