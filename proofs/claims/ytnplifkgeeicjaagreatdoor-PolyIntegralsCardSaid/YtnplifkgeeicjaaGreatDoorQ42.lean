import Derived.Test.YtnplifkgeeicjaaGreatDoorQ39
import Derived.Test.YtnplifkgeeicjaaGreatDoorQ41
set_option maxRecDepth 100000
set_option maxHeartbeats 16000000
namespace Go.Proofs.YtnplifkgeeicjaaGreatDoor
open Go.RowKit Go.Shelf
theorem C5 (x y : Rat) {K : Nat} (hK : K ≤ 4000) (bx : Bq x K) (bY : Bq y K) (w : World) :
  Calls Tryz.prog 36 #[(Bo (Bs (x).num) (Bp (x).num) (Bf (x).den)), (Bo (Bs (y).num) (Bp (y).num) (Bf (y).den))] w (Re w ((Bo (Bs (x * y).num) (Bp (x * y).num) (Bf (x * y).den)))) := by
 have zx := bx.2.size
 have zy := bY.2.size
 have := Ry (Bs x.num) (Bs y.num) (Bp x.num) (Bf x.den) (Bp y.num) (Bf y.den) w (Fk x) (Fk y) hK bx.1.size (by simpa using zx) bY.1.size (by simpa using zy)
 rw [show Gh (Bs x.num) (Bp x.num) (Bf x.den) = x from Hr x, show Gh (Bs y.num) (Bp y.num) (Bf y.den) = y from Hr y] at this
 exact this
theorem F7 (x y : Rat) {K : Nat} (hK : K ≤ 4000) (bx : Bq x K) (bY : Bq y K) (w : World) :
  Calls Tryz.prog 41 #[(Bo (Bs (x).num) (Bp (x).num) (Bf (x).den)), (Bo (Bs (y).num) (Bp (y).num) (Bf (y).den))] w (Re w ((Bo (Bs (x + y).num) (Bp (x + y).num) (Bf (x + y).den)))) := by
 have zx := bx.2.size
 have zy := bY.2.size
 have := Pc (Bs x.num) (Bs y.num) (Bp x.num) (Bf x.den) (Bp y.num) (Bf y.den) w (Fk x) (Fk y) hK bx.1.size (by simpa using zx) bY.1.size (by simpa using zy)
 rw [show Gh (Bs x.num) (Bp x.num) (Bf x.den) = x from Hr x, show Gh (Bs y.num) (Bp y.num) (Bf y.den) = y from Hr y] at this
 exact this
theorem Nr (x y : Rat) {K : Nat} (hK : K ≤ 4000) (bx : Bq x K) (bY : Bq y K) (w : World) :
  Calls Tryz.prog 80 #[(Bo (Bs (x).num) (Bp (x).num) (Bf (x).den)), (Bo (Bs (y).num) (Bp (y).num) (Bf (y).den))] w (Re w ((Bo (Bs (x - y).num) (Bp (x - y).num) (Bf (x - y).den)))) := by
 have zx := bx.2.size
 have zy := bY.2.size
 have := Ub (Bs x.num) (Bs y.num) (Bp x.num) (Bf x.den) (Bp y.num) (Bf y.den) w (Fk x) (Fk y) hK bx.1.size (by simpa using zx) bY.1.size (by simpa using zy)
 rw [show Gh (Bs x.num) (Bp x.num) (Bf x.den) = x from Hr x, show Gh (Bs y.num) (Bp y.num) (Bf y.den) = y from Hr y] at this
 exact this
open Go.RowKit
theorem Fm {x : Rat} {K M : Nat} (hK : K ≤ M) (b : Bq x K) : (Bp x.num).size ≤ M ∧ (Bf x.den).size ≤ M := by
 have h1 : (Bp x.num).size ≤ K := b.1.size
 have h2 := b.2.size
 simp at h2
 omega
theorem C0 (x : Rat) {K : Nat} (hK : K ≤ 4000) (b : Bq x K) : Bt (Bs x.num) (Bp x.num) (Bf x.den) = 0 :=
 Q6 (Fk x) (by have := (Fm (M := 4000) hK b).1; omega) (by have := (Fm (M := 4000) hK b).2; omega)
theorem Bdh (x y k : Rat) {K : Nat} (hK : K ≤ 4000) (b0 : Bq x K) (b1 : Bq y K) (b2 : Bq k K) (w : World) : Calls Tryz.prog 138 #[(B4 (Bs (x).num) (Bp (x).num) (Bf (x).den) (Bs (y).num) (Bp (y).num) (Bf (y).den)), (Bo (Bs (k).num) (Bp (k).num) (Bf (k).den))] w (Re w ((B4 (Bs (x * k).num) (Bp (x * k).num) (Bf (x * k).den) (Bs (y * k).num) (Bp (y * k).num) (Bf (y * k).den)))) :=
 R8 _ _ _ _ _ _ _ _ _ _ _ _ _ _ _ w (fun w1 => C5 x k hK b0 b2 w1) (fun w1 => C5 y k hK b1 b2 w1)
theorem Bf7 (x y x' y' : Rat) {K : Nat} (hK : K ≤ 4000) (b0 : Bq x K) (b1 : Bq y K) (b2 : Bq x' K) (b3 : Bq y' K) (w : World) : Calls Tryz.prog 139 #[(B4 (Bs (x).num) (Bp (x).num) (Bf (x).den) (Bs (y).num) (Bp (y).num) (Bf (y).den)), (B4 (Bs (x').num) (Bp (x').num) (Bf (x').den) (Bs (y').num) (Bp (y').num) (Bf (y').den))] w (Re w ((B4 (Bs (x + x').num) (Bp (x + x').num) (Bf (x + x').den) (Bs (y + y').num) (Bp (y + y').num) (Bf (y + y').den)))) :=
 R9 _ _ _ _ _ _ _ _ _ _ _ _ _ _ _ _ _ _ w (fun w1 => F7 x x' hK b0 b2 w1) (fun w1 => F7 y y' hK b1 b3 w1)
theorem Bax {w : World} {B : Nat} {t : TypeId} {n0 n1 n2 n3 n4 n5 : Bool} {s0 d0 s1 d1 s2 d2 s3 d3 s4 d4 s5 d5 : ByteArray} (h : Be w B (Di n0 s0 d0 n1 s1 d1 n2 s2 d2 n3 s3 d3 n4 s4 d4 n5 s5 d5) t) : O7 w (some ⟨B, 0, none⟩) 3 (f4 n0 n2 n4 n4) (f4 s0 s2 s4 s4) (f4 d0 d2 d4 d4) (f4 n1 n3 n5 n5) (f4 s1 s3 s5 s5) (f4 d1 d3 d5 d5) := by
 intro j hj
 refine ⟨B, 0, rfl, ?_⟩
 match j, hj with
 | 0, _ => exact ⟨h.cell 0, h.cell 1, h.cell 2, h.cell 3, h.cell 4, h.cell 5⟩
 | 1, _ => exact ⟨h.cell 6, h.cell 7, h.cell 8, h.cell 9, h.cell 10, h.cell 11⟩
 | 2, _ => exact ⟨h.cell 12, h.cell 13, h.cell 14, h.cell 15, h.cell 16, h.cell 17⟩
theorem Bdb (B : Nat) (n0 n1 n2 n3 n4 n5 : Bool) (s0 d0 s1 d1 s2 d2 s3 d3 s4 d4 s5 d5 : ByteArray) (w : World) (hT : Fi w) (h : Be w B (Di n0 s0 d0 n1 s1 d1 n2 s2 d2 n3 s3 d3 n4 s4 d4 n5 s5 d5) 30) (z0 : s0.size ≤ 100 ∧ d0.size ≤ 100) (z1 : s1.size ≤ 100 ∧ d1.size ≤ 100) (z2 : s2.size ≤ 100 ∧ d2.size ≤ 100) (z3 : s3.size ≤ 100 ∧ d3.size ≤ 100) (z4 : s4.size ≤ 100 ∧ d4.size ≤ 100) (z5 : s5.size ≤ 100 ∧ d5.size ≤ 100) :
  Calls Tryz.prog 119 #[.slice (some ⟨B, 0, none⟩) 3 3] w fun e w' => e = .returned (.int .i64 (Fy (Fy (Kp n0 s0 d0 n1 s1 d1) (Kp n2 s2 d2 n3 s3 d3)) (Kp n4 s4 d4 n5 s5 d5) : Nat)) ∧ Below w.heap.size w w' := by
 refine Mk (some ⟨B, 0, none⟩) 3 3 _ _ _ _ _ _ (f4 (Kp n0 s0 d0 n1 s1 d1) (Kp n2 s2 d2 n3 s3 d3) (Kp n4 s4 d4 n5 s5 d5) 0) w (by omega) (Bax h) (fun j hj => ?_) (fun j w1 hj b => ?_)
 ·match j, hj with
  | 0, _ => exact ⟨z0.1, z0.2, z1.1, z1.2⟩
  | 1, _ => exact ⟨z2.1, z2.2, z3.1, z3.2⟩
  | 2, _ => exact ⟨z4.1, z4.2, z5.1, z5.2⟩
 ·match j, hj with
  | 0, _ => exact Fx n0 n1 s0 d0 s1 d1 w1 (hT.b b)
  | 1, _ => exact Fx n2 n3 s2 d2 s3 d3 w1 (hT.b b)
  | 2, _ => exact Fx n4 n5 s4 d4 s5 d5 w1 (hT.b b)
theorem Bgb {w : World} {B : Nat} {t : TypeId} {n0 n1 n2 n3 : Bool} {s0 d0 s1 d1 s2 d2 s3 d3 : ByteArray} (h : Be w B [Iz n0, I s0, I d0, Iz n1, I s1, I d1, Iz n2, I s2, I d2, Iz n3, I s3, I d3] t) : O7 w (some ⟨B, 0, none⟩) 2 (f4 n0 n2 n2 n2) (f4 s0 s2 s2 s2) (f4 d0 d2 d2 d2) (f4 n1 n3 n3 n3) (f4 s1 s3 s3 s3) (f4 d1 d3 d3 d3) := by
 intro j hj
 refine ⟨B, 0, rfl, ?_⟩
 match j, hj with
 | 0, _ => exact ⟨h.cell 0, h.cell 1, h.cell 2, h.cell 3, h.cell 4, h.cell 5⟩
 | 1, _ => exact ⟨h.cell 6, h.cell 7, h.cell 8, h.cell 9, h.cell 10, h.cell 11⟩
theorem Bdc (B : Nat) (n0 n1 n2 n3 : Bool) (s0 d0 s1 d1 s2 d2 s3 d3 : ByteArray) (w : World) (hT : Fi w) (h : Be w B [Iz n0, I s0, I d0, Iz n1, I s1, I d1, Iz n2, I s2, I d2, Iz n3, I s3, I d3] 30) (z0 : s0.size ≤ 100 ∧ d0.size ≤ 100) (z1 : s1.size ≤ 100 ∧ d1.size ≤ 100) (z2 : s2.size ≤ 100 ∧ d2.size ≤ 100) (z3 : s3.size ≤ 100 ∧ d3.size ≤ 100) :
  Calls Tryz.prog 119 #[.slice (some ⟨B, 0, none⟩) 2 2] w (Re w (.int .i64 (Fy (Kp n0 s0 d0 n1 s1 d1) (Kp n2 s2 d2 n3 s3 d3) : Nat))) := by
 refine Mk (some ⟨B, 0, none⟩) 2 2 _ _ _ _ _ _ (f4 (Kp n0 s0 d0 n1 s1 d1) (Kp n2 s2 d2 n3 s3 d3) 0 0) w (by omega) (Bgb h) (fun j hj => ?_) (fun j w1 hj b => ?_)
 ·match j, hj with
  | 0, _ => exact ⟨z0.1, z0.2, z1.1, z1.2⟩
  | 1, _ => exact ⟨z2.1, z2.2, z3.1, z3.2⟩
 ·match j, hj with
  | 0, _ => exact Fx n0 n1 s0 d0 s1 d1 w1 (hT.b b)
  | 1, _ => exact Fx n2 n3 s2 d2 s3 d3 w1 (hT.b b)
theorem Bf4 (x : Rat) (w : World) : Calls Tryz.prog 71 #[(Bo (Bs (x).num) (Bp (x).num) (Bf (x).den))] w (Re w (.int .i64 (Gm.sg x))) := by
 rcases Gm.sg_cases x with ⟨h, e⟩ | ⟨h, e⟩ | ⟨h, e⟩
 ·rw [e, h]
  exact T6 _ w
 ·rw [e]
  have hp := Gm.num_pos h
  have h1 : Bs x.num = false := by unfold Bs; exact decide_eq_false (by omega)
  have h2 : (Bp x.num).toList.isEmpty = false := by
   unfold Bp
   rw [Gf]
   exact decide_eq_false (by omega)
  rw [h1]
  exact Xy _ _ h2 w
 ·rw [e]
  have hp := Gm.num_pos (q := -x) (by grind)
  rw [Rat.neg_num] at hp
  have h1 : Bs x.num = true := by unfold Bs; exact decide_eq_true (by omega)
  rw [h1]
  exact Xz _ _ w
theorem M5 (x y x' y' : Rat) {K : Nat} (hK : K ≤ 4000) (b0 : Bq x K) (b1 : Bq y K) (b2 : Bq x' K) (b3 : Bq y' K) (w : World) : Calls Tryz.prog 73 #[(B4 (Bs (x).num) (Bp (x).num) (Bf (x).den) (Bs (y).num) (Bp (y).num) (Bf (y).den)), (B4 (Bs (x').num) (Bp (x').num) (Bf (x').den) (Bs (y').num) (Bp (y').num) (Bf (y').den))] w (Re w ((B4 (Bs (x - x').num) (Bp (x - x').num) (Bf (x - x').den) (Bs (y - y').num) (Bp (y - y').num) (Bf (y - y').den)))) :=
 Qd _ _ _ _ _ _ _ _ _ _ _ _ _ _ _ _ _ _ w (fun w1 => Nr x x' hK b0 b2 w1) (fun w1 => Nr y y' hK b1 b3 w1)
theorem We (x y x' y' : Rat) {K : Nat} (hK : K + K + 1 ≤ 4000) (b0 : Bq x K) (b1 : Bq y K) (b2 : Bq x' K) (b3 : Bq y' K) (w : World) : Calls Tryz.prog 72 #[(B4 (Bs (x).num) (Bp (x).num) (Bf (x).den) (Bs (y).num) (Bp (y).num) (Bf (y).den)), (B4 (Bs (x').num) (Bp (x').num) (Bf (x').den) (Bs (y').num) (Bp (y').num) (Bf (y').den))] w (Re w ((Bo (Bs (x * y' - y * x').num) (Bp (x * y' - y * x').num) (Bf (x * y' - y * x').den)))) :=
 Qf _ _ _ _ _ _ _ _ _ _ _ _ _ _ _ _ _ _ _ _ _ w (fun w1 => C5 x y' (K := K) (by omega) b0 b3 w1) (fun w1 => C5 y x' (K := K) (by omega) b1 b2 w1) (fun w1 => Nr (x * y') (y * x') hK (Zr b0 b3) (Zr b1 b2) w1)
theorem Bal (x0 y0 x1 y1 x2 y2 : Rat) {K : Nat} (hK : K ≤ 100) (b0 : Bq x0 K) (e0 : Bq y0 K) (b1 : Bq x1 K) (e1 : Bq y1 K) (b2 : Bq x2 K) (e2 : Bq y2 K) (w : World) : Calls Tryz.prog 35 #[(B4 (Bs (x0).num) (Bp (x0).num) (Bf (x0).den) (Bs (y0).num) (Bp (y0).num) (Bf (y0).den)), (B4 (Bs (x1).num) (Bp (x1).num) (Bf (x1).den) (Bs (y1).num) (Bp (y1).num) (Bf (y1).den)), (B4 (Bs (x2).num) (Bp (x2).num) (Bf (x2).den) (Bs (y2).num) (Bp (y2).num) (Bf (y2).den))] w (Re w (.int .i64 (Gm.sg (Gm.cr x0 y0 x1 y1 x2 y2)))) :=
 Qc _ _ _ _ _ _ _ _ _ _ _ _ _ _ _ _ _ _ _ _ _ _ _ _ _ _ _ _ _ _ _ _ _ _ w (fun w1 => M5 x1 y1 x0 y0 (K := K) (by omega) b1 e1 b0 e0 w1) (fun w1 => M5 x2 y2 x0 y0 (K := K) (by omega) b2 e2 b0 e0 w1) (fun w1 => We (x1 - x0) (y1 - y0) (x2 - x0) (y2 - y0) (K := (K + K + 1)) (by omega) (Pu b1 b0) (Pu e1 e0) (Pu b2 b0) (Pu e2 e0) w1) (fun w1 => Bf4 _ w1)
theorem Bdq (x : Rat) : Gh (Bs x.num) (Bp x.num) (Bf x.den) = x := Hr x
theorem Bcj (n0 n1 n2 n3 n4 n5 : Bool) (s0 d0 s1 d1 s2 d2 s3 d3 s4 d4 s5 d5 : ByteArray) (ux uy vx vy : Rat) (w : World) (hT : Fi w)
  (HC : Hid (∀ (w1 : World) (B : Nat), Below w.heap.size w w1 → Be w1 B (Di n0 s0 d0 n1 s1 d1 n2 s2 d2 n3 s3 d3 n4 s4 d4 n5 s5 d5) 30 → Calls Tryz.prog 119 #[.slice (some ⟨B, 0, none⟩) 3 3] w1 (Re w1 (.int .i64 0))))
  (H1 : Hid (∀ w1, Calls Tryz.prog 120 #[(B4 n0 s0 d0 n1 s1 d1), (B4 n2 s2 d2 n3 s3 d3)] w1 fun e w' => ∃ m0 a0 l0 c0 m1 a1 l1 c1 a2 l2 c2 X Y U, e = .returned (.agg #[Iz m0, .slice a0 l0 c0, Iz m1, .slice a1 l1 c1, Iz false, .slice a2 l2 c2]) ∧ SpV w' m0 a0 l0 c0 m1 a1 l1 c1 a2 l2 c2 X Y U ux uy ∧ Below w1.heap.size w1 w'))
  (H2 : Hid (∀ w1, Calls Tryz.prog 120 #[(B4 n0 s0 d0 n1 s1 d1), (B4 n4 s4 d4 n5 s5 d5)] w1 fun e w' => ∃ m0 a0 l0 c0 m1 a1 l1 c1 a2 l2 c2 X Y U, e = .returned (.agg #[Iz m0, .slice a0 l0 c0, Iz m1, .slice a1 l1 c1, Iz false, .slice a2 l2 c2]) ∧ SpV w' m0 a0 l0 c0 m1 a1 l1 c1 a2 l2 c2 X Y U vx vy ∧ Below w1.heap.size w1 w')) :
  Calls Tryz.prog 60 #[(B4 n0 s0 d0 n1 s1 d1), (B4 n2 s2 d2 n3 s3 d3), (B4 n4 s4 d4 n5 s5 d5)] w (Re w (.tuple #[(Bo (Bs (ux * vy - uy * vx).num) (Bp (ux * vy - uy * vx).num) (Bf (ux * vy - uy * vx).den)), .int .i64 0])) := by
 go_enter Tryz.func60, Tryz.ntmps60
 go_wp2_with fail
 obtain ⟨w0, hw, ka, kb, kc, kr, kl, bb⟩ := mk5 w (Cn n0 s0 d0 n1 s1 d1) (Cn n2 s2 d2 n3 s3 d3) (Cn n4 s4 d4 n5 s5 d5) (Bx false eB eB) (Di n0 s0 d0 n1 s1 d1 n2 s2 d2 n3 s3 d3 n4 s4 d4 n5 s5 d5) 30 30 30 26 30
 rw [← hw]
 clear hw
 go_fit (HC.out _ _ bb kl)
 rintro e w1 ⟨rfl, b1⟩
 replace ka := ka.b b1
 replace kb := kb.b b1
 replace kc := kc.b b1
 replace kr := kr.b b1
 replace bb := Ia bb b1
 clear b1 kl
 have tr := kr.lt
 obtain ⟨ca_0, ca_1, ca_2, ca_3, ca_4, ca_5⟩ := Cw ka
 obtain ⟨cb_6, cb_7, cb_8, cb_9, cb_10, cb_11⟩ := Cw kb
 obtain ⟨cc_12, cc_13, cc_14, cc_15, cc_16, cc_17⟩ := Cw kc
 go_wp2_with fail
 clear ca_0 ca_1 ca_2 ca_3 ca_4 ca_5 cb_6 cb_7 cb_8 cb_9 cb_10 cb_11 cc_12 cc_13 cc_14 cc_15 cc_16 cc_17
 have mk : Hid (∀ w', SB w1 w' → Gl w' w.heap.size (Iz n0) (I s0) (I d0) (Iz n1) (I s1) (I d1) ∧ Gl w' (w.heap.size + 1) (Iz n2) (I s2) (I d2) (Iz n3) (I s3) (I d3) ∧ Gl w' (w.heap.size + 1 + 1) (Iz n4) (I s4) (I d4) (Iz n5) (I s5) (I d5)) := fun w' h => ⟨Cw (ka.b h), Cw (kb.b h), Cw (kc.b h)⟩
 go_cut [9, 10] from 20 to 25 (fun v u wx => ∃ gc gd m1 a1 l1 c1 m2 a2 l2 c2 a3 l3 c3 X1 Y1 U1 m4 a4 l4 c4 m5 a5 l5 c5 a6 l6 c6 X4 Y4 U4, v = .pointer (some ⟨gc, 0, none⟩) ∧ u = .pointer (some ⟨gd, 0, none⟩) ∧ w1.heap.size ≤ gc ∧ w1.heap.size ≤ gd ∧ Be wx gc [Iz m1, .slice a1 l1 c1, Iz m2, .slice a2 l2 c2, Iz false, .slice a3 l3 c3] 176 ∧ Be wx gd [Iz m4, .slice a4 l4 c4, Iz m5, .slice a5 l5 c5, Iz false, .slice a6 l6 c6] 176 ∧ SpV wx m1 a1 l1 c1 m2 a2 l2 c2 a3 l3 c3 X1 Y1 U1 ux uy ∧ SpV wx m4 a4 l4 c4 m5 a5 l5 c5 a6 l6 c6 X4 Y4 U4 vx vy ∧ Below w1.heap.size w1 wx)
 case first =>
  clear HC
  refine Jc (S := SB w1) (by kernel_rfl) (Cd _) (fun bc => ?_)
  refine WA.start (n := 10) (by kernel_rfl) ?_
  refine WA.tl 0 rfl ?_
  refine WA.tl 1 rfl ?_
  refine WA.tl 3 rfl ?_
  refine WA.tl 4 rfl ?_
  refine WA.gen2 (i := 6) (s := 9) (i' := 7) (s' := 10) undef undef (Pt w1 [Iz false, .slice none 0 0, Iz false, .slice none 0 0, Iz false, .slice none 0 0] 176) (Pt w1 [Iz false, .slice none 0 0, Iz false, .slice none 0 0, Iz false, .slice none 0 0] 176) (fun b b' x x' hz hy hn => ?_)
  simp only [Jp]
  replace hz := P2.mk hz hy hn
  clear hy hn
  revert b b' x x'
  refine WA.two 10 27 2 6 7 rfl rfl rfl bc ?_
  clear bc
  intro b b' x x' w' hz bx bc K hK
  clear bx
  simp only [Jq]
  go_simp
  go_fit (H1.out _)
  rintro e wn ⟨m1, a1, l1, c1, m2, a2, l2, c2, a3, l3, c3, X1, Y1, U1, rfl, sv1, bn⟩
  replace bc := Ia bc bn
  try go_wp2_with fail
  refine hK.out _ _ bc (fun _ => ?_)
  replace hz := hz.b bn
  clear hK K bn
  revert b b' x x'
  refine WA.two 10 31 5 6 7 rfl rfl rfl bc ?_
  clear bc
  intro b b' x x' w' hz bx bc K hK
  replace sv1 := sv1.b bx
  clear bx
  simp only [Jq]
  go_simp
  go_fit (H2.out _)
  rintro e wn ⟨m4, a4, l4, c4, m5, a5, l5, c5, a6, l6, c6, X4, Y4, U4, rfl, sv4, bn⟩
  replace bc := Ia bc bn
  try go_wp2_with fail
  refine hK.out _ _ bc (fun _ => ?_)
  replace hz := hz.b bn
  replace sv1 := sv1.b bn
  clear hK K bn
  revert b b' x x'
  refine WA.fin2 6 7 rfl rfl bc ?_
  clear bc
  intro x x' w' hz bx bc
  replace sv1 := sv1.b bx
  replace sv4 := sv4.b bx
  obtain ⟨g0, rfl, h0, k0⟩ := hz.p rfl
  obtain ⟨g1, rfl, h1, k1⟩ := hz.p' rfl
  have n01 : ¬ g0 = g1 := fun e => hz.ne rfl rfl (by rw [e])
  clear bx hz
  have e0_0 := K4 k0
  have f0_0 := Be.o k0 0
  have e0_1 := K0 k0
  have f0_1 := Be.o k0 1
  have e0_2 := Kz k0
  have f0_2 := Be.o k0 2
  have e0_3 := Hd k0
  have f0_3 := Be.o k0 3
  have e0_4 := Hc k0
  have f0_4 := Be.o k0 4
  have e0_5 := Hb k0
  have f0_5 := Be.o k0 5
  refine WA.call 8 rfl (fun K hK => ?_)
  simp only [Jq]
  go_simp
  try go_wp2_with fail
  clear e0_0 f0_0 e0_1 f0_1 e0_2 f0_2 e0_3 f0_3 e0_4 f0_4 e0_5 f0_5
  refine hK.out _ _ (Bi (Bi (Bi (Bi (Bi (Bi bc h0 0 (Iz m1)) h0 1 (.slice a1 l1 c1)) h0 2 (Iz m2)) h0 3 (.slice a2 l2 c2)) h0 4 (Iz false)) h0 5 (.slice a3 l3 c3)) (fun hS => ?_)
  clear hK K
  replace sv1 := sv1.set6 k0 (Iz m1) (.slice a1 l1 c1) (Iz m2) (.slice a2 l2 c2) (Iz false) (.slice a3 l3 c3)
  replace sv4 := sv4.set6 k0 (Iz m1) (.slice a1 l1 c1) (Iz m2) (.slice a2 l2 c2) (Iz false) (.slice a3 l3 c3)
  replace k0 := (Be.set (Be.set (Be.set (Be.set (Be.set (Be.set k0 0 (Iz m1)) 1 (.slice a1 l1 c1)) 2 (Iz m2)) 3 (.slice a2 l2 c2)) 4 (Iz false)) 5 (.slice a3 l3 c3))
  replace k1 := (Be.w (Be.w (Be.w (Be.w (Be.w (Be.w k1 (fun e => n01 e.symm) 0 (Iz m1)) (fun e => n01 e.symm) 1 (.slice a1 l1 c1)) (fun e => n01 e.symm) 2 (Iz m2)) (fun e => n01 e.symm) 3 (.slice a2 l2 c2)) (fun e => n01 e.symm) 4 (Iz false)) (fun e => n01 e.symm) 5 (.slice a3 l3 c3))
  replace bc := (Bi (Bi (Bi (Bi (Bi (Bi bc h0 0 (Iz m1)) h0 1 (.slice a1 l1 c1)) h0 2 (Iz m2)) h0 3 (.slice a2 l2 c2)) h0 4 (Iz false)) h0 5 (.slice a3 l3 c3))
  have e1_0 := K4 k1
  have f1_0 := Be.o k1 0
  have e1_1 := K0 k1
  have f1_1 := Be.o k1 1
  have e1_2 := Kz k1
  have f1_2 := Be.o k1 2
  have e1_3 := Hd k1
  have f1_3 := Be.o k1 3
  have e1_4 := Hc k1
  have f1_4 := Be.o k1 4
  have e1_5 := Hb k1
  have f1_5 := Be.o k1 5
  refine WA.call 9 rfl (fun K hK => ?_)
  simp only [Jq]
  go_simp
  try go_wp2_with fail
  clear e1_0 f1_0 e1_1 f1_1 e1_2 f1_2 e1_3 f1_3 e1_4 f1_4 e1_5 f1_5
  refine hK.out _ _ (Bi (Bi (Bi (Bi (Bi (Bi bc h1 0 (Iz m4)) h1 1 (.slice a4 l4 c4)) h1 2 (Iz m5)) h1 3 (.slice a5 l5 c5)) h1 4 (Iz false)) h1 5 (.slice a6 l6 c6)) (fun hS => ?_)
  clear hK K
  replace sv1 := sv1.set6 k1 (Iz m4) (.slice a4 l4 c4) (Iz m5) (.slice a5 l5 c5) (Iz false) (.slice a6 l6 c6)
  replace sv4 := sv4.set6 k1 (Iz m4) (.slice a4 l4 c4) (Iz m5) (.slice a5 l5 c5) (Iz false) (.slice a6 l6 c6)
  replace k0 := (Be.w (Be.w (Be.w (Be.w (Be.w (Be.w k0 n01 0 (Iz m4)) n01 1 (.slice a4 l4 c4)) n01 2 (Iz m5)) n01 3 (.slice a5 l5 c5)) n01 4 (Iz false)) n01 5 (.slice a6 l6 c6))
  replace k1 := (Be.set (Be.set (Be.set (Be.set (Be.set (Be.set k1 0 (Iz m4)) 1 (.slice a4 l4 c4)) 2 (Iz m5)) 3 (.slice a5 l5 c5)) 4 (Iz false)) 5 (.slice a6 l6 c6))
  replace bc := (Bi (Bi (Bi (Bi (Bi (Bi bc h1 0 (Iz m4)) h1 1 (.slice a4 l4 c4)) h1 2 (Iz m5)) h1 3 (.slice a5 l5 c5)) h1 4 (Iz false)) h1 5 (.slice a6 l6 c6))
  refine WA.done (by kernel_rfl) ?_
  go_wp2_with fail
  go_meet
  exact ⟨_, _, m1, a1, l1, c1, m2, a2, l2, c2, a3, l3, c3, X1, Y1, U1, m4, a4, l4, c4, m5, a5, l5, c5, a6, l6, c6, X4, Y4, U4, rfl, rfl, h0, h1, k0, k1, sv1, sv4, bc⟩
 case rest =>
 obtain ⟨gu, gv, m1, a1, l1, c1, m2, a2, l2, c2, a3, l3, c3, X1, Y1, U1, m4, a4, l4, c4, m5, a5, l5, c5, a6, l6, c6, X4, Y4, U4, rfl, rfl, lu, lv, ku, kv, sv1, sv4, b1⟩ := hcut
 clear mk
 have sz := b1.size
 replace ka := ka.b b1
 replace kb := kb.b b1
 replace kc := kc.b b1
 replace kr := kr.b b1
 replace bb := Ia bb b1
 clear b1
 have tu := ku.lt
 have tv := kv.lt
 go_wp2_with fail
 obtain ⟨nx, ny, nu, hw1⟩ := sv1
 obtain ⟨nz, nw, nt, hw4⟩ := sv4
 have HS : Hid (∀ w', Below wc.heap.size wc w' → Calls Tryz.prog 121 #[.agg #[Iz m1, .slice a1 l1 c1, Iz m2, .slice a2 l2 c2, Iz false, .slice a3 l3 c3], .agg #[Iz m4, .slice a4 l4 c4, Iz m5, .slice a5 l5 c5, Iz false, .slice a6 l6 c6]] w' fun e w'' => ∃ m a l c, e = .returned (.agg #[Iz m, .slice a l c]) ∧ NV w'' m (.slice a l c) (X1 * Y4 - Y1 * X4) 107 ∧ Below w'.heap.size w' w'') := fun w' b => (Tt _ _ _ _ _ _ _ _ _ _ _ _ _ _ _ _ _ _ _ _ _ _ _ _ X1 Y1 X4 Y4 53 w' (by omega) (nx.b b) (ny.b b) (nz.b b) (nw.b b)).mono fun e w'' ⟨m, u, h1, h2, h3⟩ => by
  obtain ⟨a, l, c, rfl⟩ := h2.slice
  exact ⟨m, a, l, c, h1, h2, h3⟩
 have HO : Hid (∀ (B : Nat) (m : Bool) (v : Value) (w' : World), Below wc.heap.size wc w' → NV w' m v (X1 * Y4 - Y1 * X4) 107 → Be w' B [Iz false, .slice a3 l3 c3, Iz false, .slice a6 l6 c6] 66 → Calls Tryz.prog 122 #[.agg #[Iz m, v], .slice (some ⟨B, 0, none⟩) 2 2] w' fun e w'' => e = .returned ((Bo (Bs (ux * vy - uy * vx).num) (Bp (ux * vy - uy * vx).num) (Bf (ux * vy - uy * vx).den))) ∧ Below w'.heap.size w' w'') := fun B m v w' b nz hB => by
  have := Bgk m false false v a3 a6 l3 c3 l6 c6 (X1 * Y4 - Y1 * X4) U1 U4 107 B w' (hT.b (Ia bb b)) (by omega) hw1.1 hw4.1 nz ((nu.b b).mono (by omega)) ((nt.b b).mono (by omega)) hB
  rwa [Gm.area_eq hw1 hw4] at this
 clear nx ny nu hw1 nz nw nt hw4
 have mkS : Hid (∀ w', Be w' gu [Iz m1, .slice a1 l1 c1, Iz m2, .slice a2 l2 c2, Iz false, .slice a3 l3 c3] 176 → Be w' gv [Iz m4, .slice a4 l4 c4, Iz m5, .slice a5 l5 c5, Iz false, .slice a6 l6 c6] 176 → (Gl w' gu (Iz m1) (.slice a1 l1 c1) (Iz m2) (.slice a2 l2 c2) (Iz false) (.slice a3 l3 c3) ∧ Gl w' gv (Iz m4) (.slice a4 l4 c4) (Iz m5) (.slice a5 l5 c5) (Iz false) (.slice a6 l6 c6))) := fun w' hu hv => ⟨Cw hu, Cw hv⟩
 have qu : gu ≠ w.heap.size + 1 + 1 + 1 := by omega
 have qv : gv ≠ w.heap.size + 1 + 1 + 1 := by omega
 have b9 := Jg wc.heap.size wc
 go_region_held3 (fun w' => Gl w' gu (Iz m1) (.slice a1 l1 c1) (Iz m2) (.slice a2 l2 c2) (Iz false) (.slice a3 l3 c3) ∧ Gl w' gv (Iz m4) (.slice a4 l4 c4) (Iz m5) (.slice a5 l5 c5) (Iz false) (.slice a6 l6 c6)) (first | with_reducible exact mkS.out _ ku kv | with_reducible exact mkS.out _ ku.drew kv.drew | with_reducible exact mkS.out _ (ku.alloc _) (kv.alloc _) | with_reducible exact mkS.out _ (ku.alloc _).drew (kv.alloc _).drew | with_reducible exact mkS.out _ (Be.w (Be.w (Be.w ku qu 0 _) qu 1 _) qu 2 _) (Be.w (Be.w (Be.w kv qv 0 _) qv 1 _) qv 2 _) | exact mkS.out _ ku kv) (first | (go_at_call 121; go_fit (HS.out _ ?_); (first | exact b9 | exact b9.drew | exact ba b9.drew _ | exact (ba b9 _).drew); rintro e wn ⟨m7, a7, l7, c7, rfl, nv7, bn⟩; (first | (have bq : Below wc.heap.size wc wn := (un bn)) | (obtain ⟨kB, bq⟩ := Bil bn)); replace b9 := bq; replace ku := ku.b bq; replace kv := kv.b bq; replace kr := kr.b bq; replace bb := Ia bb bq) | (go_at_call 122; go_fit (HO.out _ _ _ _ ?_ ?_ ?_); (first | exact b9 | exact ba b9 _); (first | exact nv7 | exact nv7.b (Ct _ _)); (first | exact kB | exact Be.new _ _ _); rintro e wm ⟨rfl, bn⟩; (first | (have bq : Below wn.heap.size wn wm := bn; replace ku := ku.b bq; replace kv := kv.b bq; replace kr := kr.b bq; replace bb := Ia bb bq) | (obtain ⟨-, bq⟩ := Tf bn; replace ku := ku.b bq; replace kv := kv.b bq; replace kr := kr.b bq; replace bb := Ia bb bq)); have e0 := Ey kr; have f0 := Be.o kr 0; have e1 := Ex kr; have f1 := Be.o kr 1; have e2 := Dk kr; have f2 := Be.o kr 2))
 all_goals go_wp2
 all_goals exact Lj (p := 6) (u := 7) (v := .int .i64 0) (by kernel_rfl) rfl rfl rfl (((kr.set 0 _).set 1 _).set 2 _) ⟨rfl, Bi (Bi (Bi bb (by omega) 0 _) (by omega) 1 _) (by omega) 2 _⟩
theorem Gm.way_x {X Y U : Int} {x y : Rat} (h : Gm.Way X Y U x y) : Rat.divInt X U = x := by
 have hp := Gm.upos h.1
 rw [Rat.divInt_eq_div, h.2.1, Rat.div_def]
 have := Rat.mul_inv_cancel (U : Rat) (by grind)
 grind
theorem Be0 {X U : Int} {k : Nat} (hU : 0 < U) (hX : Bd X k) (hu : Bd U k) : Bq (Rat.divInt X U) k := by
 obtain ⟨m, rfl⟩ := Int.eq_ofNat_of_zero_le (Int.le_of_lt hU)
 show Bq (mkRat X m) k
 exact Nj (by omega) hX hu
theorem Xc {X Y U : Int} {x y : Rat} {k : Nat} (h : Gm.Way X Y U x y) (hX : Bd X k) (hu : Bd U k) : Bq x k := by
 rw [← Gm.way_x h]; exact Be0 h.1 hX hu
abbrev pq (x y : Rat) : Value := (B4 (Bs x.num) (Bp x.num) (Bf x.den) (Bs y.num) (Bp y.num) (Bf y.den))
abbrev rq (x : Rat) : Value := (Bo (Bs x.num) (Bp x.num) (Bf x.den))
abbrev Ra (w : World) (v : Value) : Ending → World → Prop := fun e w' => e = .returned v ∧ Below w.heap.size w w'
theorem ofI (x0 y0 x1 y1 : Rat) {K : Nat} (hK : K ≤ 100) (b0 : Bq x0 K) (b1 : Bq y0 K) (b2 : Bq x1 K) (b3 : Bq y1 K) : Hid (∀ w1, Calls Tryz.prog 120 #[pq x0 y0, pq x1 y1] w1 fun e w' => ∃ m0 a0 l0 c0 m1 a1 l1 c1 a2 l2 c2 X Y U, e = .returned (.agg #[Iz m0, .slice a0 l0 c0, Iz m1, .slice a1 l1 c1, Iz false, .slice a2 l2 c2]) ∧ SpV w' m0 a0 l0 c0 m1 a1 l1 c1 a2 l2 c2 X Y U (x1 - x0) (y1 - y0) ∧ Below w1.heap.size w1 w') := fun w1 => by
 have := Bc9 (Bs x0.num) (Bs y0.num) (Bs x1.num) (Bs y1.num) (Bp x0.num) (Bf x0.den) (Bp y0.num) (Bf y0.den) (Bp x1.num) (Bf x1.den) (Bp y1.num) (Bf y1.den) w1 (Fk x0) (Fk y0) (Fk x1) (Fk y1) (Fm hK b0) (Fm hK b1) (Fm hK b2) (Fm hK b3)
 simp only [Bdq] at this
 refine this.mono ?_
 rintro e w' ⟨m0, a0, l0, c0, m1, a1, l1, c1, a2, l2, c2, X, Y, U, h1, h2, h3, h4, h5, h6⟩
 exact ⟨m0, a0, l0, c0, m1, a1, l1, c1, a2, l2, c2, X, Y, U, h1, ⟨h2, h3, h4, h5⟩, h6⟩
theorem Bid (x0 y0 x1 y1 x2 y2 : Rat) {K : Nat} (hK : K ≤ 100) (b0 : Bq x0 K) (b1 : Bq y0 K) (b2 : Bq x1 K) (b3 : Bq y1 K) (b4 : Bq x2 K) (b5 : Bq y2 K) (w : World) (hT : Fi w) : Hid (∀ (w1 : World) (B : Nat), Below w.heap.size w w1 → Be w1 B (Di (Bs x0.num) (Bp x0.num) (Bf x0.den) (Bs y0.num) (Bp y0.num) (Bf y0.den) (Bs x1.num) (Bp x1.num) (Bf x1.den) (Bs y1.num) (Bp y1.num) (Bf y1.den) (Bs x2.num) (Bp x2.num) (Bf x2.den) (Bs y2.num) (Bp y2.num) (Bf y2.den)) 30 → Calls Tryz.prog 119 #[.slice (some ⟨B, 0, none⟩) 3 3] w1 (Re w1 (.int .i64 0))) := fun w1 B b h => by
 have := Bdb B (Bs x0.num) (Bs y0.num) (Bs x1.num) (Bs y1.num) (Bs x2.num) (Bs y2.num) (Bp x0.num) (Bf x0.den) (Bp y0.num) (Bf y0.den) (Bp x1.num) (Bf x1.den) (Bp y1.num) (Bf y1.den) (Bp x2.num) (Bf x2.den) (Bp y2.num) (Bf y2.den) w1 (hT.b b) h (Fm hK b0) (Fm hK b1) (Fm hK b2) (Fm hK b3) (Fm hK b4) (Fm hK b5)
 rwa [Dn.2 ⟨Dn.2 ⟨Gq.2 ⟨C0 x0 (by omega) b0, C0 y0 (by omega) b1⟩, Gq.2 ⟨C0 x1 (by omega) b2, C0 y1 (by omega) b3⟩⟩, Gq.2 ⟨C0 x2 (by omega) b4, C0 y2 (by omega) b5⟩⟩] at this
theorem Ci {x : Rat} {K M' : Nat} (h : Bq x K) (hK : K ≤ M') : Bq x M' := ⟨h.1.mono hK, h.2.mono hK⟩
theorem Bfn (x0 y0 x1 y1 x2 y2 : Rat) {K : Nat} (hK : K ≤ 100) (b0 : Bq x0 K) (b1 : Bq y0 K) (b2 : Bq x1 K) (b3 : Bq y1 K) (b4 : Bq x2 K) (b5 : Bq y2 K) (w : World) (hT : Fi w) : Calls Tryz.prog 60 #[pq x0 y0, pq x1 y1, pq x2 y2] w (Ra w (.tuple #[rq ((x1 - x0) * (y2 - y0) - (y1 - y0) * (x2 - x0)), .int .i64 0])) :=
 Bcj (Bs x0.num) (Bs y0.num) (Bs x1.num) (Bs y1.num) (Bs x2.num) (Bs y2.num) (Bp x0.num) (Bf x0.den) (Bp y0.num) (Bf y0.den) (Bp x1.num) (Bf x1.den) (Bp y1.num) (Bf y1.den) (Bp x2.num) (Bf x2.den) (Bp y2.num) (Bf y2.den) (x1 - x0) (y1 - y0) (x2 - x0) (y2 - y0) w hT (Bid x0 y0 x1 y1 x2 y2 hK b0 b1 b2 b3 b4 b5 w hT) (ofI x0 y0 x1 y1 hK b0 b1 b2 b3) (ofI x0 y0 x2 y2 hK b0 b1 b4 b5)
theorem Bhm (N M : Int) (h1 : 0 < M) (h2 : M ≤ 1000) (h3 : 0 ≤ N) (h4 : N ≤ M) (w : World) : Calls Tryz.prog 29 #[.int .i64 N, .int .i64 M] w (Re w (rq (Rat.divInt N M))) := by
 have bb : ∀ z : Int, 0 ≤ z → z ≤ 1000 → Bd z 2 := fun z a b => by unfold Bd; omega
 refine Oe N M (Bs N) (Bs M) (Bp N) (Bp M) _ _ _ w (fun w1 _ => Lg N (by omega) (by omega) w1) (fun w1 _ => Lg M (by omega) (by omega) w1) (fun w1 _ => ?_)
 have := M7 (Bs N) (Bs M) (Bp N) (Bp M) w1 (Mc N) (Mc M) (Jf (Oj (bb N h3 (by omega))) (by omega)) (Jf (Oj (bb M (by omega) h2)) (by omega)) (by rw [Db]; omega)
 rw [L5, L5] at this
 exact this
theorem Bim (x0 y0 x1 y1 : Rat) {K : Nat} (hK : K ≤ 100) (b0 : Bq x0 K) (b1 : Bq y0 K) (b2 : Bq x1 K) (b3 : Bq y1 K) (w : World) (hT : Fi w) : Hid (∀ (w1 : World) (B : Nat), Below w.heap.size w w1 → Be w1 B [Iz (Bs x0.num), I (Bp x0.num), I (Bf x0.den), Iz (Bs y0.num), I (Bp y0.num), I (Bf y0.den), Iz (Bs x1.num), I (Bp x1.num), I (Bf x1.den), Iz (Bs y1.num), I (Bp y1.num), I (Bf y1.den)] 30 → Calls Tryz.prog 119 #[.slice (some ⟨B, 0, none⟩) 2 2] w1 (Re w1 (.int .i64 0))) := fun w1 B b h => by
 have := Bdc B (Bs x0.num) (Bs y0.num) (Bs x1.num) (Bs y1.num) (Bp x0.num) (Bf x0.den) (Bp y0.num) (Bf y0.den) (Bp x1.num) (Bf x1.den) (Bp y1.num) (Bf y1.den) w1 (hT.b b) h (Fm hK b0) (Fm hK b1) (Fm hK b2) (Fm hK b3)
 rwa [Dn.2 ⟨Gq.2 ⟨C0 x0 (by omega) b0, C0 y0 (by omega) b1⟩, Gq.2 ⟨C0 x1 (by omega) b2, C0 y1 (by omega) b3⟩⟩] at this
theorem Xd : Bq (Rat.divInt 1 2) 2 := Bez (by omega) (by omega) (by omega) (by omega)
theorem Bg9 (x0 y0 x1 y1 : Rat) {K : Nat} (hK : K ≤ 100) (b0 : Bq x0 K) (b1 : Bq y0 K) (b2 : Bq x1 K) (b3 : Bq y1 K) (w : World) : Calls Tryz.prog 79 #[pq x0 y0, pq x1 y1] w (Ra w (pq ((x0 + x1) * (Rat.divInt 1 2)) ((y0 + y1) * (Rat.divInt 1 2)))) := by
 have bx := Ld b0 b2
 have bY := Ld b1 b3
 exact X3 (Bs x0.num) (Bs y0.num) (Bs x1.num) (Bs y1.num) (Bp x0.num) (Bf x0.den) (Bp y0.num) (Bf y0.den) (Bp x1.num) (Bf x1.den) (Bp y1.num) (Bf y1.den) (Bs (x0 + x1).num) (Bs (y0 + y1).num) (Bp (x0 + x1).num) (Bf (x0 + x1).den) (Bp (y0 + y1).num) (Bf (y0 + y1).den) (Bs ((Rat.divInt 1 2)).num) (Bp ((Rat.divInt 1 2)).num) (Bf ((Rat.divInt 1 2)).den) (Bs (((x0 + x1) * (Rat.divInt 1 2))).num) (Bs (((y0 + y1) * (Rat.divInt 1 2))).num) (Bp (((x0 + x1) * (Rat.divInt 1 2))).num) (Bf (((x0 + x1) * (Rat.divInt 1 2))).den) (Bp (((y0 + y1) * (Rat.divInt 1 2))).num) (Bf (((y0 + y1) * (Rat.divInt 1 2))).den) w (fun w1 _ => Bf7 x0 y0 x1 y1 (K := K) (by omega) b0 b1 b2 b3 w1) (fun w1 _ => Bhm 1 2 (by omega) (by omega) (by omega) (by omega) w1) (fun w1 _ => Bdh (x0 + x1) (y0 + y1) (Rat.divInt 1 2) (K := K + K + 1 + 2) (by omega) (Ci bx (by omega)) (Ci bY (by omega)) (Ci Xd (by omega)) w1)
theorem Bcm {X U : Int} {x : Rat} {k : Nat} (hU : U ≠ 0) (h : (X : Rat) = (U : Rat) * x) (bX : Bd X k) (bU : Bd U k) : Bq x k := by
 rcases Int.lt_or_gt_of_ne hU with q | q
 ·have W : Gm.Way (-X) 0 (-U) x 0 := ⟨by omega, by push_cast; rw [h]; grind, by grind⟩
  exact Xc W bX.neg bU.neg
 ·have W : Gm.Way X 0 U x 0 := ⟨q, h, by grind⟩
  exact Xc W bX bU
theorem Uk (x y : Int) : pq (x : Rat) (y : Rat) = (B4 (Bs x) (Bp x) ⟨#[1]⟩ (Bs y) (Bp y) ⟨#[1]⟩) := by
 have e : Bf 1 = ⟨#[1]⟩ := by decide +kernel
 simp only [pq, Rat.num_intCast, Rat.den_intCast, e]
theorem Dm (x : Int) (h1 : -200 ≤ x) (h2 : x ≤ 200) : Bq (x : Rat) 1 := by
 constructor
 ·rw [Rat.num_intCast]; unfold Bd; omega
 ·rw [Rat.den_intCast]; unfold Bd; omega
theorem Bbo {w : World} {g : Nat} {cs : List Value} (h : Be w g cs 28) (hl : cs.length = 18) : (loadVar 28 ⟨g, 0, none⟩).run Tryz.prog w = .ok (.agg cs.toArray) w :=
 run_loadVar_row w g 28 28 cs.toArray (0, 0) _ h Tryz.underlying28 rfl (by rw [List.size_toArray, hl]; kernel_rfl)
theorem Ba8 {fn : Func} {p : Tmp} {R : Ending → World → Prop} {a : Act} {w : World} {g : Nat} {cs : List Value} (h : fn.results = #[.cell p 28]) (hp : a.tmps.getD p undef = .pointer (some ⟨g, 0, none⟩)) (hd : a.defers = [])
  (hc : Be w g cs 28) (hl : cs.length = 18) (hR : R (.returned (.agg cs.toArray)) w) : bodyPost Tryz.prog fn R .ret a w := by
 refine ⟨hd, .agg cs.toArray, ?_, hR⟩
 have hp' : a.tmps[p]?.getD undef = .pointer (some ⟨g, 0, none⟩) := by simpa using hp
 simp only [results, h]
 simp [hp', asAddr, Bbo hc hl]
theorem Mj (l : Nat → Int) (w : World)
  (HO : Hid (∀ k w1, k < 6 → Calls Tryz.prog 40 #[.int .i64 (l k)] w1 (Re w1 ((Bo (Bs (l k)) (Bp (l k)) ⟨#[1]⟩))))) :
  Calls Tryz.prog 27 #[.agg #[.int .i64 (l 0), .int .i64 (l 1), .int .i64 (l 2), .int .i64 (l 3), .int .i64 (l 4), .int .i64 (l 5)]] w (Re w ((Cp (Bs (l 0)) (Bp (l 0)) ⟨#[1]⟩ (Bs (l 1)) (Bp (l 1)) ⟨#[1]⟩ (Bs (l 2)) (Bp (l 2)) ⟨#[1]⟩ (Bs (l 3)) (Bp (l 3)) ⟨#[1]⟩ (Bs (l 4)) (Bp (l 4)) ⟨#[1]⟩ (Bs (l 5)) (Bp (l 5)) ⟨#[1]⟩))) := by
 go_enter Tryz.func27, Tryz.ntmps27
 go_upto_region 2 with fail
 obtain ⟨w0, hq, kl, kr, ko, bb⟩ := K9 w [.int .i64 (l 0), .int .i64 (l 1), .int .i64 (l 2), .int .i64 (l 3), .int .i64 (l 4), .int .i64 (l 5)] (Di false eB eB false eB eB false eB eB false eB eB false eB eB false eB eB) (Di false eB eB false eB eB false eB eB false eB eB false eB eB false eB eB) 60 28 28
 rw [← hq]
 clear hq
 go_wp2_with fail
 refine wp_loop_rounds 7 ?_
 rw [rounds_succ]
 obtain ⟨c0, c1, c2, c3, c4, c5⟩ := Cw kl
 go_wp2_with fail
 clear c0 c1 c2 c3 c4 c5
 go_fit (HO.out 0 _ (by omega))
 rintro e w1 ⟨rfl, b1⟩
 replace kl := kl.b b1
 replace kr := kr.b b1
 replace ko := ko.b b1
 replace bb := Ia bb b1
 clear b1
 have e0 := ko.cell 0
 have f0 := Be.o ko 0
 have e1 := ko.cell 1
 have f1 := Be.o ko 1
 have e2 := ko.cell 2
 have f2 := Be.o ko 2
 simp only [Jn, Jm] at e0 e1 e2
 go_wp2_with fail
 clear e0 e1 e2 f0 f1 f2
 obtain ⟨x1, hw⟩ : ∃ x, x = ((w1.setCell ⟨w.heap.size + 1 + 1, 0, none⟩ (Iz (Bs (l 0)))).setCell ⟨w.heap.size + 1 + 1, 1, none⟩ (I (Bp (l 0)))).setCell ⟨w.heap.size + 1 + 1, 2, none⟩ (I ⟨#[1]⟩) := ⟨_, rfl⟩
 rw [← hw]
 replace kl := ((kl.w (show _ ≠ w.heap.size + 1 + 1 by omega) 0 (Iz (Bs (l 0)))).w (show _ ≠ w.heap.size + 1 + 1 by omega) 1 (I (Bp (l 0)))).w (show _ ≠ w.heap.size + 1 + 1 by omega) 2 (I ⟨#[1]⟩)
 replace kr := ((kr.w (show _ ≠ w.heap.size + 1 + 1 by omega) 0 (Iz (Bs (l 0)))).w (show _ ≠ w.heap.size + 1 + 1 by omega) 1 (I (Bp (l 0)))).w (show _ ≠ w.heap.size + 1 + 1 by omega) 2 (I ⟨#[1]⟩)
 replace ko : Be _ (w.heap.size + 1 + 1) (Di (Bs (l 0)) (Bp (l 0)) ⟨#[1]⟩ false eB eB false eB eB false eB eB false eB eB false eB eB) 28 := ((ko.set 0 (Iz (Bs (l 0)))).set 1 (I (Bp (l 0)))).set 2 (I ⟨#[1]⟩)
 replace bb := Bi (Bi (Bi bb (show w.heap.size ≤ w.heap.size + 1 + 1 by omega) 0 (Iz (Bs (l 0)))) (show w.heap.size ≤ w.heap.size + 1 + 1 by omega) 1 (I (Bp (l 0)))) (show w.heap.size ≤ w.heap.size + 1 + 1 by omega) 2 (I ⟨#[1]⟩)
 rw [← hw] at kl kr ko bb
 clear hw
 rw [rounds_succ]
 obtain ⟨c0, c1, c2, c3, c4, c5⟩ := Cw kl
 go_wp2_with fail
 clear c0 c1 c2 c3 c4 c5
 go_fit (HO.out 1 _ (by omega))
 rintro e w2 ⟨rfl, b1⟩
 replace kl := kl.b b1
 replace kr := kr.b b1
 replace ko := ko.b b1
 replace bb := Ia bb b1
 clear b1
 have e0 := ko.cell 3
 have f0 := Be.o ko 3
 have e1 := ko.cell 4
 have f1 := Be.o ko 4
 have e2 := ko.cell 5
 have f2 := Be.o ko 5
 simp only [Jn, Jm] at e0 e1 e2
 go_wp2_with fail
 clear e0 e1 e2 f0 f1 f2
 obtain ⟨x2, hw⟩ : ∃ x, x = ((w2.setCell ⟨w.heap.size + 1 + 1, 3, none⟩ (Iz (Bs (l 1)))).setCell ⟨w.heap.size + 1 + 1, 4, none⟩ (I (Bp (l 1)))).setCell ⟨w.heap.size + 1 + 1, 5, none⟩ (I ⟨#[1]⟩) := ⟨_, rfl⟩
 rw [← hw]
 replace kl := ((kl.w (show _ ≠ w.heap.size + 1 + 1 by omega) 3 (Iz (Bs (l 1)))).w (show _ ≠ w.heap.size + 1 + 1 by omega) 4 (I (Bp (l 1)))).w (show _ ≠ w.heap.size + 1 + 1 by omega) 5 (I ⟨#[1]⟩)
 replace kr := ((kr.w (show _ ≠ w.heap.size + 1 + 1 by omega) 3 (Iz (Bs (l 1)))).w (show _ ≠ w.heap.size + 1 + 1 by omega) 4 (I (Bp (l 1)))).w (show _ ≠ w.heap.size + 1 + 1 by omega) 5 (I ⟨#[1]⟩)
 replace ko : Be _ (w.heap.size + 1 + 1) (Di (Bs (l 0)) (Bp (l 0)) ⟨#[1]⟩ (Bs (l 1)) (Bp (l 1)) ⟨#[1]⟩ false eB eB false eB eB false eB eB false eB eB) 28 := ((ko.set 3 (Iz (Bs (l 1)))).set 4 (I (Bp (l 1)))).set 5 (I ⟨#[1]⟩)
 replace bb := Bi (Bi (Bi bb (show w.heap.size ≤ w.heap.size + 1 + 1 by omega) 3 (Iz (Bs (l 1)))) (show w.heap.size ≤ w.heap.size + 1 + 1 by omega) 4 (I (Bp (l 1)))) (show w.heap.size ≤ w.heap.size + 1 + 1 by omega) 5 (I ⟨#[1]⟩)
 rw [← hw] at kl kr ko bb
 clear hw
 rw [rounds_succ]
 obtain ⟨c0, c1, c2, c3, c4, c5⟩ := Cw kl
 go_wp2_with fail
 clear c0 c1 c2 c3 c4 c5
 go_fit (HO.out 2 _ (by omega))
 rintro e w3 ⟨rfl, b1⟩
 replace kl := kl.b b1
 replace kr := kr.b b1
 replace ko := ko.b b1
 replace bb := Ia bb b1
 clear b1
 have e0 := ko.cell 6
 have f0 := Be.o ko 6
 have e1 := ko.cell 7
 have f1 := Be.o ko 7
 have e2 := ko.cell 8
 have f2 := Be.o ko 8
 simp only [Jn, Jm] at e0 e1 e2
 go_wp2_with fail
 clear e0 e1 e2 f0 f1 f2
 obtain ⟨x3, hw⟩ : ∃ x, x = ((w3.setCell ⟨w.heap.size + 1 + 1, 6, none⟩ (Iz (Bs (l 2)))).setCell ⟨w.heap.size + 1 + 1, 7, none⟩ (I (Bp (l 2)))).setCell ⟨w.heap.size + 1 + 1, 8, none⟩ (I ⟨#[1]⟩) := ⟨_, rfl⟩
 rw [← hw]
 replace kl := ((kl.w (show _ ≠ w.heap.size + 1 + 1 by omega) 6 (Iz (Bs (l 2)))).w (show _ ≠ w.heap.size + 1 + 1 by omega) 7 (I (Bp (l 2)))).w (show _ ≠ w.heap.size + 1 + 1 by omega) 8 (I ⟨#[1]⟩)
 replace kr := ((kr.w (show _ ≠ w.heap.size + 1 + 1 by omega) 6 (Iz (Bs (l 2)))).w (show _ ≠ w.heap.size + 1 + 1 by omega) 7 (I (Bp (l 2)))).w (show _ ≠ w.heap.size + 1 + 1 by omega) 8 (I ⟨#[1]⟩)
 replace ko : Be _ (w.heap.size + 1 + 1) (Di (Bs (l 0)) (Bp (l 0)) ⟨#[1]⟩ (Bs (l 1)) (Bp (l 1)) ⟨#[1]⟩ (Bs (l 2)) (Bp (l 2)) ⟨#[1]⟩ false eB eB false eB eB false eB eB) 28 := ((ko.set 6 (Iz (Bs (l 2)))).set 7 (I (Bp (l 2)))).set 8 (I ⟨#[1]⟩)
 replace bb := Bi (Bi (Bi bb (show w.heap.size ≤ w.heap.size + 1 + 1 by omega) 6 (Iz (Bs (l 2)))) (show w.heap.size ≤ w.heap.size + 1 + 1 by omega) 7 (I (Bp (l 2)))) (show w.heap.size ≤ w.heap.size + 1 + 1 by omega) 8 (I ⟨#[1]⟩)
 rw [← hw] at kl kr ko bb
 clear hw
 rw [rounds_succ]
 obtain ⟨c0, c1, c2, c3, c4, c5⟩ := Cw kl
 go_wp2_with fail
 clear c0 c1 c2 c3 c4 c5
 go_fit (HO.out 3 _ (by omega))
 rintro e w4 ⟨rfl, b1⟩
 replace kl := kl.b b1
 replace kr := kr.b b1
 replace ko := ko.b b1
 replace bb := Ia bb b1
 clear b1
 have e0 := ko.cell 9
 have f0 := Be.o ko 9
 have e1 := ko.cell 10
 have f1 := Be.o ko 10
 have e2 := ko.cell 11
 have f2 := Be.o ko 11
 simp only [Jn, Jm] at e0 e1 e2
 go_wp2_with fail
 clear e0 e1 e2 f0 f1 f2
 obtain ⟨x4, hw⟩ : ∃ x, x = ((w4.setCell ⟨w.heap.size + 1 + 1, 9, none⟩ (Iz (Bs (l 3)))).setCell ⟨w.heap.size + 1 + 1, 10, none⟩ (I (Bp (l 3)))).setCell ⟨w.heap.size + 1 + 1, 11, none⟩ (I ⟨#[1]⟩) := ⟨_, rfl⟩
 rw [← hw]
 replace kl := ((kl.w (show _ ≠ w.heap.size + 1 + 1 by omega) 9 (Iz (Bs (l 3)))).w (show _ ≠ w.heap.size + 1 + 1 by omega) 10 (I (Bp (l 3)))).w (show _ ≠ w.heap.size + 1 + 1 by omega) 11 (I ⟨#[1]⟩)
 replace kr := ((kr.w (show _ ≠ w.heap.size + 1 + 1 by omega) 9 (Iz (Bs (l 3)))).w (show _ ≠ w.heap.size + 1 + 1 by omega) 10 (I (Bp (l 3)))).w (show _ ≠ w.heap.size + 1 + 1 by omega) 11 (I ⟨#[1]⟩)
 replace ko : Be _ (w.heap.size + 1 + 1) (Di (Bs (l 0)) (Bp (l 0)) ⟨#[1]⟩ (Bs (l 1)) (Bp (l 1)) ⟨#[1]⟩ (Bs (l 2)) (Bp (l 2)) ⟨#[1]⟩ (Bs (l 3)) (Bp (l 3)) ⟨#[1]⟩ false eB eB false eB eB) 28 := ((ko.set 9 (Iz (Bs (l 3)))).set 10 (I (Bp (l 3)))).set 11 (I ⟨#[1]⟩)
 replace bb := Bi (Bi (Bi bb (show w.heap.size ≤ w.heap.size + 1 + 1 by omega) 9 (Iz (Bs (l 3)))) (show w.heap.size ≤ w.heap.size + 1 + 1 by omega) 10 (I (Bp (l 3)))) (show w.heap.size ≤ w.heap.size + 1 + 1 by omega) 11 (I ⟨#[1]⟩)
 rw [← hw] at kl kr ko bb
 clear hw
 rw [rounds_succ]
 obtain ⟨c0, c1, c2, c3, c4, c5⟩ := Cw kl
 go_wp2_with fail
 clear c0 c1 c2 c3 c4 c5
 go_fit (HO.out 4 _ (by omega))
 rintro e w5 ⟨rfl, b1⟩
 replace kl := kl.b b1
 replace kr := kr.b b1
 replace ko := ko.b b1
 replace bb := Ia bb b1
 clear b1
 have e0 := ko.cell 12
 have f0 := Be.o ko 12
 have e1 := ko.cell 13
 have f1 := Be.o ko 13
 have e2 := ko.cell 14
 have f2 := Be.o ko 14
 simp only [Jn, Jm] at e0 e1 e2
 go_wp2_with fail
 clear e0 e1 e2 f0 f1 f2
 obtain ⟨x5, hw⟩ : ∃ x, x = ((w5.setCell ⟨w.heap.size + 1 + 1, 12, none⟩ (Iz (Bs (l 4)))).setCell ⟨w.heap.size + 1 + 1, 13, none⟩ (I (Bp (l 4)))).setCell ⟨w.heap.size + 1 + 1, 14, none⟩ (I ⟨#[1]⟩) := ⟨_, rfl⟩
 rw [← hw]
 replace kl := ((kl.w (show _ ≠ w.heap.size + 1 + 1 by omega) 12 (Iz (Bs (l 4)))).w (show _ ≠ w.heap.size + 1 + 1 by omega) 13 (I (Bp (l 4)))).w (show _ ≠ w.heap.size + 1 + 1 by omega) 14 (I ⟨#[1]⟩)
 replace kr := ((kr.w (show _ ≠ w.heap.size + 1 + 1 by omega) 12 (Iz (Bs (l 4)))).w (show _ ≠ w.heap.size + 1 + 1 by omega) 13 (I (Bp (l 4)))).w (show _ ≠ w.heap.size + 1 + 1 by omega) 14 (I ⟨#[1]⟩)
 replace ko : Be _ (w.heap.size + 1 + 1) (Di (Bs (l 0)) (Bp (l 0)) ⟨#[1]⟩ (Bs (l 1)) (Bp (l 1)) ⟨#[1]⟩ (Bs (l 2)) (Bp (l 2)) ⟨#[1]⟩ (Bs (l 3)) (Bp (l 3)) ⟨#[1]⟩ (Bs (l 4)) (Bp (l 4)) ⟨#[1]⟩ false eB eB) 28 := ((ko.set 12 (Iz (Bs (l 4)))).set 13 (I (Bp (l 4)))).set 14 (I ⟨#[1]⟩)
 replace bb := Bi (Bi (Bi bb (show w.heap.size ≤ w.heap.size + 1 + 1 by omega) 12 (Iz (Bs (l 4)))) (show w.heap.size ≤ w.heap.size + 1 + 1 by omega) 13 (I (Bp (l 4)))) (show w.heap.size ≤ w.heap.size + 1 + 1 by omega) 14 (I ⟨#[1]⟩)
 rw [← hw] at kl kr ko bb
 clear hw
 rw [rounds_succ]
 obtain ⟨c0, c1, c2, c3, c4, c5⟩ := Cw kl
 go_wp2_with fail
 clear c0 c1 c2 c3 c4 c5
 go_fit (HO.out 5 _ (by omega))
 rintro e w6 ⟨rfl, b1⟩
 replace kl := kl.b b1
 replace kr := kr.b b1
 replace ko := ko.b b1
 replace bb := Ia bb b1
 clear b1
 have e0 := ko.cell 15
 have f0 := Be.o ko 15
 have e1 := ko.cell 16
 have f1 := Be.o ko 16
 have e2 := ko.cell 17
 have f2 := Be.o ko 17
 simp only [Jn, Jm] at e0 e1 e2
 go_wp2_with fail
 clear e0 e1 e2 f0 f1 f2
 obtain ⟨x6, hw⟩ : ∃ x, x = ((w6.setCell ⟨w.heap.size + 1 + 1, 15, none⟩ (Iz (Bs (l 5)))).setCell ⟨w.heap.size + 1 + 1, 16, none⟩ (I (Bp (l 5)))).setCell ⟨w.heap.size + 1 + 1, 17, none⟩ (I ⟨#[1]⟩) := ⟨_, rfl⟩
 rw [← hw]
 replace kl := ((kl.w (show _ ≠ w.heap.size + 1 + 1 by omega) 15 (Iz (Bs (l 5)))).w (show _ ≠ w.heap.size + 1 + 1 by omega) 16 (I (Bp (l 5)))).w (show _ ≠ w.heap.size + 1 + 1 by omega) 17 (I ⟨#[1]⟩)
 replace kr := ((kr.w (show _ ≠ w.heap.size + 1 + 1 by omega) 15 (Iz (Bs (l 5)))).w (show _ ≠ w.heap.size + 1 + 1 by omega) 16 (I (Bp (l 5)))).w (show _ ≠ w.heap.size + 1 + 1 by omega) 17 (I ⟨#[1]⟩)
 replace ko : Be _ (w.heap.size + 1 + 1) (Di (Bs (l 0)) (Bp (l 0)) ⟨#[1]⟩ (Bs (l 1)) (Bp (l 1)) ⟨#[1]⟩ (Bs (l 2)) (Bp (l 2)) ⟨#[1]⟩ (Bs (l 3)) (Bp (l 3)) ⟨#[1]⟩ (Bs (l 4)) (Bp (l 4)) ⟨#[1]⟩ (Bs (l 5)) (Bp (l 5)) ⟨#[1]⟩) 28 := ((ko.set 15 (Iz (Bs (l 5)))).set 16 (I (Bp (l 5)))).set 17 (I ⟨#[1]⟩)
 replace bb := Bi (Bi (Bi bb (show w.heap.size ≤ w.heap.size + 1 + 1 by omega) 15 (Iz (Bs (l 5)))) (show w.heap.size ≤ w.heap.size + 1 + 1 by omega) 16 (I (Bp (l 5)))) (show w.heap.size ≤ w.heap.size + 1 + 1 by omega) 17 (I ⟨#[1]⟩)
 rw [← hw] at kl kr ko bb
 clear hw
 rw [rounds_succ]
 have e0 := kr.cell 0
 have f0 := Be.o kr 0
 have e1 := kr.cell 1
 have f1 := Be.o kr 1
 have e2 := kr.cell 2
 have f2 := Be.o kr 2
 have e3 := kr.cell 3
 have f3 := Be.o kr 3
 have e4 := kr.cell 4
 have f4 := Be.o kr 4
 have e5 := kr.cell 5
 have f5 := Be.o kr 5
 have e6 := kr.cell 6
 have f6 := Be.o kr 6
 have e7 := kr.cell 7
 have f7 := Be.o kr 7
 have e8 := kr.cell 8
 have f8 := Be.o kr 8
 have e9 := kr.cell 9
 have f9 := Be.o kr 9
 have e10 := kr.cell 10
 have f10 := Be.o kr 10
 have e11 := kr.cell 11
 have f11 := Be.o kr 11
 have e12 := kr.cell 12
 have f12 := Be.o kr 12
 have e13 := kr.cell 13
 have f13 := Be.o kr 13
 have e14 := kr.cell 14
 have f14 := Be.o kr 14
 have e15 := kr.cell 15
 have f15 := Be.o kr 15
 have e16 := kr.cell 16
 have f16 := Be.o kr 16
 have e17 := kr.cell 17
 have f17 := Be.o kr 17
 simp only [Jn, Jm] at e0 e1 e2 e3 e4 e5 e6 e7 e8 e9 e10 e11 e12 e13 e14 e15 e16 e17
 go_wp2_with (refine Je rfl 28 _ rfl _ rfl 28 _ (0, 0) _ ko Tryz.underlying28 rfl (by kernel_rfl) ?_)
 try go_wp2
 exact Ba8 (p := 2) (by kernel_rfl) rfl rfl (((((((((((((((((((kr.set 0 _).set 1 _).set 2 _).set 3 _).set 4 _).set 5 _).set 6 _).set 7 _).set 8 _).set 9 _).set 10 _).set 11 _).set 12 _).set 13 _).set 14 _).set 15 _).set 16 _).set 17 _)) rfl ⟨rfl, Bi (Bi (Bi (Bi (Bi (Bi (Bi (Bi (Bi (Bi (Bi (Bi (Bi (Bi (Bi (Bi (Bi (Bi (bb) (by omega) 0 _) (by omega) 1 _) (by omega) 2 _) (by omega) 3 _) (by omega) 4 _) (by omega) 5 _) (by omega) 6 _) (by omega) 7 _) (by omega) 8 _) (by omega) 9 _) (by omega) 10 _) (by omega) 11 _) (by omega) 12 _) (by omega) 13 _) (by omega) 14 _) (by omega) 15 _) (by omega) 16 _) (by omega) 17 _⟩
theorem Hx (x y : Int) (h1 : -1000 ≤ x) (h2 : x ≤ 1000) (h3 : -1000 ≤ y) (h4 : y ≤ 1000) (w : World) :
  Calls Tryz.prog 28 #[.int .i64 x, .int .i64 y] w (Re w ((B4 (Bs x) (Bp x) ⟨#[1]⟩ (Bs y) (Bp y) ⟨#[1]⟩))) := by
 have H1 := Ba (fun w => Kd x h1 h2 w)
 have H2 := Ba (fun w => Kd y h3 h4 w)
 clear h1 h2 h3 h4
 go_enter Tryz.func28, Tryz.ntmps28
 go_wp2_with fail
 go_fit (H1.out _)
 rintro e w1 ⟨rfl, b1⟩
 obtain ⟨kr, bb⟩ := Tf b1
 clear b1
 go_wp2_with fail
 go_fit (H2.out _)
 rintro e w2 ⟨rfl, b1⟩
 replace kr := kr.b b1
 replace bb := Ia bb b1
 clear b1
 have f0 := Be.o kr 0
 have f1 := Be.o kr 1
 have f2 := Be.o kr 2
 have f3 := Be.o kr 3
 have f4 := Be.o kr 4
 have f5 := Be.o kr 5
 obtain ⟨r0, r1, r2, r3, r4, r5⟩ := Cw kr
 go_wp2
 exact Nx (p := 4) (by kernel_rfl) rfl rfl (kr.set6 _ _ _ _ _ _) ⟨rfl, Mu bb (Jb _) _ _ _ _ _ _⟩
def He (s d : ByteArray) : Bool := decide (s.size ≤ 30 ∧ d.size ≤ 30)
theorem Tr (n : Bool) (s d : ByteArray) (w : World) :
  Calls Tryz.prog 26 #[(Bo n s d)] w (Re w (Iz (He s d))) := by
 by_cases hs : s.size ≤ 30
 ·by_cases hd : d.size ≤ 30
  ·have e : Hid (He s d = true) := decide_eq_true ⟨hs, hd⟩
   have i1 : (s.size : Int) ≤ 30 := by omega
   have i2 : (d.size : Int) ≤ 30 := by omega
   go_enter Tryz.func26, Tryz.ntmps26
   go_wp2
   go_ret
   exact ⟨by rw [e.out]; rfl, Ct _ _⟩
  ·have e : Hid (He s d = false) := decide_eq_false fun h => hd h.2
   have i1 : (s.size : Int) ≤ 30 := by omega
   have i2 : ¬ (d.size : Int) ≤ 30 := by omega
   go_enter Tryz.func26, Tryz.ntmps26
   go_wp2
   go_ret
   exact ⟨by rw [e.out]; rfl, Ct _ _⟩
 ·have e : Hid (He s d = false) := decide_eq_false fun h => hs h.1
  have i1 : ¬ (s.size : Int) ≤ 30 := by omega
  go_enter Tryz.func26, Tryz.ntmps26
  go_wp2
  go_ret
  exact ⟨by rw [e.out]; rfl, Ct _ _⟩
def Fp (b : Nat → Bool) : Nat → Bool
 | 0 => true
 | n + 1 => Fp b n && b n
theorem Gv {b : Nat → Bool} {k : Nat} (hc : b k = false) : ∀ n, k < n → Fp b n = false
 | n + 1, h => by
  unfold Fp
  rcases Nat.lt_or_ge k n with q | q
  ·rw [Gv hc n q]; rfl
  ·obtain rfl : k = n := by omega
   rw [hc]; simp
theorem Lv {b : Nat → Bool} {n : Nat} (h : Fp b n = true) : ∀ k, k < n → b k = true := fun k hk => by
 cases hb : b k with
 | true => rfl
 | false => rw [Gv hb n hk] at h; cases h
theorem Bfe {w : World} {B : Nat} {t : TypeId} {N : Nat → Bool} {S D : Nat → ByteArray} (h : Be w B (Di (N 0) (S 0) (D 0) (N 1) (S 1) (D 1) (N 2) (S 2) (D 2) (N 3) (S 3) (D 3) (N 4) (S 4) (D 4) (N 5) (S 5) (D 5)) t) : RdQ w (some ⟨B, 0, none⟩) 6 N S D := X7 h
theorem Baw {w : World} {B : Nat} {t : TypeId} {P P' : Nat → Bool} {Q R Q' R' : Nat → ByteArray} (h : Be w B (Di (P 0) (Q 0) (R 0) (P' 0) (Q' 0) (R' 0) (P 1) (Q 1) (R 1) (P' 1) (Q' 1) (R' 1) (P 2) (Q 2) (R 2) (P' 2) (Q' 2) (R' 2)) t) : O7 w (some ⟨B, 0, none⟩) 3 P Q R P' Q' R' := fun j hj => by
 refine ⟨B, 0, rfl, ?_⟩
 match j, hj with
 | 0, _ => exact ⟨h.cell 0, h.cell 1, h.cell 2, h.cell 3, h.cell 4, h.cell 5⟩
 | 1, _ => exact ⟨h.cell 6, h.cell 7, h.cell 8, h.cell 9, h.cell 10, h.cell 11⟩
 | 2, _ => exact ⟨h.cell 12, h.cell 13, h.cell 14, h.cell 15, h.cell 16, h.cell 17⟩
theorem Yy (N P P' : Nat → Bool) (S D Q R Q' R' : Nat → ByteArray) (w : World)
  (HS : Hid (∀ (n : Bool) (s d : ByteArray) (w1 : World), Calls Tryz.prog 26 #[(Bo n s d)] w1 (Re w1 (Iz (He s d))))) :
  Calls Tryz.prog 9 #[(Cp (N 0) (S 0) (D 0) (N 1) (S 1) (D 1) (N 2) (S 2) (D 2) (N 3) (S 3) (D 3) (N 4) (S 4) (D 4) (N 5) (S 5) (D 5)), (Cp (P 0) (Q 0) (R 0) (P' 0) (Q' 0) (R' 0) (P 1) (Q 1) (R 1) (P' 1) (Q' 1) (R' 1) (P 2) (Q 2) (R 2) (P' 2) (Q' 2) (R' 2))] w (Re w (Iz (Fp (fun k => He (S k) (D k)) 6 && Fp (fun k => He (Q k) (R k) && He (Q' k) (R' k)) 3))) := by
 generalize hA : Fp (fun k => He (Q k) (R k) && He (Q' k) (R' k)) 3 = A3
 generalize hB : Fp (fun k => He (S k) (D k)) 6 = A6
 replace hA := Ba hA
 replace hB := Ba hB
 go_enter Tryz.func9, Tryz.ntmps9
 go_upto_region 1 with fail
 obtain ⟨w0, hq, kf, kt, bb⟩ := Gx w (Di (N 0) (S 0) (D 0) (N 1) (S 1) (D 1) (N 2) (S 2) (D 2) (N 3) (S 3) (D 3) (N 4) (S 4) (D 4) (N 5) (S 5) (D 5)) (Di (P 0) (Q 0) (R 0) (P' 0) (Q' 0) (R' 0) (P 1) (Q 1) (R 1) (P' 1) (Q' 1) (R' 1) (P 2) (Q 2) (R 2) (P' 2) (Q' 2) (R' 2)) 28 31
 rw [← hq]
 clear hq
 have hf := Ba (Bfe kf)
 have hp := Ba (Baw kt)
 clear kf kt
 have b0 := bb
 go_wp2_with fail
 go_loopw [5] (fun i wr => Below w0.heap.size w0 wr ∧ ∃ k : Nat, k ≤ 6 ∧ i = .int .i64 k ∧ Fp (fun k => He (S k) (D k)) k = true) (fun i _ => 6 - (intOf i).toNat)
 case atStart => exact ⟨Jg _ _, 0, by omega, rfl, rfl⟩
 case round =>
  clear bb
  obtain ⟨bb, k, hk, rfl, hz⟩ := hrel
  replace hz := Ba hz
  by_cases hkn : k < 6
  ·obtain ⟨b, off, e, h0, h1, h2⟩ := hf.out.b bb k hkn
   injection e with e
   injection e with e1 e2
   subst e1 e2
   rw [Nat.zero_add] at h0 h1 h2
   have i1 : (k : Int) < 6 := by omega
   have i2 : ¬ (k : Int) < 0 := by omega
   go_wp2_with fail
   clear h0 h1 h2
   go_fit (HS.out _ _ _ _)
   rintro e w3 ⟨rfl, b1⟩
   replace bb := Ia bb b1
   clear b1
   cases hc : He (S k) (D k) with
   | true =>
    have hs : Hid (Fp (fun k => He (S k) (D k)) (k + 1) = true) := by show Fp _ (k + 1) = true; unfold Fp; rw [hz.out, hc]; rfl
    clear hc
    go_wp2
    exact ⟨⟨bb, k + 1, by omega, by go_num, hs.out⟩, by simp [intOf]; omega⟩
   | false =>
    have hs := hB.out
    rw [Gv hc 6 hkn] at hs
    subst hs
    clear hc
    go_wp2
    go_ret
    exact ⟨rfl, Ia b0 bb⟩
  ·obtain rfl : k = 6 := by omega
   have hs := hB.out
   rw [hz.out] at hs
   subst hs
   clear hz hB hf hkn
   have i3 : ¬ ((6 : Nat) : Int) < 6 := by omega
   have b0' := Ia b0 bb
   have hp' := Ba (hp.out.b bb)
   clear bb b0 hp
   go_wp2_with fail
   clear i3
   go_loopw [6] (fun i wq => Below wr.heap.size wr wq ∧ ∃ k : Nat, k ≤ 3 ∧ i = .int .i64 k ∧ Fp (fun k => He (Q k) (R k) && He (Q' k) (R' k)) k = true) (fun i _ => 3 - (intOf i).toNat)
   case atStart => exact ⟨Jg _ _, 0, by omega, rfl, rfl⟩
   case round =>
    obtain ⟨bb, k, hk, rfl, hz⟩ := hrel
    replace hz := Ba hz
    by_cases hkn : k < 3
    ·obtain ⟨b, off, e, h0, h1, h2, h3, h4, h5⟩ := hp'.out.b bb k hkn
     injection e with e
     injection e with e1 e2
     subst e1 e2
     rw [Nat.zero_add] at h0 h1 h2 h3 h4 h5
     have i1 : (k : Int) < 3 := by omega
     have i2 : ¬ (k : Int) < 0 := by omega
     go_wp2_with fail
     go_fit (HS.out _ _ _ _)
     rintro e w3 ⟨rfl, b1⟩
     replace bb := Ia bb b1
     replace h3 := Bh h3 b1
     replace h4 := Bh h4 b1
     replace h5 := Bh h5 b1
     clear b1 h0 h1 h2
     cases hc : He (Q k) (R k) with
     | false =>
      have hs := hA.out
      rw [Gv (show (He (Q k) (R k) && He (Q' k) (R' k)) = false by rw [hc]; rfl) 3 hkn] at hs
      subst hs
      clear hc
      go_wp2
      go_ret
      exact ⟨rfl, Ia b0' bb⟩
     | true =>
      replace hc := Ba hc
      go_wp2_with fail
      clear h3 h4 h5
      go_fit (HS.out _ _ _ _)
      rintro e w4 ⟨rfl, b1⟩
      replace bb := Ia bb b1
      clear b1
      cases hd : He (Q' k) (R' k) with
      | false =>
       have hs := hA.out
       rw [Gv (show (He (Q k) (R k) && He (Q' k) (R' k)) = false by rw [hd]; simp) 3 hkn] at hs
       subst hs
       clear hd
       go_wp2
       go_ret
       exact ⟨rfl, Ia b0' bb⟩
      | true =>
       have hs : Hid (Fp (fun k => He (Q k) (R k) && He (Q' k) (R' k)) (k + 1) = true) := by show Fp _ (k + 1) = true; unfold Fp; rw [hz.out, hc.out, hd]; rfl
       clear hd
       go_wp2
       exact ⟨⟨bb, k + 1, by omega, by go_num, hs.out⟩, by simp [intOf]; omega⟩
    ·obtain rfl : k = 3 := by omega
     have hs := hA.out
     rw [hz.out] at hs
     subst hs
     clear hz hA
     have i3 : ¬ ((3 : Nat) : Int) < 3 := by omega
     go_wp2
     go_ret
     exact ⟨rfl, Ia b0' bb⟩
theorem Bb4 (N P P' : Nat → Bool) (S D Q R Q' R' : Nat → ByteArray) (w : World) :
  Calls Tryz.prog 9 #[(Cp (N 0) (S 0) (D 0) (N 1) (S 1) (D 1) (N 2) (S 2) (D 2) (N 3) (S 3) (D 3) (N 4) (S 4) (D 4) (N 5) (S 5) (D 5)), (Cp (P 0) (Q 0) (R 0) (P' 0) (Q' 0) (R' 0) (P 1) (Q 1) (R 1) (P' 1) (Q' 1) (R' 1) (P 2) (Q 2) (R 2) (P' 2) (Q' 2) (R' 2))] w (Re w (Iz (Fp (fun k => He (S k) (D k)) 6 && Fp (fun k => He (Q k) (R k) && He (Q' k) (R' k)) 3))) :=
 Yy N P P' S D Q R Q' R' w (fun n s d w1 => Tr n s d w1)
theorem Bgf (n : Bool) (s d : ByteArray) (w : World) (z : s.size ≤ 100 ∧ d.size ≤ 100) :
  Calls Tryz.prog 70 #[(Bo n s d)] w (Re w (.int .i64 (Bt n s d : Nat))) := by
 have i0 : ¬ (100 : Int) < s.size := by omega
 have i1 : ¬ (100 : Int) < d.size := by omega
 have HC : Hid (∀ w1, Calls Tryz.prog 134 #[(Bo n s d)] w1 (Re w1 (.int .i64 (Bt n s d : Nat)))) := fun w1 => Bav n s d w1 (by omega) (by omega)
 clear z
 go_enter Tryz.func70, Tryz.ntmps70
 go_wp2_with fail
 go_fit (HC.out _)
 rintro e w1 ⟨rfl, b1⟩
 obtain ⟨-, bb⟩ := Tf b1
 clear b1
 go_wp2
 go_ret
 exact ⟨rfl, bb⟩
theorem Bdp (N : Nat → Bool) (S D : Nat → ByteArray) (w : World) (hz : ∀ k, k < 6 → (S k).size ≤ 100 ∧ (D k).size ≤ 100) :
  Calls Tryz.prog 33 #[(Cp (N 0) (S 0) (D 0) (N 1) (S 1) (D 1) (N 2) (S 2) (D 2) (N 3) (S 3) (D 3) (N 4) (S 4) (D 4) (N 5) (S 5) (D 5))] w (Re w (.int .i64 (Br (fun k => Bt (N k) (S k) (D k)) 6 : Nat))) := by
 replace hz := Ba hz
 generalize hc : (fun k => Bt (N k) (S k) (D k)) = c
 replace hc := Ba hc
 go_enter Tryz.func33, Tryz.ntmps33
 go_upto_region 1 with fail
 obtain ⟨w0, hq, kf, bb⟩ := D7 w (Di (N 0) (S 0) (D 0) (N 1) (S 1) (D 1) (N 2) (S 2) (D 2) (N 3) (S 3) (D 3) (N 4) (S 4) (D 4) (N 5) (S 5) (D 5)) 28
 rw [← hq]
 clear hq
 have hf := Ba (Bfe kf)
 clear kf
 have b0 := bb
 clear bb
 go_wp2_with fail
 go_loopw [3] (fun i wr => Below w0.heap.size w0 wr ∧ ∃ k : Nat, k ≤ 6 ∧ i = .int .i64 k ∧ Br c k = 0) (fun i _ => 6 - (intOf i).toNat)
 case atStart => exact ⟨Jg _ _, 0, by omega, rfl, rfl⟩
 case round =>
  obtain ⟨bb, k, hk, rfl, hE⟩ := hrel
  by_cases hkn : k < 6
  ·obtain ⟨b, off, e, h0, h1, h2⟩ := hf.out.b bb k hkn
   injection e with e
   injection e with e1 e2
   subst e1 e2
   rw [Nat.zero_add] at h0 h1 h2
   have i1 : (k : Int) < 6 := by omega
   have i2 : ¬ (k : Int) < 0 := by omega
   replace hE := Ba hE
   go_wp2_with fail
   clear h0 h1 h2
   go_fit (Bgf _ _ _ _ (hz.out k hkn))
   rintro e w3 ⟨rfl, b1⟩
   replace bb := Ia bb b1
   clear b1
   have ek : Bt (N k) (S k) (D k) = c k := by rw [← hc.out]
   rw [ek]
   clear ek
   by_cases hc0 : c k = 0
   ·have hs : Hid (Br c (k + 1) = 0) := by show Br c (k + 1) = 0; unfold Br; rw [if_pos hE.out, hc0]
    rw [hc0]
    go_wp2
    exact ⟨⟨bb, k + 1, by omega, by go_num, hs.out⟩, by simp [intOf]; omega⟩
   ·have hs := Ba (Dv hE.out hc0 6 hkn)
    go_wp2
    go_ret
    exact ⟨by rw [hs.out]; rfl, Ia b0 bb⟩
  ·obtain rfl : k = 6 := by omega
   replace hE := Ba hE
   have i3 : ¬ ((6 : Nat) : Int) < 6 := by omega
   go_wp2
   go_ret
   exact ⟨by rw [hE.out]; rfl, Ia b0 bb⟩
theorem Bg1 (a : Option Addr) (n cap : Nat) (P P' : Nat → Bool) (Q R Q' R' : Nat → ByteArray) (w : World) (hn : n ≤ 1000) (hp : O7 w a n P Q R P' Q' R') (hz : ∀ k, k < n → ((Q k).size ≤ 100 ∧ (R k).size ≤ 100) ∧ ((Q' k).size ≤ 100 ∧ (R' k).size ≤ 100)) :
  Calls Tryz.prog 34 #[.slice a n cap] w (Re w (.int .i64 (Br (fun k => Fy (Bt (P k) (Q k) (R k)) (Bt (P' k) (Q' k) (R' k))) n : Nat))) := by
 replace hz := Ba hz
 replace hp := Ba hp
 generalize hc : (fun k => Fy (Bt (P k) (Q k) (R k)) (Bt (P' k) (Q' k) (R' k))) = c
 replace hc := Ba hc
 go_enter Tryz.func34, Tryz.ntmps34
 go_wp2_with fail
 go_loopw [3] (fun i wr => Below w.heap.size w wr ∧ ∃ k : Nat, k ≤ n ∧ i = .int .i64 k ∧ Br c k = 0) (fun i _ => n - (intOf i).toNat)
 case atStart => exact ⟨Jg _ _, 0, by omega, rfl, rfl⟩
 case round =>
  obtain ⟨bb, k, hk, rfl, hE⟩ := hrel
  by_cases hkn : k < n
  ·obtain ⟨b, off, rfl, h0, h1, h2, h3, h4, h5⟩ := hp.out.b bb k hkn
   have i1 : (k : Int) < (n : Int) := by omega
   have i2 : ¬ (k : Int) < 0 := by omega
   replace hE := Ba hE
   go_wp2_with fail
   clear h0 h1 h2
   go_fit (Bgf _ _ _ _ (hz.out k hkn).1)
   rintro e w3 ⟨rfl, b1⟩
   replace bb := Ia bb b1
   replace h3 := Bh h3 b1
   replace h4 := Bh h4 b1
   replace h5 := Bh h5 b1
   clear b1
   have ek : Fy (Bt (P k) (Q k) (R k)) (Bt (P' k) (Q' k) (R' k)) = c k := by rw [← hc.out]
   generalize ev : Bt (P k) (Q k) (R k) = v at *
   generalize ew : Bt (P' k) (Q' k) (R' k) = u at *
   by_cases hv : v = 0
   ·subst hv
    have ek' : u = c k := by rw [← ek]; rfl
    replace ew := Ba ew
    clear ek ev
    go_wp2_with fail
    clear h3 h4 h5
    go_fit (Bgf _ _ _ _ (hz.out k hkn).2)
    rintro e w4 ⟨rfl, b1⟩
    replace bb := Ia bb b1
    clear b1
    rw [ew.out]
    clear ew
    subst ek'
    by_cases hc0 : c k = 0
    ·have hs : Hid (Br c (k + 1) = 0) := by show Br c (k + 1) = 0; unfold Br; rw [if_pos hE.out, hc0]
     rw [hc0]
     go_wp2
     exact ⟨⟨bb, k + 1, by omega, by go_num, hs.out⟩, by simp [intOf]; omega⟩
    ·have hs := Ba (Dv hE.out hc0 n hkn)
     go_wp2
     go_ret
     exact ⟨by rw [hs.out]; rfl, bb⟩
   ·have ek' : v = c k := by rw [← ek]; unfold Fy; rw [if_neg hv]
    have hs := Ba (Dv hE.out (show c k ≠ 0 by omega) n hkn)
    clear ek ev ew h3 h4 h5
    subst ek'
    go_wp2
    go_ret
    exact ⟨by rw [hs.out]; rfl, bb⟩
  ·obtain rfl : k = n := by omega
   replace hE := Ba hE
   have i3 : ¬ (k : Int) < (k : Int) := by omega
   go_wp2
   go_ret
   exact ⟨by rw [hE.out]; rfl, bb⟩
end Go.Proofs.YtnplifkgeeicjaaGreatDoor
