/-
  Points and numbers in their one form: vec, rat.Div; gussetref04's Scale and Plus, gussetref03's Over.
  Package cons: Near2, walked.
  Package cons: Near2, walked, near the second end.
  gussetlaw06: ConsAngles, walked; gussetref06: Far2.
  Package cons, in numbers' one form.
  gussetlaw06: ConsAngles holds.
  gussetref06: Asked; gussetref05: Asked of one point.
  Package cons, in numbers' one form: distances.
  gussetlaw06: live.
  gussetlaw06: ConsNear holds.
  gussetlaw06: ConsNear holds.
-/
import Derived.Test.YtmojdkjpcjfkeaaGreatDoorN44
import Derived.Test.YtmojdkjpcjfkeaaGreatDoorN45
import Derived.Test.YtmojdkjpcjfkeaaGreatDoorN52
import Derived.Test.YtmojdkjpcjfkeaaGreatDoorN53
import Derived.Test.YtmojdkjpcjfkeaaGreatDoorN54
set_option maxRecDepth 100000
set_option maxHeartbeats 16000000
namespace Go.Proofs.YtmojdkjpcjfkeaaGreatDoor
open Go.RowKit
theorem vq_inv {a : Rat} {k : Nat} (ha : Bq a k) : Bq a⁻¹ k := by
 show Bq (Rat.inv a) k
 unfold Rat.inv
 split
 ·exact ⟨by show (-(a.den : Int)).natAbs < _; rw [Int.natAbs_neg]; exact ha.2, by show ((a.num.natAbs : Nat) : Int).natAbs < _; rw [Int.natAbs_natCast]; exact ha.1⟩
 ·split
  ·exact ⟨ha.2, by show ((a.num.natAbs : Nat) : Int).natAbs < _; rw [Int.natAbs_natCast]; exact ha.1⟩
  ·exact ha
theorem bq_sz {x : Rat} {K M : Nat} (hK : K ≤ M) (b : Bq x K) : (sfZ x.num).size ≤ M ∧ (strOf x.den).size ≤ M := by
 have h1 : (sfZ x.num).size ≤ K := b.1.size
 have h2 := b.2.size
 simp at h2
 omega
theorem chk_can8 (x : Rat) {K : Nat} (hK : K ≤ 4000) (b : Bq x K) : chkq (nfZ x.num) (sfZ x.num) (strOf x.den) = 0 :=
 chkq_ok (okQ_qI x) (by have := (bq_sz (M := 4000) hK b).1; omega) (by have := (bq_sz (M := 4000) hK b).2; omega)
theorem nat_pos {x : Rat} (h : ¬ x = 0) : 0 < natOf (sfZ x.num) := by
 have e : natOf (sfZ x.num) = x.num.natAbs := natOf_strOf _
 have : ¬ x.num = 0 := fun q => h (Rat.num_eq_zero.1 q)
 omega
theorem vplusI (x y x' y' : Rat) {K : Nat} (hK : K ≤ 4000) (b0 : Bq x K) (b1 : Bq y K) (b2 : Bq x' K) (b3 : Bq y' K) (w : World) (hT : Tab w) : Calls Tryz.prog 46 #[.agg #[.bool (nfZ (x).num), .string (sfZ (x).num), .string (strOf (x).den), .bool (nfZ (y).num), .string (sfZ (y).num), .string (strOf (y).den)], .agg #[.bool (nfZ (x').num), .string (sfZ (x').num), .string (strOf (x').den), .bool (nfZ (y').num), .string (sfZ (y').num), .string (strOf (y').den)]] w (Re w (.tuple #[.agg #[.bool (nfZ (x + x').num), .string (sfZ (x + x').num), .string (strOf (x + x').den), .bool (nfZ (y + y').num), .string (sfZ (y + y').num), .string (strOf (y + y').den)], .int .i64 0])) := by
 have := vplus_ok (nfZ (x).num) (nfZ (y).num) (nfZ (x').num) (nfZ (y').num) (sfZ (x).num) (strOf (x).den) (sfZ (y).num) (strOf (y).den) (sfZ (x').num) (strOf (x').den) (sfZ (y').num) (strOf (y').den) w hT (two_zero.2 ⟨twoq_zero.2 ⟨chk_can8 x (by omega) b0, chk_can8 y (by omega) b1⟩, twoq_zero.2 ⟨chk_can8 x' (by omega) b2, chk_can8 y' (by omega) b3⟩⟩) (bq_sz hK b0) (bq_sz hK b1) (bq_sz hK b2) (bq_sz hK b3)
 simp only [qOf_one] at this
 exact this
theorem roverI (x y : Rat) {K : Nat} (hK : K ≤ 4000) (b0 : Bq x K) (b1 : Bq y K) (h : ¬ y = 0) (w : World) : Calls Tryz.prog 51 #[.agg #[.bool (nfZ (x).num), .string (sfZ (x).num), .string (strOf (x).den)], .agg #[.bool (nfZ (y).num), .string (sfZ (y).num), .string (strOf (y).den)]] w (Re w (.agg #[.bool (nfZ (x / y).num), .string (sfZ (x / y).num), .string (strOf (x / y).den)])) := by
 have := roverq_any (nfZ (x).num) (nfZ (y).num) (sfZ (x).num) (strOf (x).den) (sfZ (y).num) (strOf (y).den) w (okQ_qI x) hK (bq_sz (Nat.le_refl _) b0).1 (bq_sz (Nat.le_refl _) b0).2 (bq_sz (Nat.le_refl _) b1).1 (bq_sz (Nat.le_refl _) b1).2 (nat_pos h)
 simp only [qOf_one] at this
 exact this
theorem rscaleP (x y k : Rat) {K : Nat} (hK : K ≤ 4000) (b0 : Bq x K) (b1 : Bq y K) (b2 : Bq k K) (w : World) : Calls Tryz.prog 29 #[.agg #[.bool (nfZ (x).num), .string (sfZ (x).num), .string (strOf (x).den), .bool (nfZ (y).num), .string (sfZ (y).num), .string (strOf (y).den)], .agg #[.bool (nfZ (k).num), .string (sfZ (k).num), .string (strOf (k).den)]] w (Re w (.agg #[.bool (nfZ (x * k).num), .string (sfZ (x * k).num), .string (strOf (x * k).den), .bool (nfZ (y * k).num), .string (sfZ (y * k).num), .string (strOf (y * k).den)])) :=
 rscale_walk _ _ _ _ _ _ _ _ _ _ _ _ _ _ _ w (fun w1 => rtimesI x k hK b0 b2 w1) (fun w1 => rtimesI y k hK b1 b2 w1)
theorem rplusP (x y x' y' : Rat) {K : Nat} (hK : K ≤ 4000) (b0 : Bq x K) (b1 : Bq y K) (b2 : Bq x' K) (b3 : Bq y' K) (w : World) : Calls Tryz.prog 28 #[.agg #[.bool (nfZ (x).num), .string (sfZ (x).num), .string (strOf (x).den), .bool (nfZ (y).num), .string (sfZ (y).num), .string (strOf (y).den)], .agg #[.bool (nfZ (x').num), .string (sfZ (x').num), .string (strOf (x').den), .bool (nfZ (y').num), .string (sfZ (y').num), .string (strOf (y').den)]] w (Re w (.agg #[.bool (nfZ (x + x').num), .string (sfZ (x + x').num), .string (strOf (x + x').den), .bool (nfZ (y + y').num), .string (sfZ (y + y').num), .string (strOf (y + y').den)])) :=
 rplus4_walk _ _ _ _ _ _ _ _ _ _ _ _ _ _ _ _ _ _ w (fun w1 => rsumI x x' hK b0 b2 w1) (fun w1 => rsumI y y' hK b1 b3 w1)
theorem cNear_bad (n0 n1 n2 n3 n4 n5 : Bool) (s0 d0 s1 d1 s2 d2 s3 d3 s4 d4 s5 d5 : ByteArray) (E : Int) (w : World) (hE : ¬ E = 0)
  (HC : Hid (∀ (w1 : World) (B : Nat), Below w.heap.size w w1 → Cel w1 B [.bool n0, .string s0, .string d0, .bool n1, .string s1, .string d1, .bool n2, .string s2, .string d2, .bool n3, .string s3, .string d3, .bool n4, .string s4, .string d4, .bool n5, .string s5, .string d5] 28 → Calls Tryz.prog 40 #[.slice (some ⟨B, 0, none⟩) 3 3] w1 (Re w1 (.int .i64 E)))) :
  Calls Tryz.prog 18 #[.agg #[.bool n0, .string s0, .string d0, .bool n1, .string s1, .string d1], .agg #[.bool n2, .string s2, .string d2, .bool n3, .string s3, .string d3], .agg #[.bool n4, .string s4, .string d4, .bool n5, .string s5, .string d5]] w (Re w (.tuple #[.agg #[.bool false, .string { data := #[] }, .string { data := #[] }], .int .i64 E])) := by
 go_enter Tryz.func18, Tryz.ntmps18
 go_wp2_with fail
 obtain ⟨w0, hw, ka, kb, kc, kr, kl, bb⟩ := mk5 w [.bool n0, .string s0, .string d0, .bool n1, .string s1, .string d1] [.bool n2, .string s2, .string d2, .bool n3, .string s3, .string d3] [.bool n4, .string s4, .string d4, .bool n5, .string s5, .string d5] [.bool false, .string { data := #[] }, .string { data := #[] }] [.bool n0, .string s0, .string d0, .bool n1, .string s1, .string d1, .bool n2, .string s2, .string d2, .bool n3, .string s3, .string d3, .bool n4, .string s4, .string d4, .bool n5, .string s5, .string d5] 28 28 28 26 28
 rw [← hw]
 clear hw
 go_fit (HC.out _ _ bb kl)
 rintro e w1 ⟨rfl, b1⟩
 replace ka := ka.below b1
 replace kb := kb.below b1
 replace kc := kc.below b1
 replace kr := kr.below b1
 replace bb := Below.after bb b1
 clear b1 kl
 have e0 := cel3_0 kr
 have f0 := Cel.frozen kr 0
 have e1 := cel3_1 kr
 have f1 := Cel.frozen kr 1
 have e2 := cel3_2 kr
 have f2 := Cel.frozen kr 2
 go_wp2
 exact post_q1 (p := 6) (u := 7) (v := .int .i64 E) (by kernel_rfl) rfl rfl rfl (((kr.set 0 _).set 1 _).set 2 _) ⟨rfl, bset (bset (bset bb (by omega) 0 _) (by omega) 1 _) (by omega) 2 _⟩
theorem cNear_same (n0 n1 n2 n3 n4 n5 : Bool) (s0 d0 s1 d1 s2 d2 s3 d3 s4 d4 s5 d5 : ByteArray) (xN : Bool) (xS xD : ByteArray) (w : World)
  (HC : Hid (∀ (w1 : World) (B : Nat), Below w.heap.size w w1 → Cel w1 B [.bool n0, .string s0, .string d0, .bool n1, .string s1, .string d1, .bool n2, .string s2, .string d2, .bool n3, .string s3, .string d3, .bool n4, .string s4, .string d4, .bool n5, .string s5, .string d5] 28 → Calls Tryz.prog 40 #[.slice (some ⟨B, 0, none⟩) 3 3] w1 (Re w1 (.int .i64 0))))
  (q1 : ∀ w1, (binOp .eql 28 (.agg #[.bool n0, .string s0, .string d0, .bool n1, .string s1, .string d1]) (.agg #[.bool n2, .string s2, .string d2, .bool n3, .string s3, .string d3])).run Tryz.prog w1 = .ok (.bool true) w1)
  (HF : Hid (∀ w1, Below w.heap.size w w1 → Calls Tryz.prog 56 #[.agg #[.bool n0, .string s0, .string d0, .bool n1, .string s1, .string d1], .agg #[.bool n4, .string s4, .string d4, .bool n5, .string s5, .string d5]] w1 (Re w1 (.agg #[.bool xN, .string xS, .string xD])))) :
  Calls Tryz.prog 18 #[.agg #[.bool n0, .string s0, .string d0, .bool n1, .string s1, .string d1], .agg #[.bool n2, .string s2, .string d2, .bool n3, .string s3, .string d3], .agg #[.bool n4, .string s4, .string d4, .bool n5, .string s5, .string d5]] w (Re w (.tuple #[.agg #[.bool xN, .string xS, .string xD], .int .i64 0])) := by
 go_enter Tryz.func18, Tryz.ntmps18
 go_wp2_with fail
 obtain ⟨w0, hw, ka, kb, kc, kr, kl, bb⟩ := mk5 w [.bool n0, .string s0, .string d0, .bool n1, .string s1, .string d1] [.bool n2, .string s2, .string d2, .bool n3, .string s3, .string d3] [.bool n4, .string s4, .string d4, .bool n5, .string s5, .string d5] [.bool false, .string { data := #[] }, .string { data := #[] }] [.bool n0, .string s0, .string d0, .bool n1, .string s1, .string d1, .bool n2, .string s2, .string d2, .bool n3, .string s3, .string d3, .bool n4, .string s4, .string d4, .bool n5, .string s5, .string d5] 28 28 28 26 28
 rw [← hw]
 clear hw
 go_fit (HC.out _ _ bb kl)
 rintro e w1 ⟨rfl, b1⟩
 replace ka := ka.below b1
 replace kb := kb.below b1
 replace kc := kc.below b1
 replace kr := kr.below b1
 replace bb := Below.after bb b1
 clear b1 kl
 obtain ⟨ca0, ca1, ca2, ca3, ca4, ca5⟩ := xk6 ka
 obtain ⟨cb0, cb1, cb2, cb3, cb4, cb5⟩ := xk6 kb
 obtain ⟨cc0, cc1, cc2, cc3, cc4, cc5⟩ := xk6 kc
 go_wp2_with fail
 clear ca0 ca1 ca2 ca3 ca4 ca5 cb0 cb1 cb2 cb3 cb4 cb5 cc0 cc1 cc2 cc3 cc4 cc5
 go_fit (HF.out _ bb)
 rintro e wz ⟨rfl, b1⟩
 replace kr := kr.below b1
 replace bb := Below.after bb b1
 clear b1
 have e0 := cel3_0 kr
 have f0 := Cel.frozen kr 0
 have e1 := cel3_1 kr
 have f1 := Cel.frozen kr 1
 have e2 := cel3_2 kr
 have f2 := Cel.frozen kr 2
 go_wp2
 exact post_q1 (p := 6) (u := 7) (v := .int .i64 0) (by kernel_rfl) rfl rfl rfl (((kr.set 0 _).set 1 _).set 2 _) ⟨rfl, bset (bset (bset bb (by omega) 0 _) (by omega) 1 _) (by omega) 2 _⟩
theorem cNear_b (n0 n1 n2 n3 n4 n5 : Bool) (s0 d0 s1 d1 s2 d2 s3 d3 s4 d4 s5 d5 : ByteArray) (xN : Bool) (xS xD : ByteArray) (ux uy vx vy tx ty : Rat) (w : World)
  (HC : Hid (∀ (w1 : World) (B : Nat), Below w.heap.size w w1 → Cel w1 B [.bool n0, .string s0, .string d0, .bool n1, .string s1, .string d1, .bool n2, .string s2, .string d2, .bool n3, .string s3, .string d3, .bool n4, .string s4, .string d4, .bool n5, .string s5, .string d5] 28 → Calls Tryz.prog 40 #[.slice (some ⟨B, 0, none⟩) 3 3] w1 (Re w1 (.int .i64 0))))
  (q1 : ∀ w1, (binOp .eql 28 (.agg #[.bool n0, .string s0, .string d0, .bool n1, .string s1, .string d1]) (.agg #[.bool n2, .string s2, .string d2, .bool n3, .string s3, .string d3])).run Tryz.prog w1 = .ok (.bool false) w1)
  (H1 : Hid (∀ w1, Calls Tryz.prog 57 #[.agg #[.bool n0, .string s0, .string d0, .bool n1, .string s1, .string d1], .agg #[.bool n2, .string s2, .string d2, .bool n3, .string s3, .string d3]] w1 fun e w' => ∃ m0 a0 l0 c0 m1 a1 l1 c1 a2 l2 c2 X Y U, e = .returned (.agg #[.bool m0, .slice a0 l0 c0, .bool m1, .slice a1 l1 c1, .bool false, .slice a2 l2 c2]) ∧ SpV w' m0 a0 l0 c0 m1 a1 l1 c1 a2 l2 c2 X Y U ux uy ∧ Below w1.heap.size w1 w'))
  (H2 : Hid (∀ w1, Calls Tryz.prog 57 #[.agg #[.bool n0, .string s0, .string d0, .bool n1, .string s1, .string d1], .agg #[.bool n4, .string s4, .string d4, .bool n5, .string s5, .string d5]] w1 fun e w' => ∃ m0 a0 l0 c0 m1 a1 l1 c1 a2 l2 c2 X Y U, e = .returned (.agg #[.bool m0, .slice a0 l0 c0, .bool m1, .slice a1 l1 c1, .bool false, .slice a2 l2 c2]) ∧ SpV w' m0 a0 l0 c0 m1 a1 l1 c1 a2 l2 c2 X Y U vx vy ∧ Below w1.heap.size w1 w')) (hd : ¬ Gm.sg (ux * vx + uy * vy) ≤ 0) (hb : 0 ≤ Gm.sg (ux * tx + uy * ty))
  (H3 : Hid (∀ w1, Calls Tryz.prog 57 #[.agg #[.bool n2, .string s2, .string d2, .bool n3, .string s3, .string d3], .agg #[.bool n4, .string s4, .string d4, .bool n5, .string s5, .string d5]] w1 fun e w' => ∃ m0 a0 l0 c0 m1 a1 l1 c1 a2 l2 c2 X Y U, e = .returned (.agg #[.bool m0, .slice a0 l0 c0, .bool m1, .slice a1 l1 c1, .bool false, .slice a2 l2 c2]) ∧ NV w' m0 (.slice a0 l0 c0) X 53 ∧ NV w' m1 (.slice a1 l1 c1) Y 53 ∧ NV w' false (.slice a2 l2 c2) U 52 ∧ Gm.Way X Y U tx ty ∧ Below w1.heap.size w1 w'))
  (HF : Hid (∀ w1, Below w.heap.size w w1 → Calls Tryz.prog 56 #[.agg #[.bool n2, .string s2, .string d2, .bool n3, .string s3, .string d3], .agg #[.bool n4, .string s4, .string d4, .bool n5, .string s5, .string d5]] w1 (Re w1 (.agg #[.bool xN, .string xS, .string xD])))) :
  Calls Tryz.prog 18 #[.agg #[.bool n0, .string s0, .string d0, .bool n1, .string s1, .string d1], .agg #[.bool n2, .string s2, .string d2, .bool n3, .string s3, .string d3], .agg #[.bool n4, .string s4, .string d4, .bool n5, .string s5, .string d5]] w (Re w (.tuple #[.agg #[.bool xN, .string xS, .string xD], .int .i64 0])) := by
 go_enter Tryz.func18, Tryz.ntmps18
 go_wp2_with fail
 obtain ⟨w0, hw, ka, kb, kc, kr, kl, bb⟩ := mk5 w [.bool n0, .string s0, .string d0, .bool n1, .string s1, .string d1] [.bool n2, .string s2, .string d2, .bool n3, .string s3, .string d3] [.bool n4, .string s4, .string d4, .bool n5, .string s5, .string d5] [.bool false, .string { data := #[] }, .string { data := #[] }] [.bool n0, .string s0, .string d0, .bool n1, .string s1, .string d1, .bool n2, .string s2, .string d2, .bool n3, .string s3, .string d3, .bool n4, .string s4, .string d4, .bool n5, .string s5, .string d5] 28 28 28 26 28
 rw [← hw]
 clear hw
 go_fit (HC.out _ _ bb kl)
 rintro e w1 ⟨rfl, b1⟩
 replace ka := ka.below b1
 replace kb := kb.below b1
 replace kc := kc.below b1
 replace kr := kr.below b1
 replace bb := Below.after bb b1
 clear b1 kl
 have tr := kr.lt
 obtain ⟨ca_0, ca_1, ca_2, ca_3, ca_4, ca_5⟩ := xk6 ka
 obtain ⟨cb_6, cb_7, cb_8, cb_9, cb_10, cb_11⟩ := xk6 kb
 obtain ⟨cc_12, cc_13, cc_14, cc_15, cc_16, cc_17⟩ := xk6 kc
 go_wp2_with fail
 clear ca_0 ca_1 ca_2 ca_3 ca_4 ca_5 cb_6 cb_7 cb_8 cb_9 cb_10 cb_11 cc_12 cc_13 cc_14 cc_15 cc_16 cc_17
 have mk : Hid (∀ w', SB w1 w' → xc6 w' w.heap.size (.bool n0) (.string s0) (.string d0) (.bool n1) (.string s1) (.string d1) ∧ xc6 w' (w.heap.size + 1) (.bool n2) (.string s2) (.string d2) (.bool n3) (.string s3) (.string d3) ∧ xc6 w' (w.heap.size + 1 + 1) (.bool n4) (.string s4) (.string d4) (.bool n5) (.string s5) (.string d5)) := fun w' h => ⟨xk6 (ka.below h), xk6 (kb.below h), xk6 (kc.below h)⟩
 go_cut [9, 10] from 27 to 32 (fun v u wx => ∃ gc gd m1 a1 l1 c1 m2 a2 l2 c2 a3 l3 c3 X1 Y1 U1 m4 a4 l4 c4 m5 a5 l5 c5 a6 l6 c6 X4 Y4 U4, v = .pointer (some ⟨gc, 0, none⟩) ∧ u = .pointer (some ⟨gd, 0, none⟩) ∧ w1.heap.size ≤ gc ∧ w1.heap.size ≤ gd ∧ Cel wx gc [.bool m1, .slice a1 l1 c1, .bool m2, .slice a2 l2 c2, .bool false, .slice a3 l3 c3] 78 ∧ Cel wx gd [.bool m4, .slice a4 l4 c4, .bool m5, .slice a5 l5 c5, .bool false, .slice a6 l6 c6] 78 ∧ SpV wx m1 a1 l1 c1 m2 a2 l2 c2 a3 l3 c3 X1 Y1 U1 ux uy ∧ SpV wx m4 a4 l4 c4 m5 a5 l5 c5 a6 l6 c6 X4 Y4 U4 vx vy ∧ Below w1.heap.size w1 wx)
 case first =>
  clear HC q1 HF H3
  refine wp_region_held_drew (S := SB w1) (by kernel_rfl) (bdrew _) (fun bc => ?_)
  refine WA.start (n := 10) (by kernel_rfl) ?_
  refine WA.tl 0 rfl ?_
  refine WA.tl 1 rfl ?_
  refine WA.tl 3 rfl ?_
  refine WA.tl 4 rfl ?_
  refine WA.gen2 (i := 6) (s := 9) (i' := 7) (s' := 10) undef undef (Pt w1 [.bool false, .slice none 0 0, .bool false, .slice none 0 0, .bool false, .slice none 0 0] 78) (Pt w1 [.bool false, .slice none 0 0, .bool false, .slice none 0 0, .bool false, .slice none 0 0] 78) (fun b b' x x' hz hy hn => ?_)
  simp only [Act.put, List.setIfInBounds_toArray, List.set_cons_zero, List.set_cons_succ]
  replace hz := P2.mk hz hy hn
  clear hy hn
  revert b b' x x'
  refine WA.two 10 27 2 6 7 rfl rfl rfl bc ?_
  clear bc
  intro b b' x x' w' hz bx bc K hK
  clear bx
  simp only [List.getElem_toArray, List.getElem_cons_succ, List.getElem_cons_zero]
  go_simp
  go_fit (H1.out _)
  rintro e wn ⟨m1, a1, l1, c1, m2, a2, l2, c2, a3, l3, c3, X1, Y1, U1, rfl, sv1, bn⟩
  replace bc := Below.after bc bn
  try go_wp2_with fail
  refine hK.out _ _ bc (fun _ => ?_)
  replace hz := hz.below bn
  clear hK K bn
  revert b b' x x'
  refine WA.two 10 31 5 6 7 rfl rfl rfl bc ?_
  clear bc
  intro b b' x x' w' hz bx bc K hK
  replace sv1 := sv1.below bx
  clear bx
  simp only [List.getElem_toArray, List.getElem_cons_succ, List.getElem_cons_zero]
  go_simp
  go_fit (H2.out _)
  rintro e wn ⟨m4, a4, l4, c4, m5, a5, l5, c5, a6, l6, c6, X4, Y4, U4, rfl, sv4, bn⟩
  replace bc := Below.after bc bn
  try go_wp2_with fail
  refine hK.out _ _ bc (fun _ => ?_)
  replace hz := hz.below bn
  replace sv1 := sv1.below bn
  clear hK K bn
  revert b b' x x'
  refine WA.fin2 6 7 rfl rfl bc ?_
  clear bc
  intro x x' w' hz bx bc
  replace sv1 := sv1.below bx
  replace sv4 := sv4.below bx
  obtain ⟨g0, rfl, h0, k0⟩ := hz.p rfl
  obtain ⟨g1, rfl, h1, k1⟩ := hz.p' rfl
  have n01 : ¬ g0 = g1 := fun e => hz.ne rfl rfl (by rw [e])
  clear bx hz
  have e0_0 := cel6_0 k0
  have f0_0 := Cel.frozen k0 0
  have e0_1 := cel6_1 k0
  have f0_1 := Cel.frozen k0 1
  have e0_2 := cel6_2 k0
  have f0_2 := Cel.frozen k0 2
  have e0_3 := cel6_3 k0
  have f0_3 := Cel.frozen k0 3
  have e0_4 := cel6_4 k0
  have f0_4 := Cel.frozen k0 4
  have e0_5 := cel6_5 k0
  have f0_5 := Cel.frozen k0 5
  refine WA.call 8 rfl (fun K hK => ?_)
  simp only [List.getElem_toArray, List.getElem_cons_succ, List.getElem_cons_zero]
  go_simp
  try go_wp2_with fail
  clear e0_0 f0_0 e0_1 f0_1 e0_2 f0_2 e0_3 f0_3 e0_4 f0_4 e0_5 f0_5
  refine hK.out _ _ (bset (bset (bset (bset (bset (bset bc h0 0 (.bool m1)) h0 1 (.slice a1 l1 c1)) h0 2 (.bool m2)) h0 3 (.slice a2 l2 c2)) h0 4 (.bool false)) h0 5 (.slice a3 l3 c3)) (fun hS => ?_)
  clear hK K
  replace sv1 := sv1.set6 k0 (.bool m1) (.slice a1 l1 c1) (.bool m2) (.slice a2 l2 c2) (.bool false) (.slice a3 l3 c3)
  replace sv4 := sv4.set6 k0 (.bool m1) (.slice a1 l1 c1) (.bool m2) (.slice a2 l2 c2) (.bool false) (.slice a3 l3 c3)
  replace k0 := (Cel.set (Cel.set (Cel.set (Cel.set (Cel.set (Cel.set k0 0 (.bool m1)) 1 (.slice a1 l1 c1)) 2 (.bool m2)) 3 (.slice a2 l2 c2)) 4 (.bool false)) 5 (.slice a3 l3 c3))
  replace k1 := (Cel.other (Cel.other (Cel.other (Cel.other (Cel.other (Cel.other k1 (fun e => n01 e.symm) 0 (.bool m1)) (fun e => n01 e.symm) 1 (.slice a1 l1 c1)) (fun e => n01 e.symm) 2 (.bool m2)) (fun e => n01 e.symm) 3 (.slice a2 l2 c2)) (fun e => n01 e.symm) 4 (.bool false)) (fun e => n01 e.symm) 5 (.slice a3 l3 c3))
  replace bc := (bset (bset (bset (bset (bset (bset bc h0 0 (.bool m1)) h0 1 (.slice a1 l1 c1)) h0 2 (.bool m2)) h0 3 (.slice a2 l2 c2)) h0 4 (.bool false)) h0 5 (.slice a3 l3 c3))
  have e1_0 := cel6_0 k1
  have f1_0 := Cel.frozen k1 0
  have e1_1 := cel6_1 k1
  have f1_1 := Cel.frozen k1 1
  have e1_2 := cel6_2 k1
  have f1_2 := Cel.frozen k1 2
  have e1_3 := cel6_3 k1
  have f1_3 := Cel.frozen k1 3
  have e1_4 := cel6_4 k1
  have f1_4 := Cel.frozen k1 4
  have e1_5 := cel6_5 k1
  have f1_5 := Cel.frozen k1 5
  refine WA.call 9 rfl (fun K hK => ?_)
  simp only [List.getElem_toArray, List.getElem_cons_succ, List.getElem_cons_zero]
  go_simp
  try go_wp2_with fail
  clear e1_0 f1_0 e1_1 f1_1 e1_2 f1_2 e1_3 f1_3 e1_4 f1_4 e1_5 f1_5
  refine hK.out _ _ (bset (bset (bset (bset (bset (bset bc h1 0 (.bool m4)) h1 1 (.slice a4 l4 c4)) h1 2 (.bool m5)) h1 3 (.slice a5 l5 c5)) h1 4 (.bool false)) h1 5 (.slice a6 l6 c6)) (fun hS => ?_)
  clear hK K
  replace sv1 := sv1.set6 k1 (.bool m4) (.slice a4 l4 c4) (.bool m5) (.slice a5 l5 c5) (.bool false) (.slice a6 l6 c6)
  replace sv4 := sv4.set6 k1 (.bool m4) (.slice a4 l4 c4) (.bool m5) (.slice a5 l5 c5) (.bool false) (.slice a6 l6 c6)
  replace k0 := (Cel.other (Cel.other (Cel.other (Cel.other (Cel.other (Cel.other k0 n01 0 (.bool m4)) n01 1 (.slice a4 l4 c4)) n01 2 (.bool m5)) n01 3 (.slice a5 l5 c5)) n01 4 (.bool false)) n01 5 (.slice a6 l6 c6))
  replace k1 := (Cel.set (Cel.set (Cel.set (Cel.set (Cel.set (Cel.set k1 0 (.bool m4)) 1 (.slice a4 l4 c4)) 2 (.bool m5)) 3 (.slice a5 l5 c5)) 4 (.bool false)) 5 (.slice a6 l6 c6))
  replace bc := (bset (bset (bset (bset (bset (bset bc h1 0 (.bool m4)) h1 1 (.slice a4 l4 c4)) h1 2 (.bool m5)) h1 3 (.slice a5 l5 c5)) h1 4 (.bool false)) h1 5 (.slice a6 l6 c6))
  refine WA.done (by kernel_rfl) ?_
  go_wp2_with fail
  go_meet
  exact ⟨_, _, m1, a1, l1, c1, m2, a2, l2, c2, a3, l3, c3, X1, Y1, U1, m4, a4, l4, c4, m5, a5, l5, c5, a6, l6, c6, X4, Y4, U4, rfl, rfl, h0, h1, k0, k1, sv1, sv4, bc⟩
 case rest =>
 obtain ⟨gu, gv, m1, a1, l1, c1, m2, a2, l2, c2, a3, l3, c3, X1, Y1, U1, m4, a4, l4, c4, m5, a5, l5, c5, a6, l6, c6, X4, Y4, U4, rfl, rfl, lu, lv, ku, kv, sv1, sv4, b1⟩ := hcut
 clear mk
 have sz := b1.size
 replace ka := ka.below b1
 replace kb := kb.below b1
 replace kc := kc.below b1
 replace kr := kr.below b1
 replace bb := Below.after bb b1
 clear b1
 have tu := ku.lt
 have tv := kv.lt
 obtain ⟨cu_0, cu_1, cu_2, cu_3, cu_4, cu_5⟩ := xk6 ku
 obtain ⟨cv_6, cv_7, cv_8, cv_9, cv_10, cv_11⟩ := xk6 kv
 go_wp2_with fail
 clear cu_0 cu_1 cu_2 cu_3 cu_4 cu_5 cv_6 cv_7 cv_8 cv_9 cv_10 cv_11
 go_fit (sdot_any _ _ _ _ _ _ _ _ _ _ _ _ _ _ _ _ _ _ _ _ _ _ _ _ X1 Y1 X4 Y4 53 _ (by omega) sv1.1 sv1.2.1 sv4.1 sv4.2.1)
 rintro e w2 ⟨m7, v7, rfl, nv7, b1⟩
 obtain ⟨a7, l7, c7, rfl⟩ := nv7.slice
 replace ka := ka.below b1
 replace kb := kb.below b1
 replace kc := kc.below b1
 replace kr := kr.below b1
 replace ku := ku.below b1
 replace kv := kv.below b1
 replace sv1 := sv1.below b1
 replace sv4 := sv4.below b1
 replace bb := Below.after bb b1
 clear b1
 go_wp2_with fail
 go_fit (nsign_any _ _ (X1 * X4 + Y1 * Y4) (53 + 53 + 1) _ nv7)
 rintro e w3 ⟨rfl, b1⟩
 clear nv7
 replace ka := ka.below b1
 replace kb := kb.below b1
 replace kc := kc.below b1
 replace kr := kr.below b1
 replace ku := ku.below b1
 replace kv := kv.below b1
 replace sv1 := sv1.below b1
 replace sv4 := sv4.below b1
 replace bb := Below.after bb b1
 clear b1
 rw [Gm.dot_sign sv1.2.2.2 sv4.2.2.2]
 obtain ⟨nx, ny, -, hw1⟩ := sv1
 clear sv4
 go_wp2_with fail
 have mkS : Hid (∀ w', Cel w' (gu) [.bool m1, .slice a1 l1 c1, .bool m2, .slice a2 l2 c2, .bool false, .slice a3 l3 c3] 78 → Cel w' (w.heap.size + 1) [.bool n2, .string s2, .string d2, .bool n3, .string s3, .string d3] 28 → Cel w' (w.heap.size + 1 + 1) [.bool n4, .string s4, .string d4, .bool n5, .string s5, .string d5] 28 → (xc6 w' gu (.bool m1) (.slice a1 l1 c1) (.bool m2) (.slice a2 l2 c2) (.bool false) (.slice a3 l3 c3) ∧ xc6 w' (w.heap.size + 1) (.bool n2) (.string s2) (.string d2) (.bool n3) (.string s3) (.string d3) ∧ xc6 w' (w.heap.size + 1 + 1) (.bool n4) (.string s4) (.string d4) (.bool n5) (.string s5) (.string d5))) := fun w' hu hb hc => ⟨xk6 hu, xk6 hb, xk6 hc⟩
 go_region_held3 (fun w' => xc6 w' gu (.bool m1) (.slice a1 l1 c1) (.bool m2) (.slice a2 l2 c2) (.bool false) (.slice a3 l3 c3) ∧ xc6 w' (w.heap.size + 1) (.bool n2) (.string s2) (.string d2) (.bool n3) (.string s3) (.string d3) ∧ xc6 w' (w.heap.size + 1 + 1) (.bool n4) (.string s4) (.string d4) (.bool n5) (.string s5) (.string d5)) (first | with_reducible exact mkS.out _ ku kb kc | exact mkS.out _ ku kb kc) (first | (go_at_call 57; go_fit (H3.out _); rintro e wn ⟨m20, a20, l20, c20, m21, a21, l21, c21, a22, l22, c22, X9, Y9, U9, rfl, nv20, nv21, nv22, hw9, bn⟩; replace ku := ku.below (un bn); replace kv := kv.below (un bn); replace ka := ka.below (un bn); replace kb := kb.below (un bn); replace kc := kc.below (un bn); replace kr := kr.below (un bn); (try replace nx := nx.below (un bn)); (try replace ny := ny.below (un bn)); (try replace nv8 := nv8.below (un bn)); replace bb := Below.after bb (un bn)) | (go_at_call 58; go_fit (sdot_any _ _ _ _ _ _ _ _ _ _ _ _ _ _ _ _ _ _ _ _ _ _ _ _ X1 Y1 X9 Y9 53 _ (by omega) ?_ ?_ ?_ ?_); (first | exact nx | exact nx.drew); (first | exact ny | exact ny.drew); (first | exact nv20 | exact nv20.drew); (first | exact nv21 | exact nv21.drew); rintro e wn ⟨m8, v8, rfl, nv8, bn⟩; obtain ⟨a8, l8, c8, rfl⟩ := nv8.slice; replace ku := ku.below (un bn); replace kv := kv.below (un bn); replace ka := ka.below (un bn); replace kb := kb.below (un bn); replace kc := kc.below (un bn); replace kr := kr.below (un bn); (try replace nx := nx.below (un bn)); (try replace ny := ny.below (un bn)); (try replace nv20 := nv20.below (un bn)); (try replace nv21 := nv21.below (un bn)); replace bb := Below.after bb (un bn)) | (go_at_call 59; go_fit (nsign_any _ _ (X1 * X9 + Y1 * Y9) (53 + 53 + 1) _ ?_); (first | exact nv8 | exact nv8.drew); rintro e wn ⟨rfl, bn⟩; replace ku := ku.below (un bn); replace kv := kv.below (un bn); replace ka := ka.below (un bn); replace kb := kb.below (un bn); replace kc := kc.below (un bn); replace kr := kr.below (un bn); (try replace nx := nx.below (un bn)); (try replace ny := ny.below (un bn)); (try replace nv20 := nv20.below (un bn)); (try replace nv21 := nv21.below (un bn)); (try replace nv8 := nv8.below (un bn)); replace bb := Below.after bb (un bn)))
 have hz : (0 : Int) ≤ X1 * X9 + Y1 * Y9 := Int.sign_nonneg_iff.1 (by rw [Gm.dot_sign hw1 hw9]; exact hb)
 obtain ⟨cb_0, cb_1, cb_2, cb_3, cb_4, cb_5⟩ := xk6 kb
 obtain ⟨cc_6, cc_7, cc_8, cc_9, cc_10, cc_11⟩ := xk6 kc
 go_wp2_with fail
 clear cb_0 cb_1 cb_2 cb_3 cb_4 cb_5 cc_6 cc_7 cc_8 cc_9 cc_10 cc_11
 go_fit (HF.out _ bb)
 rintro e wz ⟨rfl, b1⟩
 replace kr := kr.below b1
 replace bb := Below.after bb b1
 clear b1
 have e0 := cel3_0 kr
 have f0 := Cel.frozen kr 0
 have e1 := cel3_1 kr
 have f1 := Cel.frozen kr 1
 have e2 := cel3_2 kr
 have f2 := Cel.frozen kr 2
 go_wp2
 exact post_q1 (p := 6) (u := 7) (v := .int .i64 0) (by kernel_rfl) rfl rfl rfl (((kr.set 0 _).set 1 _).set 2 _) ⟨rfl, bset (bset (bset bb (by omega) 0 _) (by omega) 1 _) (by omega) 2 _⟩
theorem far6_walk (n0 n1 n2 n3 : Bool) (s0 d0 s1 d1 s2 d2 s3 d3 : ByteArray) (u0 u1 : Bool) (v0 e0 v1 e1 : ByteArray) (rN : Bool) (rS rD : ByteArray) (w : World)
  (HM : Hid (∀ w1, Below w.heap.size w w1 → Calls Tryz.prog 30 #[.agg #[.bool n2, .string s2, .string d2, .bool n3, .string s3, .string d3], .agg #[.bool n0, .string s0, .string d0, .bool n1, .string s1, .string d1]] w1 (Re w1 (.agg #[.bool u0, .string v0, .string e0, .bool u1, .string v1, .string e1]))))
  (HN : Hid (∀ w1, Below w.heap.size w w1 → Calls Tryz.prog 65 #[.agg #[.bool u0, .string v0, .string e0, .bool u1, .string v1, .string e1]] w1 (Re w1 (.agg #[.bool rN, .string rS, .string rD])))) :
  Calls Tryz.prog 33 #[.agg #[.bool n0, .string s0, .string d0, .bool n1, .string s1, .string d1], .agg #[.bool n2, .string s2, .string d2, .bool n3, .string s3, .string d3]] w (Re w (.agg #[.bool rN, .string rS, .string rD])) := by
 go_enter Tryz.func33, Tryz.ntmps33
 go_wp2_with fail
 obtain ⟨w0, hw, ka, kb, kr, bb⟩ := mk3 w [.bool n0, .string s0, .string d0, .bool n1, .string s1, .string d1] [.bool n2, .string s2, .string d2, .bool n3, .string s3, .string d3] [.bool false, .string { data := #[] }, .string { data := #[] }] 28 28 26
 rw [← hw]
 clear hw
 go_fit (HM.out _ bb)
 rintro e w1 ⟨rfl, b1⟩
 replace kr := kr.below b1
 replace bb := Below.after bb b1
 clear b1
 go_wp2_with fail
 go_fit (HN.out _ bb)
 rintro e w2 ⟨rfl, b1⟩
 replace kr := kr.below b1
 replace bb := Below.after bb b1
 clear b1 ka kb
 have e0 := cel3_0 kr
 have f0 := Cel.frozen kr 0
 have e1 := cel3_1 kr
 have f1 := Cel.frozen kr 1
 have e2 := cel3_2 kr
 have f2 := Cel.frozen kr 2
 go_wp2
 exact post_q (p := 4) (by kernel_rfl) rfl rfl (((kr.set 0 _).set 1 _).set 2 _) ⟨rfl, bset (bset (bset bb (by omega) 0 _) (by omega) 1 _) (by omega) 2 _⟩
abbrev pq (x y : Rat) : Value := .agg #[.bool (nfZ x.num), .string (sfZ x.num), .string (strOf x.den), .bool (nfZ y.num), .string (sfZ y.num), .string (strOf y.den)]
abbrev rq (x : Rat) : Value := .agg #[.bool (nfZ x.num), .string (sfZ x.num), .string (strOf x.den)]
abbrev Ra (w : World) (v : Value) : Ending → World → Prop := fun e w' => e = .returned v ∧ Below w.heap.size w w'
theorem ofI (x0 y0 x1 y1 : Rat) {K : Nat} (hK : K ≤ 100) (b0 : Bq x0 K) (b1 : Bq y0 K) (b2 : Bq x1 K) (b3 : Bq y1 K) : Hid (∀ w1, Calls Tryz.prog 57 #[pq x0 y0, pq x1 y1] w1 fun e w' => ∃ m0 a0 l0 c0 m1 a1 l1 c1 a2 l2 c2 X Y U, e = .returned (.agg #[.bool m0, .slice a0 l0 c0, .bool m1, .slice a1 l1 c1, .bool false, .slice a2 l2 c2]) ∧ SpV w' m0 a0 l0 c0 m1 a1 l1 c1 a2 l2 c2 X Y U (x1 - x0) (y1 - y0) ∧ Below w1.heap.size w1 w') := fun w1 => by
 have := sof_any (nfZ x0.num) (nfZ y0.num) (nfZ x1.num) (nfZ y1.num) (sfZ x0.num) (strOf x0.den) (sfZ y0.num) (strOf y0.den) (sfZ x1.num) (strOf x1.den) (sfZ y1.num) (strOf y1.den) w1 (okQ_qI x0) (okQ_qI y0) (okQ_qI x1) (okQ_qI y1) (bq_sz hK b0) (bq_sz hK b1) (bq_sz hK b2) (bq_sz hK b3)
 simp only [qOf_one] at this
 refine this.mono ?_
 rintro e w' ⟨m0, a0, l0, c0, m1, a1, l1, c1, a2, l2, c2, X, Y, U, h1, h2, h3, h4, h5, h6⟩
 exact ⟨m0, a0, l0, c0, m1, a1, l1, c1, a2, l2, c2, X, Y, U, h1, ⟨h2, h3, h4, h5⟩, h6⟩
theorem chkI (x0 y0 x1 y1 x2 y2 : Rat) {K : Nat} (hK : K ≤ 100) (b0 : Bq x0 K) (b1 : Bq y0 K) (b2 : Bq x1 K) (b3 : Bq y1 K) (b4 : Bq x2 K) (b5 : Bq y2 K) (w : World) (hT : Tab w) : Hid (∀ (w1 : World) (B : Nat), Below w.heap.size w w1 → Cel w1 B [.bool (nfZ x0.num), .string (sfZ x0.num), .string (strOf x0.den), .bool (nfZ y0.num), .string (sfZ y0.num), .string (strOf y0.den), .bool (nfZ x1.num), .string (sfZ x1.num), .string (strOf x1.den), .bool (nfZ y1.num), .string (sfZ y1.num), .string (strOf y1.den), .bool (nfZ x2.num), .string (sfZ x2.num), .string (strOf x2.den), .bool (nfZ y2.num), .string (sfZ y2.num), .string (strOf y2.den)] 28 → Calls Tryz.prog 40 #[.slice (some ⟨B, 0, none⟩) 3 3] w1 (Re w1 (.int .i64 0))) := fun w1 B b h => by
 have := scheck3 B (nfZ x0.num) (nfZ y0.num) (nfZ x1.num) (nfZ y1.num) (nfZ x2.num) (nfZ y2.num) (sfZ x0.num) (strOf x0.den) (sfZ y0.num) (strOf y0.den) (sfZ x1.num) (strOf x1.den) (sfZ y1.num) (strOf y1.den) (sfZ x2.num) (strOf x2.den) (sfZ y2.num) (strOf y2.den) w1 (hT.below b) h (bq_sz hK b0) (bq_sz hK b1) (bq_sz hK b2) (bq_sz hK b3) (bq_sz hK b4) (bq_sz hK b5)
 rwa [two_zero.2 ⟨two_zero.2 ⟨twoq_zero.2 ⟨chk_can8 x0 (by omega) b0, chk_can8 y0 (by omega) b1⟩, twoq_zero.2 ⟨chk_can8 x1 (by omega) b2, chk_can8 y1 (by omega) b3⟩⟩, twoq_zero.2 ⟨chk_can8 x2 (by omega) b4, chk_can8 y2 (by omega) b5⟩⟩] at this
theorem can_eq {x y : Rat} (h1 : nfZ x.num = nfZ y.num) (h2 : sfZ x.num = sfZ y.num) (h3 : strOf x.den = strOf y.den) : x = y := by
 rw [← qOf_one x, ← qOf_one y, h1, h2, h3]
theorem neI (x0 y0 x1 y1 : Rat) (h : ¬ (x0 = x1 ∧ y0 = y1)) : ∀ w1, (binOp .eql 28 (pq x0 y0) (pq x1 y1)).run Tryz.prog w1 = .ok (.bool false) w1 := fun w1 =>
 run_peq _ _ _ _ _ _ _ _ _ _ _ _ w1 (fun ⟨a, b, c, d, e, f⟩ => h ⟨can_eq a b c, can_eq d e f⟩)
theorem bq_mono {x : Rat} {K M' : Nat} (h : Bq x K) (hK : K ≤ M') : Bq x M' := ⟨h.1.mono hK, h.2.mono hK⟩
theorem sg_zero {x : Rat} (h : Gm.sg x = 0) : x = 0 := by
 exact Rat.num_eq_zero.1 (Int.sign_eq_zero_iff_zero.1 h)
def shp (ux uy vx vy : Rat) : Bool := decide (0 < Gm.sg (ux * vx + uy * vy)) && decide (0 < Gm.sg (4 * ((ux * vx + uy * vy) * (ux * vx + uy * vy)) - (ux * ux + uy * uy) * (vx * vx + vy * vy)))
theorem sharpI (x0 y0 x1 y1 x2 y2 : Rat) {K : Nat} (hK : K ≤ 100) (b0 : Bq x0 K) (b1 : Bq y0 K) (b2 : Bq x1 K) (b3 : Bq y1 K) (b4 : Bq x2 K) (b5 : Bq y2 K) (w : World) (hT : Tab w) (h1 : ¬ (x1 = x0 ∧ y1 = y0)) (h2 : ¬ (x1 = x2 ∧ y1 = y2)) : Calls Tryz.prog 21 #[pq x0 y0, pq x1 y1, pq x2 y2] w (Ra w (.tuple #[.bool (shp (x0 - x1) (y0 - y1) (x2 - x1) (y2 - y1)), .int .i64 0])) := by
 unfold shp
 by_cases hd : Gm.sg ((x0 - x1) * (x2 - x1) + (y0 - y1) * (y2 - y1)) ≤ 0
 ·rw [decide_eq_false (by omega), Bool.false_and]
  exact cSharp_no (nfZ x0.num) (nfZ y0.num) (nfZ x1.num) (nfZ y1.num) (nfZ x2.num) (nfZ y2.num) (sfZ x0.num) (strOf x0.den) (sfZ y0.num) (strOf y0.den) (sfZ x1.num) (strOf x1.den) (sfZ y1.num) (strOf y1.den) (sfZ x2.num) (strOf x2.den) (sfZ y2.num) (strOf y2.den) (x0 - x1) (y0 - y1) (x2 - x1) (y2 - y1) w (chkI x0 y0 x1 y1 x2 y2 hK b0 b1 b2 b3 b4 b5 w hT) (neI _ _ _ _ h1) (neI _ _ _ _ h2) (ofI x1 y1 x0 y0 hK b2 b3 b0 b1) (ofI x1 y1 x2 y2 hK b2 b3 b4 b5) hd
 ·rw [decide_eq_true (by omega), Bool.true_and]
  exact cSharp_ok (nfZ x0.num) (nfZ y0.num) (nfZ x1.num) (nfZ y1.num) (nfZ x2.num) (nfZ y2.num) (sfZ x0.num) (strOf x0.den) (sfZ y0.num) (strOf y0.den) (sfZ x1.num) (strOf x1.den) (sfZ y1.num) (strOf y1.den) (sfZ x2.num) (strOf x2.den) (sfZ y2.num) (strOf y2.den) (x0 - x1) (y0 - y1) (x2 - x1) (y2 - y1) w (chkI x0 y0 x1 y1 x2 y2 hK b0 b1 b2 b3 b4 b5 w hT) (neI _ _ _ _ h1) (neI _ _ _ _ h2) (ofI x1 y1 x0 y0 hK b2 b3 b0 b1) (ofI x1 y1 x2 y2 hK b2 b3 b4 b5) hd
theorem cenI_flat (x0 y0 x1 y1 x2 y2 : Rat) {K : Nat} (hK : K ≤ 100) (b0 : Bq x0 K) (b1 : Bq y0 K) (b2 : Bq x1 K) (b3 : Bq y1 K) (b4 : Bq x2 K) (b5 : Bq y2 K) (w : World) (hT : Tab w) (h : (x1 - x0) * (y2 - y0) - (y1 - y0) * (x2 - x0) = 0) : Calls Tryz.prog 53 #[pq x0 y0, pq x1 y1, pq x2 y2] w (Ra w (.tuple #[.agg #[.bool false, .string { data := #[] }, .string { data := #[] }, .bool false, .string { data := #[] }, .string { data := #[] }], .int .i64 6])) :=
 cCen_flat (nfZ x0.num) (nfZ y0.num) (nfZ x1.num) (nfZ y1.num) (nfZ x2.num) (nfZ y2.num) (sfZ x0.num) (strOf x0.den) (sfZ y0.num) (strOf y0.den) (sfZ x1.num) (strOf x1.den) (sfZ y1.num) (strOf y1.den) (sfZ x2.num) (strOf x2.den) (sfZ y2.num) (strOf y2.den) w (chkI x0 y0 x1 y1 x2 y2 hK b0 b1 b2 b3 b4 b5 w hT) (fun w1 => toC_flat (nfZ x0.num) (nfZ y0.num) (nfZ x1.num) (nfZ y1.num) (nfZ x2.num) (nfZ y2.num) (sfZ x0.num) (strOf x0.den) (sfZ y0.num) (strOf y0.den) (sfZ x1.num) (strOf x1.den) (sfZ y1.num) (strOf y1.den) (sfZ x2.num) (strOf x2.den) (sfZ y2.num) (strOf y2.den) (x1 - x0) (y1 - y0) (x2 - x0) (y2 - y0) w1 (by rw [h]; rfl) (ofI x0 y0 x1 y1 hK b0 b1 b2 b3) (ofI x0 y0 x2 y2 hK b0 b1 b4 b5))
def cenX (ux uy vx vy : Rat) : Rat := ((ux * ux + uy * uy) * vy - (vx * vx + vy * vy) * uy) / ((ux * vy - uy * vx) + (ux * vy - uy * vx))
def cenY (ux uy vx vy : Rat) : Rat := (ux * (vx * vx + vy * vy) - vx * (ux * ux + uy * uy)) / ((ux * vy - uy * vx) + (ux * vy - uy * vx))
theorem cenI (x0 y0 x1 y1 x2 y2 : Rat) {K : Nat} (hK : K ≤ 100) (b0 : Bq x0 K) (b1 : Bq y0 K) (b2 : Bq x1 K) (b3 : Bq y1 K) (b4 : Bq x2 K) (b5 : Bq y2 K) (w : World) (hT : Tab w) (h : (x1 - x0) * (y2 - y0) - (y1 - y0) * (x2 - x0) ≠ 0) {cx cy : Rat} (ex : cenX (x1 - x0) (y1 - y0) (x2 - x0) (y2 - y0) = cx) (ey : cenY (x1 - x0) (y1 - y0) (x2 - x0) (y2 - y0) = cy) {M' : Nat} (hM : M' ≤ 4000) (hKM : K ≤ M') (bx : Bq cx M') (bY : Bq cy M') :
  Calls Tryz.prog 53 #[pq x0 y0, pq x1 y1, pq x2 y2] w (Ra w (.tuple #[pq (x0 + cx) (y0 + cy), .int .i64 0])) := by
 subst ex ey
 refine cCen_ok (nfZ x0.num) (nfZ y0.num) (nfZ x1.num) (nfZ y1.num) (nfZ x2.num) (nfZ y2.num) (sfZ x0.num) (strOf x0.den) (sfZ y0.num) (strOf y0.den) (sfZ x1.num) (strOf x1.den) (sfZ y1.num) (strOf y1.den) (sfZ x2.num) (strOf x2.den) (sfZ y2.num) (strOf y2.den) (cenX (x1 - x0) (y1 - y0) (x2 - x0) (y2 - y0)) (cenY (x1 - x0) (y1 - y0) (x2 - x0) (y2 - y0)) _ _ _ _ _ _ w hT (chkI x0 y0 x1 y1 x2 y2 hK b0 b1 b2 b3 b4 b5 w hT) (fun w1 => toC_ok (nfZ x0.num) (nfZ y0.num) (nfZ x1.num) (nfZ y1.num) (nfZ x2.num) (nfZ y2.num) (sfZ x0.num) (strOf x0.den) (sfZ y0.num) (strOf y0.den) (sfZ x1.num) (strOf x1.den) (sfZ y1.num) (strOf y1.den) (sfZ x2.num) (strOf x2.den) (sfZ y2.num) (strOf y2.den) (x1 - x0) (y1 - y0) (x2 - x0) (y2 - y0) w1 ?_ (ofI x0 y0 x1 y1 hK b0 b1 b2 b3) (ofI x0 y0 x2 y2 hK b0 b1 b4 b5)) (fun w1 b => vplusI x0 y0 _ _ hM (bq_mono b0 hKM) (bq_mono b1 hKM) bx bY w1 (hT.below b))
 rw [beq_eq_false_iff_ne]
 intro e
 exact h (sg_zero e)
theorem far6I (x0 y0 x1 y1 : Rat) {K : Nat} (hK : K ≤ 100) (b0 : Bq x0 K) (b1 : Bq y0 K) (b2 : Bq x1 K) (b3 : Bq y1 K) (w : World) : Calls Tryz.prog 33 #[pq x0 y0, pq x1 y1] w (Re w (rq ((x1 - x0) * (x1 - x0) + (y1 - y0) * (y1 - y0)))) :=
 far6_walk _ _ _ _ _ _ _ _ _ _ _ _ _ _ _ _ _ _ _ _ _ w (fun w1 _ => rminusP x1 y1 x0 y0 (K := K) (by omega) b2 b3 b0 b1 w1) (fun w1 _ => rnormP (x1 - x0) (y1 - y0) (K := K + K + 1) (by omega) (vq_sub b2 b0) (vq_sub b3 b1) w1)
theorem asked6_walk (n0 n1 n2 n3 n4 n5 : Bool) (s0 d0 s1 d1 s2 d2 s3 d3 s4 d4 s5 d5 : ByteArray) (E : Int) (w : World)
  (HA : Hid (∀ (w1 : World) (B : Nat), Below w.heap.size w w1 → Cel w1 B [.bool n0, .string s0, .string d0, .bool n1, .string s1, .string d1, .bool n2, .string s2, .string d2, .bool n3, .string s3, .string d3, .bool n4, .string s4, .string d4, .bool n5, .string s5, .string d5] 28 → Calls Tryz.prog 13 #[.slice (some ⟨B, 0, none⟩) 3 3] w1 (Re w1 (.int .i64 E)))) :
  Calls Tryz.prog 19 #[.agg #[.bool n0, .string s0, .string d0, .bool n1, .string s1, .string d1], .agg #[.bool n2, .string s2, .string d2, .bool n3, .string s3, .string d3], .agg #[.bool n4, .string s4, .string d4, .bool n5, .string s5, .string d5]] w (Re w (.int .i64 E)) := by
 go_enter Tryz.func19, Tryz.ntmps19
 go_wp2_with fail
 obtain ⟨w0, hw, ka, kb, kc, kl, bb⟩ := mk4 w [.bool n0, .string s0, .string d0, .bool n1, .string s1, .string d1] [.bool n2, .string s2, .string d2, .bool n3, .string s3, .string d3] [.bool n4, .string s4, .string d4, .bool n5, .string s5, .string d5] [.bool n0, .string s0, .string d0, .bool n1, .string s1, .string d1, .bool n2, .string s2, .string d2, .bool n3, .string s3, .string d3, .bool n4, .string s4, .string d4, .bool n5, .string s5, .string d5] 28 28 28 28
 rw [← hw]
 clear hw
 go_fit (HA.out _ _ bb kl)
 rintro e w1 ⟨rfl, b1⟩
 replace bb := Below.after bb b1
 clear b1 ka kb kc kl
 go_wp2
 go_ret
 exact ⟨rfl, bb⟩
theorem asked6_any (n0 n1 n2 n3 n4 n5 : Bool) (s0 d0 s1 d1 s2 d2 s3 d3 s4 d4 s5 d5 : ByteArray) (w : World) (z0 : s0.size ≤ 100 ∧ d0.size ≤ 100) (z1 : s1.size ≤ 100 ∧ d1.size ≤ 100) (z2 : s2.size ≤ 100 ∧ d2.size ≤ 100) (z3 : s3.size ≤ 100 ∧ d3.size ≤ 100) (z4 : s4.size ≤ 100 ∧ d4.size ≤ 100) (z5 : s5.size ≤ 100 ∧ d5.size ≤ 100) :
  Calls Tryz.prog 19 #[.agg #[.bool n0, .string s0, .string d0, .bool n1, .string s1, .string d1], .agg #[.bool n2, .string s2, .string d2, .bool n3, .string s3, .string d3], .agg #[.bool n4, .string s4, .string d4, .bool n5, .string s5, .string d5]] w (Re w (.int .i64 (two (two (twoq n0 s0 d0 n1 s1 d1) (twoq n2 s2 d2 n3 s3 d3)) (twoq n4 s4 d4 n5 s5 d5) : Nat))) :=
 asked6_walk n0 n1 n2 n3 n4 n5 s0 d0 s1 d1 s2 d2 s3 d3 s4 d4 s5 d5 _ w (fun w1 B _ h => asked3 B n0 n1 n2 n3 n4 n5 s0 d0 s1 d1 s2 d2 s3 d3 s4 d4 s5 d5 w1 h z0 z1 z2 z3 z4 z5)
theorem canon {n : Bool} {s d : ByteArray} {K : Nat} (h : chkq n s d = 0) (z : s.size ≤ K ∧ d.size ≤ K) : ∃ x : Rat, Bq x K ∧ n = nfZ x.num ∧ s = sfZ x.num ∧ d = strOf x.den := by
 have o := (chkq_zero h).1
 obtain ⟨e1, e2, e3⟩ := o.parts
 refine ⟨qOf n s d, ⟨?_, ?_⟩, e1.symm, e2.symm, e3.symm⟩
 ·rw [o.low.1]; exact bd_zOf z.1
 ·rw [o.low.2]
  have := bd_zOf (n := false) z.2
  simpa [zOf] using this
theorem farI (x0 y0 x1 y1 : Rat) {K : Nat} (hK : K ≤ 100) (b0 : Bq x0 K) (b1 : Bq y0 K) (b2 : Bq x1 K) (b3 : Bq y1 K) (w : World) (hT : Tab w) : Calls Tryz.prog 56 #[pq x0 y0, pq x1 y1] w (Ra w (rq ((x1 - x0) * (x1 - x0) + (y1 - y0) * (y1 - y0)))) :=
 far2_walk (nfZ x0.num) (nfZ y0.num) (nfZ x1.num) (nfZ y1.num) (sfZ x0.num) (strOf x0.den) (sfZ y0.num) (strOf y0.den) (sfZ x1.num) (strOf x1.den) (sfZ y1.num) (strOf y1.den) (x1 - x0) (y1 - y0) w hT (ofI x0 y0 x1 y1 hK b0 b1 b2 b3)
theorem nearI_b (x0 y0 x1 y1 x2 y2 : Rat) {K : Nat} (hK : K ≤ 100) (b0 : Bq x0 K) (b1 : Bq y0 K) (b2 : Bq x1 K) (b3 : Bq y1 K) (b4 : Bq x2 K) (b5 : Bq y2 K) (w : World) (hT : Tab w) (h1 : ¬ (x0 = x1 ∧ y0 = y1)) (hd : ¬ Gm.sg ((x1 - x0) * (x2 - x0) + (y1 - y0) * (y2 - y0)) ≤ 0) (hb : 0 ≤ Gm.sg ((x1 - x0) * (x2 - x1) + (y1 - y0) * (y2 - y1))) : Calls Tryz.prog 18 #[pq x0 y0, pq x1 y1, pq x2 y2] w (Ra w (.tuple #[rq ((x2 - x1) * (x2 - x1) + (y2 - y1) * (y2 - y1)), .int .i64 0])) :=
 cNear_b (nfZ x0.num) (nfZ y0.num) (nfZ x1.num) (nfZ y1.num) (nfZ x2.num) (nfZ y2.num) (sfZ x0.num) (strOf x0.den) (sfZ y0.num) (strOf y0.den) (sfZ x1.num) (strOf x1.den) (sfZ y1.num) (strOf y1.den) (sfZ x2.num) (strOf x2.den) (sfZ y2.num) (strOf y2.den) (nfZ (((x2 - x1) * (x2 - x1) + (y2 - y1) * (y2 - y1))).num) (sfZ (((x2 - x1) * (x2 - x1) + (y2 - y1) * (y2 - y1))).num) (strOf (((x2 - x1) * (x2 - x1) + (y2 - y1) * (y2 - y1))).den) (x1 - x0) (y1 - y0) (x2 - x0) (y2 - y0) (x2 - x1) (y2 - y1) w (chkI x0 y0 x1 y1 x2 y2 hK b0 b1 b2 b3 b4 b5 w hT) (neI _ _ _ _ h1) (ofI x0 y0 x1 y1 hK b0 b1 b2 b3) (ofI x0 y0 x2 y2 hK b0 b1 b4 b5) hd hb (fun w1 => (ofI x1 y1 x2 y2 hK b2 b3 b4 b5 w1).mono (fun e w' h => by obtain ⟨m0, a0, l0, c0, m1, a1, l1, c1, a2, l2, c2, X, Y, U, h1, h2, h3⟩ := h; exact ⟨m0, a0, l0, c0, m1, a1, l1, c1, a2, l2, c2, X, Y, U, h1, h2.1, h2.2.1, h2.2.2.1, h2.2.2.2, h3⟩)) (fun w1 b => farI x1 y1 x2 y2 hK b2 b3 b4 b5 w1 (hT.below b))
theorem nearI_a (x0 y0 x1 y1 x2 y2 : Rat) {K : Nat} (hK : K ≤ 100) (b0 : Bq x0 K) (b1 : Bq y0 K) (b2 : Bq x1 K) (b3 : Bq y1 K) (b4 : Bq x2 K) (b5 : Bq y2 K) (w : World) (hT : Tab w) (h1 : ¬ (x0 = x1 ∧ y0 = y1)) (hd : Gm.sg ((x1 - x0) * (x2 - x0) + (y1 - y0) * (y2 - y0)) ≤ 0) : Calls Tryz.prog 18 #[pq x0 y0, pq x1 y1, pq x2 y2] w (Ra w (.tuple #[rq ((x2 - x0) * (x2 - x0) + (y2 - y0) * (y2 - y0)), .int .i64 0])) :=
 cNear_a (nfZ x0.num) (nfZ y0.num) (nfZ x1.num) (nfZ y1.num) (nfZ x2.num) (nfZ y2.num) (sfZ x0.num) (strOf x0.den) (sfZ y0.num) (strOf y0.den) (sfZ x1.num) (strOf x1.den) (sfZ y1.num) (strOf y1.den) (sfZ x2.num) (strOf x2.den) (sfZ y2.num) (strOf y2.den) (nfZ (((x2 - x0) * (x2 - x0) + (y2 - y0) * (y2 - y0))).num) (sfZ (((x2 - x0) * (x2 - x0) + (y2 - y0) * (y2 - y0))).num) (strOf (((x2 - x0) * (x2 - x0) + (y2 - y0) * (y2 - y0))).den) (x1 - x0) (y1 - y0) (x2 - x0) (y2 - y0) w (chkI x0 y0 x1 y1 x2 y2 hK b0 b1 b2 b3 b4 b5 w hT) (neI _ _ _ _ h1) (ofI x0 y0 x1 y1 hK b0 b1 b2 b3) (ofI x0 y0 x2 y2 hK b0 b1 b4 b5) hd (fun w1 b => farI x0 y0 x2 y2 hK b0 b1 b4 b5 w1 (hT.below b))
theorem live6_walk (n10 n11 n12 n13 n14 n15 n16 n17 n18 n19 n20 n21 n22 n23 : Bool) (s10 d10 s11 d11 s12 d12 s13 d13 s14 d14 s15 d15 s16 d16 s17 d17 s18 d18 s19 d19 s20 d20 s21 d21 s22 d22 s23 d23 : ByteArray) (fN : Bool) (fS fD : ByteArray) (w : World)
  (A00 : Hid (∀ w1, Calls Tryz.prog 54 #[.int .i64 0, .int .i64 0] w1 (Re w1 (.agg #[.bool n10, .string s10, .string d10, .bool n11, .string s11, .string d11]))))
  (A20 : Hid (∀ w1, Calls Tryz.prog 54 #[.int .i64 2, .int .i64 0] w1 (Re w1 (.agg #[.bool n12, .string s12, .string d12, .bool n13, .string s13, .string d13]))))
  (A02 : Hid (∀ w1, Calls Tryz.prog 54 #[.int .i64 0, .int .i64 2] w1 (Re w1 (.agg #[.bool n14, .string s14, .string d14, .bool n15, .string s15, .string d15]))))
  (A40 : Hid (∀ w1, Calls Tryz.prog 54 #[.int .i64 4, .int .i64 0] w1 (Re w1 (.agg #[.bool n16, .string s16, .string d16, .bool n17, .string s17, .string d17]))))
  (A60 : Hid (∀ w1, Calls Tryz.prog 54 #[.int .i64 6, .int .i64 0] w1 (Re w1 (.agg #[.bool n18, .string s18, .string d18, .bool n19, .string s19, .string d19]))))
  (A10 : Hid (∀ w1, Calls Tryz.prog 54 #[.int .i64 1, .int .i64 0] w1 (Re w1 (.agg #[.bool n20, .string s20, .string d20, .bool n21, .string s21, .string d21]))))
  (A11 : Hid (∀ w1, Calls Tryz.prog 54 #[.int .i64 1, .int .i64 1] w1 (Re w1 (.agg #[.bool n22, .string s22, .string d22, .bool n23, .string s23, .string d23]))))
  (F4 : Hid (∀ w1, Calls Tryz.prog 55 #[.int .i64 4] w1 (Re w1 (.agg #[.bool fN, .string fS, .string fD]))))
  (C1 : Hid (∀ w1, Below w.heap.size w w1 → Calls Tryz.prog 53 #[.agg #[.bool n10, .string s10, .string d10, .bool n11, .string s11, .string d11], .agg #[.bool n12, .string s12, .string d12, .bool n13, .string s13, .string d13], .agg #[.bool n14, .string s14, .string d14, .bool n15, .string s15, .string d15]] w1 (Re w1 (.tuple #[.agg #[.bool n22, .string s22, .string d22, .bool n23, .string s23, .string d23], .int .i64 0]))))
  (C2 : Hid (∀ w1, Below w.heap.size w w1 → Calls Tryz.prog 18 #[.agg #[.bool n10, .string s10, .string d10, .bool n11, .string s11, .string d11], .agg #[.bool n16, .string s16, .string d16, .bool n17, .string s17, .string d17], .agg #[.bool n18, .string s18, .string d18, .bool n19, .string s19, .string d19]] w1 (Re w1 (.tuple #[.agg #[.bool fN, .string fS, .string fD], .int .i64 0]))))
  (C3 : Hid (∀ w1, Below w.heap.size w w1 → Calls Tryz.prog 21 #[.agg #[.bool n20, .string s20, .string d20, .bool n21, .string s21, .string d21], .agg #[.bool n10, .string s10, .string d10, .bool n11, .string s11, .string d11], .agg #[.bool n22, .string s22, .string d22, .bool n23, .string s23, .string d23]] w1 (Re w1 (.tuple #[.bool true, .int .i64 0]))))
  (C4 : Hid (∀ w1, Below w.heap.size w w1 → Calls Tryz.prog 53 #[.agg #[.bool n10, .string s10, .string d10, .bool n11, .string s11, .string d11], .agg #[.bool n20, .string s20, .string d20, .bool n21, .string s21, .string d21], .agg #[.bool n12, .string s12, .string d12, .bool n13, .string s13, .string d13]] w1 (Re w1 (.tuple #[.agg #[.bool false, .string { data := #[] }, .string { data := #[] }, .bool false, .string { data := #[] }, .string { data := #[] }], .int .i64 6])))) :
  Calls Tryz.prog 17 #[] w (Re w (.bool true)) := by
 go_enter Tryz.func17, Tryz.ntmps17
 have bb := Below.refl w.heap.size w
 go_wp2_with fail
 go_fit (A00.out _)
 rintro e w1 ⟨rfl, b1⟩
 replace bb := Below.after bb b1
 clear b1
 go_wp2_with fail
 go_fit (A20.out _)
 rintro e w2 ⟨rfl, b1⟩
 replace bb := Below.after bb b1
 clear b1
 go_wp2_with fail
 go_fit (A02.out _)
 rintro e w3 ⟨rfl, b1⟩
 replace bb := Below.after bb b1
 clear b1
 go_wp2_with fail
 go_fit (C1.out _ bb)
 rintro e w4 ⟨rfl, b1⟩
 replace bb := Below.after bb b1
 clear b1
 go_wp2_with fail
 obtain ⟨x4, hw, kc, b1⟩ := mk1 w4 [.bool n22, .string s22, .string d22, .bool n23, .string s23, .string d23] 28
 rw [← hw]
 clear hw
 replace bb := Below.after bb b1
 clear b1
 go_wp2_with fail
 go_fit (A00.out _)
 rintro e w5 ⟨rfl, b1⟩
 replace kc := kc.below b1
 replace bb := Below.after bb b1
 clear b1
 go_wp2_with fail
 go_fit (A40.out _)
 rintro e w6 ⟨rfl, b1⟩
 replace kc := kc.below b1
 replace bb := Below.after bb b1
 clear b1
 go_wp2_with fail
 go_fit (A60.out _)
 rintro e w7 ⟨rfl, b1⟩
 replace kc := kc.below b1
 replace bb := Below.after bb b1
 clear b1
 go_wp2_with fail
 go_fit (C2.out _ bb)
 rintro e w8 ⟨rfl, b1⟩
 replace kc := kc.below b1
 replace bb := Below.after bb b1
 clear b1
 go_wp2_with fail
 obtain ⟨x8, hw, kn, b1⟩ := mk1 w8 [.bool fN, .string fS, .string fD] 26
 rw [← hw]
 clear hw
 replace kc := kc.below b1
 replace bb := Below.after bb b1
 clear b1
 go_wp2_with fail
 go_fit (A10.out _)
 rintro e w9 ⟨rfl, b1⟩
 replace kc := kc.below b1
 replace kn := kn.below b1
 replace bb := Below.after bb b1
 clear b1
 go_wp2_with fail
 go_fit (A00.out _)
 rintro e w10 ⟨rfl, b1⟩
 replace kc := kc.below b1
 replace kn := kn.below b1
 replace bb := Below.after bb b1
 clear b1
 go_wp2_with fail
 go_fit (A11.out _)
 rintro e w11 ⟨rfl, b1⟩
 replace kc := kc.below b1
 replace kn := kn.below b1
 replace bb := Below.after bb b1
 clear b1
 go_wp2_with fail
 go_fit (C3.out _ bb)
 rintro e w12 ⟨rfl, b1⟩
 replace kc := kc.below b1
 replace kn := kn.below b1
 replace bb := Below.after bb b1
 clear b1
 go_wp2_with fail
 go_fit (A00.out _)
 rintro e w13 ⟨rfl, b1⟩
 replace kc := kc.below b1
 replace kn := kn.below b1
 replace bb := Below.after bb b1
 clear b1
 go_wp2_with fail
 go_fit (A10.out _)
 rintro e w14 ⟨rfl, b1⟩
 replace kc := kc.below b1
 replace kn := kn.below b1
 replace bb := Below.after bb b1
 clear b1
 go_wp2_with fail
 go_fit (A20.out _)
 rintro e w15 ⟨rfl, b1⟩
 replace kc := kc.below b1
 replace kn := kn.below b1
 replace bb := Below.after bb b1
 clear b1
 go_wp2_with fail
 go_fit (C4.out _ bb)
 rintro e w16 ⟨rfl, b1⟩
 replace kc := kc.below b1
 replace kn := kn.below b1
 replace bb := Below.after bb b1
 clear b1
 go_wp2_with fail
 obtain ⟨x16, hw, kz, b1⟩ := mk1 w16 [.bool false, .string { data := #[] }, .string { data := #[] }, .bool false, .string { data := #[] }, .string { data := #[] }] 28
 rw [← hw]
 clear hw
 replace kc := kc.below b1
 replace kn := kn.below b1
 replace bb := Below.after bb b1
 clear b1
 clear kz
 have bd := bdrew x16
 replace kc := kc.below bd
 replace kn := kn.below bd
 replace bb := Below.after bb bd
 clear bd
 refine wp_region_held_drew (S := fun w' => xc6 w' w4.heap.size (.bool n22) (.string s22) (.string d22) (.bool n23) (.string s23) (.string d23) ∧ xc3 w' w8.heap.size (.bool fN) (.string fS) (.string fD)) (by kernel_rfl) ⟨xk6 kc, xk3 kn⟩ (fun hS => ?_)
 refine WA.start (n := 28) (by kernel_rfl) ?_
 refine WA.tp 0 rfl ?_
 refine WA.cal 1 rfl (fun K hK => ?_)
 simp only [List.getElem_toArray, List.getElem_cons_succ, List.getElem_cons_zero]
 go_simp
 go_fit (A11.out _)
 rintro e wn ⟨rfl, bn⟩
 replace kc := kc.below bn
 replace kn := kn.below bn
 replace bb := Below.after bb bn
 try go_wp2_with fail
 clear hS
 refine hK.out _ _ ⟨xk6 kc, xk3 kn⟩ (fun hS => ?_)
 clear hK K bn
 refine WA.tp 2 rfl ?_
 refine WA.tp 3 rfl ?_
 refine WA.tp 4 rfl ?_
 refine WA.tp 5 rfl ?_
 refine WA.tp 6 rfl ?_
 refine WA.tp 7 rfl ?_
 refine WA.tp 8 rfl ?_
 refine WA.cal 9 rfl (fun K hK => ?_)
 simp only [List.getElem_toArray, List.getElem_cons_succ, List.getElem_cons_zero]
 go_simp
 go_fit (F4.out _)
 rintro e wn ⟨rfl, bn⟩
 replace kc := kc.below bn
 replace kn := kn.below bn
 replace bb := Below.after bb bn
 try go_wp2_with fail
 clear hS
 refine hK.out _ _ ⟨xk6 kc, xk3 kn⟩ (fun hS => ?_)
 clear hK K bn
 refine WA.tp 10 rfl ?_
 refine WA.tp 11 rfl ?_
 refine WA.tp 12 rfl ?_
 refine WA.tp 13 rfl ?_
 refine WA.tp 14 rfl ?_
 refine WA.tp 15 rfl ?_
 refine WA.tp 16 rfl ?_
 refine WA.tp 17 rfl ?_
 refine WA.tp 18 rfl ?_
 refine WA.tp 19 rfl ?_
 refine WA.tp 20 rfl ?_
 refine WA.tp 21 rfl ?_
 refine WA.tp 22 rfl ?_
 refine WA.tp 23 rfl ?_
 refine WA.tp 24 rfl ?_
 refine WA.tp 25 rfl ?_
 refine WA.tp 26 rfl ?_
 refine WA.tp 27 rfl ?_
 refine WA.done (by kernel_rfl) ?_
 clear hS
 go_wp2
 go_ret
 exact ⟨rfl, bb⟩
theorem pq_int (x y : Int) : pq (x : Rat) (y : Rat) = .agg #[.bool (nfZ x), .string (sfZ x), .string ⟨#[1]⟩, .bool (nfZ y), .string (sfZ y), .string ⟨#[1]⟩] := by
 have e : strOf 1 = ⟨#[1]⟩ := by decide +kernel
 simp only [pq, Rat.num_intCast, Rat.den_intCast, e]
theorem bq_int (x : Int) (h1 : -200 ≤ x) (h2 : x ≤ 200) : Bq (x : Rat) 1 := by
 constructor
 ·rw [Rat.num_intCast]; unfold Bd; omega
 ·rw [Rat.den_intCast]; unfold Bd; omega
theorem live6_any (w : World) (hT : Tab w) : Calls Tryz.prog 17 #[] w (Re w (.bool true)) := by
 refine live6_walk (nfZ 0) (nfZ 0) (nfZ 2) (nfZ 0) (nfZ 0) (nfZ 2) (nfZ 4) (nfZ 0) (nfZ 6) (nfZ 0) (nfZ 1) (nfZ 0) (nfZ 1) (nfZ 1) (sfZ 0) ⟨#[1]⟩ (sfZ 0) ⟨#[1]⟩ (sfZ 2) ⟨#[1]⟩ (sfZ 0) ⟨#[1]⟩ (sfZ 0) ⟨#[1]⟩ (sfZ 2) ⟨#[1]⟩ (sfZ 4) ⟨#[1]⟩ (sfZ 0) ⟨#[1]⟩ (sfZ 6) ⟨#[1]⟩ (sfZ 0) ⟨#[1]⟩ (sfZ 1) ⟨#[1]⟩ (sfZ 0) ⟨#[1]⟩ (sfZ 1) ⟨#[1]⟩ (sfZ 1) ⟨#[1]⟩ (nfZ 4) (sfZ 4) ⟨#[1]⟩ w ?_ ?_ ?_ ?_ ?_ ?_ ?_ ?_ ?_ ?_ ?_ ?_
 ·exact fun w1 => lat6_any 0 0 (by omega) (by omega) (by omega) (by omega) w1
 ·exact fun w1 => lat6_any 2 0 (by omega) (by omega) (by omega) (by omega) w1
 ·exact fun w1 => lat6_any 0 2 (by omega) (by omega) (by omega) (by omega) w1
 ·exact fun w1 => lat6_any 4 0 (by omega) (by omega) (by omega) (by omega) w1
 ·exact fun w1 => lat6_any 6 0 (by omega) (by omega) (by omega) (by omega) w1
 ·exact fun w1 => lat6_any 1 0 (by omega) (by omega) (by omega) (by omega) w1
 ·exact fun w1 => lat6_any 1 1 (by omega) (by omega) (by omega) (by omega) w1
 ·exact fun w1 => roq_any 4 (by omega) (by omega) w1
 ·intro w1 b
  have := cenI ((0 : Int) : Rat) ((0 : Int) : Rat) ((2 : Int) : Rat) ((0 : Int) : Rat) ((0 : Int) : Rat) ((2 : Int) : Rat) (by omega : 1 ≤ 100) (bq_int 0 (by omega) (by omega)) (bq_int 0 (by omega) (by omega)) (bq_int 2 (by omega) (by omega)) (bq_int 0 (by omega) (by omega)) (bq_int 0 (by omega) (by omega)) (bq_int 2 (by omega) (by omega)) w1 (hT.below b) (by decide +kernel) (cx := ((1 : Int) : Rat)) (cy := ((1 : Int) : Rat)) (by decide +kernel) (by decide +kernel) (M' := 1) (by omega) (by omega) (bq_int 1 (by omega) (by omega)) (bq_int 1 (by omega) (by omega))
  rw [show ((0 : Int) : Rat) + ((1 : Int) : Rat) = ((1 : Int) : Rat) by decide +kernel] at this
  simp only [pq_int] at this
  exact this
 ·intro w1 b
  have := nearI_b ((0 : Int) : Rat) ((0 : Int) : Rat) ((4 : Int) : Rat) ((0 : Int) : Rat) ((6 : Int) : Rat) ((0 : Int) : Rat) (by omega : 1 ≤ 100) (bq_int 0 (by omega) (by omega)) (bq_int 0 (by omega) (by omega)) (bq_int 4 (by omega) (by omega)) (bq_int 0 (by omega) (by omega)) (bq_int 6 (by omega) (by omega)) (bq_int 0 (by omega) (by omega)) w1 (hT.below b) (by decide +kernel) (by decide +kernel) (by decide +kernel)
  rw [show (((6 : Int) : Rat) - ((4 : Int) : Rat)) * (((6 : Int) : Rat) - ((4 : Int) : Rat)) + (((0 : Int) : Rat) - ((0 : Int) : Rat)) * (((0 : Int) : Rat) - ((0 : Int) : Rat)) = ((4 : Int) : Rat) by decide +kernel] at this
  simp only [pq_int] at this
  exact this
 ·intro w1 b
  have := sharpI ((1 : Int) : Rat) ((0 : Int) : Rat) ((0 : Int) : Rat) ((0 : Int) : Rat) ((1 : Int) : Rat) ((1 : Int) : Rat) (by omega : 1 ≤ 100) (bq_int 1 (by omega) (by omega)) (bq_int 0 (by omega) (by omega)) (bq_int 0 (by omega) (by omega)) (bq_int 0 (by omega) (by omega)) (bq_int 1 (by omega) (by omega)) (bq_int 1 (by omega) (by omega)) w1 (hT.below b) (by decide +kernel) (by decide +kernel)
  rw [show shp (((1 : Int) : Rat) - ((0 : Int) : Rat)) (((0 : Int) : Rat) - ((0 : Int) : Rat)) (((1 : Int) : Rat) - ((0 : Int) : Rat)) (((1 : Int) : Rat) - ((0 : Int) : Rat)) = true by decide +kernel] at this
  simp only [pq_int] at this
  exact this
 ·intro w1 b
  have := cenI_flat ((0 : Int) : Rat) ((0 : Int) : Rat) ((1 : Int) : Rat) ((0 : Int) : Rat) ((2 : Int) : Rat) ((0 : Int) : Rat) (by omega : 1 ≤ 100) (bq_int 0 (by omega) (by omega)) (bq_int 0 (by omega) (by omega)) (bq_int 1 (by omega) (by omega)) (bq_int 0 (by omega) (by omega)) (bq_int 2 (by omega) (by omega)) (bq_int 0 (by omega) (by omega)) w1 (hT.below b) (by decide +kernel)
  simp only [pq_int] at this
  exact this
theorem vqm_add {a b : Rat} {k j : Nat} (ha : Bq a k) (hb : Bq b j) : Bq (a + b) (k + j + 1) := by
 rw [Rat.add_def']
 exact vq_mk (Nat.mul_pos a.den_pos b.den_pos) ((ha.1.mul hb.2).add ((hb.1.mul ha.2).mono (by omega))) ((vd_cast _ _ ha.2 hb.2).mono (by omega))
theorem vqm_sub {a b : Rat} {k j : Nat} (ha : Bq a k) (hb : Bq b j) : Bq (a - b) (k + j + 1) := by
 rw [Rat.sub_eq_add_neg]
 exact vqm_add ha (vq_neg hb)
theorem vqm_mul {a b : Rat} {k j : Nat} (ha : Bq a k) (hb : Bq b j) : Bq (a * b) (k + j) := by
 rw [Rat.mul_def']
 exact vq_mk (Nat.mul_pos a.den_pos b.den_pos) (ha.1.mul hb.1) (vd_cast _ _ ha.2 hb.2)
theorem rorderI (x y : Rat) {K : Nat} (hK : K ≤ 4000) (b0 : Bq x K) (b1 : Bq y K) (w : World) : Calls Tryz.prog 32 #[rq x, rq y] w (Re w (.int .i64 (Q.cmp x y))) := by
 have := rorderq_any (nfZ x.num) (nfZ y.num) (sfZ x.num) (strOf x.den) (sfZ y.num) (strOf y.den) w (okQ_qI x) (okQ_qI y) hK (bq_sz (Nat.le_refl _) b0).1 (bq_sz (Nat.le_refl _) b0).2 (bq_sz (Nat.le_refl _) b1).1 (bq_sz (Nat.le_refl _) b1).2
 rwa [qOf_one, qOf_one] at this
def lm2 (x y : Rat) : Rat := if y < x then y else x
theorem leastI (x y : Rat) {K : Nat} (hK : K ≤ 4000) (b0 : Bq x K) (b1 : Bq y K) (w : World) : Calls Tryz.prog 64 #[rq x, rq y] w (Re w (rq (lm2 x y))) := by
 refine least_walk _ _ _ _ _ _ (Q.cmp x y) _ _ _ w (fun w1 _ => rorderI x y hK b0 b1 w1) ?_
 unfold lm2 Q.cmp
 by_cases h : y < x
 ·rw [if_pos h, if_neg (by grind), if_pos h]
  exact Or.inr ⟨by omega, rfl, rfl, rfl⟩
 ·rw [if_neg h, if_neg h]
  exact Or.inl ⟨by split <;> omega, rfl, rfl, rfl⟩
theorem rq_one : rq ((1 : Int) : Rat) = .agg #[.bool (nfZ 1), .string (sfZ 1), .string ⟨#[1]⟩] := by
 have e : strOf 1 = ⟨#[1]⟩ := by decide +kernel
 simp only [rq, Rat.num_intCast, Rat.den_intCast, e]
theorem bq_one : Bq ((1 : Int) : Rat) 1 := bq_int 1 (by omega) (by omega)
theorem far6J (x0 y0 x1 y1 : Rat) {K M' : Nat} (hK : K ≤ M') (hM : M' + M' + 4 + (K + K) ≤ 4000) (b0 : Bq x0 K) (b1 : Bq y0 K) (b2 : Bq x1 M') (b3 : Bq y1 M') (w : World) : Calls Tryz.prog 33 #[pq x0 y0, pq x1 y1] w (Re w (rq ((x1 - x0) * (x1 - x0) + (y1 - y0) * (y1 - y0)))) :=
 far6_walk _ _ _ _ _ _ _ _ _ _ _ _ _ _ _ _ _ _ _ _ _ w (fun w1 _ => rminusP x1 y1 x0 y0 (K := M') (by omega) b2 b3 (bq_mono b0 hK) (bq_mono b1 hK) w1) (fun w1 _ => rnormP (x1 - x0) (y1 - y0) (K := M' + K + 1) (by omega) (vqm_sub b2 b0) (vqm_sub b3 b1) w1)
theorem rnearI_0 (x0 y0 x1 y1 x2 y2 : Rat) {K : Nat} (hK : K ≤ 60) (b0 : Bq x0 K) (b1 : Bq y0 K) (b2 : Bq x1 K) (b3 : Bq y1 K) (b4 : Bq x2 K) (b5 : Bq y2 K) (w : World) (hn : ((x1 - x0) * (x1 - x0) + (y1 - y0) * (y1 - y0)) = 0) : Calls Tryz.prog 20 #[pq x0 y0, pq x1 y1, pq x2 y2] w (Ra w (rq (lm2 ((x0 - x2) * (x0 - x2) + (y0 - y2) * (y0 - y2)) ((x1 - x2) * (x1 - x2) + (y1 - y2) * (y1 - y2))))) := by
 have bux := vqm_sub b2 b0
 have buy := vqm_sub b3 b1
 have bvx := vqm_sub b4 b0
 have bvy := vqm_sub b5 b1
 have bax := vqm_sub b0 b4
 have bay := vqm_sub b1 b5
 have bbx := vqm_sub b2 b4
 have bby := vqm_sub b3 b5
 have bn := vqm_add (vqm_mul bux bux) (vqm_mul buy buy)
 have bd := vqm_add (vqm_mul bvx bux) (vqm_mul bvy buy)
 have bfa := vqm_add (vqm_mul bax bax) (vqm_mul bay bay)
 have bfb := vqm_add (vqm_mul bbx bbx) (vqm_mul bby bby)
 have bt := vqm_mul bd (vq_inv bn)
 rw [← Rat.div_def] at bt
 clear bt
 exact rnear_0 (nfZ x0.num) (nfZ y0.num) (nfZ x1.num) (nfZ y1.num) (nfZ x2.num) (nfZ y2.num) (sfZ x0.num) (strOf x0.den) (sfZ y0.num) (strOf y0.den) (sfZ x1.num) (strOf x1.den) (sfZ y1.num) (strOf y1.den) (sfZ x2.num) (strOf x2.den) (sfZ y2.num) (strOf y2.den) (nfZ (((x0 - x2) * (x0 - x2) + (y0 - y2) * (y0 - y2))).num) (sfZ (((x0 - x2) * (x0 - x2) + (y0 - y2) * (y0 - y2))).num) (strOf (((x0 - x2) * (x0 - x2) + (y0 - y2) * (y0 - y2))).den) (nfZ (((x1 - x2) * (x1 - x2) + (y1 - y2) * (y1 - y2))).num) (sfZ (((x1 - x2) * (x1 - x2) + (y1 - y2) * (y1 - y2))).num) (strOf (((x1 - x2) * (x1 - x2) + (y1 - y2) * (y1 - y2))).den) (nfZ ((lm2 ((x0 - x2) * (x0 - x2) + (y0 - y2) * (y0 - y2)) ((x1 - x2) * (x1 - x2) + (y1 - y2) * (y1 - y2)))).num) (sfZ ((lm2 ((x0 - x2) * (x0 - x2) + (y0 - y2) * (y0 - y2)) ((x1 - x2) * (x1 - x2) + (y1 - y2) * (y1 - y2)))).num) (strOf ((lm2 ((x0 - x2) * (x0 - x2) + (y0 - y2) * (y0 - y2)) ((x1 - x2) * (x1 - x2) + (y1 - y2) * (y1 - y2)))).den) (nfZ ((x1 - x0)).num) (nfZ ((y1 - y0)).num) (sfZ ((x1 - x0)).num) (strOf ((x1 - x0)).den) (sfZ ((y1 - y0)).num) (strOf ((y1 - y0)).den) (nfZ (((x1 - x0) * (x1 - x0) + (y1 - y0) * (y1 - y0))).num) (sfZ (((x1 - x0) * (x1 - x0) + (y1 - y0) * (y1 - y0))).num) (strOf (((x1 - x0) * (x1 - x0) + (y1 - y0) * (y1 - y0))).den) _ w (by rw [hn]; rfl) (fun w1 _ => far6I x2 y2 x0 y0 (by omega) b4 b5 b0 b1 w1) (fun w1 _ => far6I x2 y2 x1 y1 (by omega) b4 b5 b2 b3 w1) (fun w1 _ => leastI _ _ (by omega) bfa bfb w1) (fun w1 _ => rminusP x1 y1 x0 y0 (K := K) (by omega) b2 b3 b0 b1 w1) (fun w1 _ => rnormP _ _ (K := (K + K + 1)) (by omega) bux buy w1) (fun w1 _ => rsignI _ w1)
theorem cmp_no {a b : Rat} (h : ¬ b < a) : decide (0 < Q.cmp a b) = false := by
 unfold Q.cmp
 simp only [if_neg h]
 split <;> decide
theorem cmp_yes {a b : Rat} (h : b < a) : 0 < Q.cmp a b := by
 unfold Q.cmp
 rw [if_neg (by grind), if_pos h]
 decide
theorem pos_of_one {t : Rat} (h : ((1 : Int) : Rat) < t) : 0 < t := by
 have : ((1 : Int) : Rat) = 1 := rfl
 grind
theorem sg_ne {x : Rat} (h : ¬ x = 0) : (Gm.sg x == 0) = false := beq_eq_false_iff_ne.2 (fun e => h (Gm.sg_eq_zero.1 e))
theorem rnearI_lo (x0 y0 x1 y1 x2 y2 : Rat) {K : Nat} (hK : K ≤ 60) (b0 : Bq x0 K) (b1 : Bq y0 K) (b2 : Bq x1 K) (b3 : Bq y1 K) (b4 : Bq x2 K) (b5 : Bq y2 K) (w : World) (hn : ¬ ((x1 - x0) * (x1 - x0) + (y1 - y0) * (y1 - y0)) = 0) (h : (((x2 - x0) * (x1 - x0) + (y2 - y0) * (y1 - y0)) / ((x1 - x0) * (x1 - x0) + (y1 - y0) * (y1 - y0))) < 0) : Calls Tryz.prog 20 #[pq x0 y0, pq x1 y1, pq x2 y2] w (Ra w (rq (lm2 ((x0 - x2) * (x0 - x2) + (y0 - y2) * (y0 - y2)) ((x1 - x2) * (x1 - x2) + (y1 - y2) * (y1 - y2))))) := by
 have bux := vqm_sub b2 b0
 have buy := vqm_sub b3 b1
 have bvx := vqm_sub b4 b0
 have bvy := vqm_sub b5 b1
 have bax := vqm_sub b0 b4
 have bay := vqm_sub b1 b5
 have bbx := vqm_sub b2 b4
 have bby := vqm_sub b3 b5
 have bn := vqm_add (vqm_mul bux bux) (vqm_mul buy buy)
 have bd := vqm_add (vqm_mul bvx bux) (vqm_mul bvy buy)
 have bfa := vqm_add (vqm_mul bax bax) (vqm_mul bay bay)
 have bfb := vqm_add (vqm_mul bbx bbx) (vqm_mul bby bby)
 have bt := vqm_mul bd (vq_inv bn)
 rw [← Rat.div_def] at bt
 exact rnear_lo (nfZ x0.num) (nfZ y0.num) (nfZ x1.num) (nfZ y1.num) (nfZ x2.num) (nfZ y2.num) (sfZ x0.num) (strOf x0.den) (sfZ y0.num) (strOf y0.den) (sfZ x1.num) (strOf x1.den) (sfZ y1.num) (strOf y1.den) (sfZ x2.num) (strOf x2.den) (sfZ y2.num) (strOf y2.den) (nfZ (((x0 - x2) * (x0 - x2) + (y0 - y2) * (y0 - y2))).num) (sfZ (((x0 - x2) * (x0 - x2) + (y0 - y2) * (y0 - y2))).num) (strOf (((x0 - x2) * (x0 - x2) + (y0 - y2) * (y0 - y2))).den) (nfZ (((x1 - x2) * (x1 - x2) + (y1 - y2) * (y1 - y2))).num) (sfZ (((x1 - x2) * (x1 - x2) + (y1 - y2) * (y1 - y2))).num) (strOf (((x1 - x2) * (x1 - x2) + (y1 - y2) * (y1 - y2))).den) (nfZ ((lm2 ((x0 - x2) * (x0 - x2) + (y0 - y2) * (y0 - y2)) ((x1 - x2) * (x1 - x2) + (y1 - y2) * (y1 - y2)))).num) (sfZ ((lm2 ((x0 - x2) * (x0 - x2) + (y0 - y2) * (y0 - y2)) ((x1 - x2) * (x1 - x2) + (y1 - y2) * (y1 - y2)))).num) (strOf ((lm2 ((x0 - x2) * (x0 - x2) + (y0 - y2) * (y0 - y2)) ((x1 - x2) * (x1 - x2) + (y1 - y2) * (y1 - y2)))).den) (nfZ ((x1 - x0)).num) (nfZ ((y1 - y0)).num) (sfZ ((x1 - x0)).num) (strOf ((x1 - x0)).den) (sfZ ((y1 - y0)).num) (strOf ((y1 - y0)).den) (nfZ (((x1 - x0) * (x1 - x0) + (y1 - y0) * (y1 - y0))).num) (sfZ (((x1 - x0) * (x1 - x0) + (y1 - y0) * (y1 - y0))).num) (strOf (((x1 - x0) * (x1 - x0) + (y1 - y0) * (y1 - y0))).den) _ (nfZ ((x2 - x0)).num) (nfZ ((y2 - y0)).num) (sfZ ((x2 - x0)).num) (strOf ((x2 - x0)).den) (sfZ ((y2 - y0)).num) (strOf ((y2 - y0)).den) (nfZ (((x2 - x0) * (x1 - x0) + (y2 - y0) * (y1 - y0))).num) (sfZ (((x2 - x0) * (x1 - x0) + (y2 - y0) * (y1 - y0))).num) (strOf (((x2 - x0) * (x1 - x0) + (y2 - y0) * (y1 - y0))).den) (nfZ ((((x2 - x0) * (x1 - x0) + (y2 - y0) * (y1 - y0)) / ((x1 - x0) * (x1 - x0) + (y1 - y0) * (y1 - y0)))).num) (sfZ ((((x2 - x0) * (x1 - x0) + (y2 - y0) * (y1 - y0)) / ((x1 - x0) * (x1 - x0) + (y1 - y0) * (y1 - y0)))).num) (strOf ((((x2 - x0) * (x1 - x0) + (y2 - y0) * (y1 - y0)) / ((x1 - x0) * (x1 - x0) + (y1 - y0) * (y1 - y0)))).den) _ w (sg_ne hn) (by rw [Gm.sg_neg h]; decide) (fun w1 _ => far6I x2 y2 x0 y0 (by omega) b4 b5 b0 b1 w1) (fun w1 _ => far6I x2 y2 x1 y1 (by omega) b4 b5 b2 b3 w1) (fun w1 _ => leastI _ _ (by omega) bfa bfb w1) (fun w1 _ => rminusP x1 y1 x0 y0 (K := K) (by omega) b2 b3 b0 b1 w1) (fun w1 _ => rnormP _ _ (K := (K + K + 1)) (by omega) bux buy w1) (fun w1 _ => rsignI _ w1) (fun w1 _ => rminusP x2 y2 x0 y0 (K := K) (by omega) b4 b5 b0 b1 w1) (fun w1 _ => rdotP _ _ _ _ (K := (K + K + 1)) (by omega) bvx bvy bux buy w1) (fun w1 _ => roverI _ _ (by omega) bd bn hn w1) (fun w1 _ => rsignI _ w1)
theorem rnearI_hi (x0 y0 x1 y1 x2 y2 : Rat) {K : Nat} (hK : K ≤ 60) (b0 : Bq x0 K) (b1 : Bq y0 K) (b2 : Bq x1 K) (b3 : Bq y1 K) (b4 : Bq x2 K) (b5 : Bq y2 K) (w : World) (hn : ¬ ((x1 - x0) * (x1 - x0) + (y1 - y0) * (y1 - y0)) = 0) (h : ((1 : Int) : Rat) < (((x2 - x0) * (x1 - x0) + (y2 - y0) * (y1 - y0)) / ((x1 - x0) * (x1 - x0) + (y1 - y0) * (y1 - y0)))) : Calls Tryz.prog 20 #[pq x0 y0, pq x1 y1, pq x2 y2] w (Ra w (rq (lm2 ((x0 - x2) * (x0 - x2) + (y0 - y2) * (y0 - y2)) ((x1 - x2) * (x1 - x2) + (y1 - y2) * (y1 - y2))))) := by
 have bux := vqm_sub b2 b0
 have buy := vqm_sub b3 b1
 have bvx := vqm_sub b4 b0
 have bvy := vqm_sub b5 b1
 have bax := vqm_sub b0 b4
 have bay := vqm_sub b1 b5
 have bbx := vqm_sub b2 b4
 have bby := vqm_sub b3 b5
 have bn := vqm_add (vqm_mul bux bux) (vqm_mul buy buy)
 have bd := vqm_add (vqm_mul bvx bux) (vqm_mul bvy buy)
 have bfa := vqm_add (vqm_mul bax bax) (vqm_mul bay bay)
 have bfb := vqm_add (vqm_mul bbx bbx) (vqm_mul bby bby)
 have bt := vqm_mul bd (vq_inv bn)
 rw [← Rat.div_def] at bt
 have h1 : 0 < (((x2 - x0) * (x1 - x0) + (y2 - y0) * (y1 - y0)) / ((x1 - x0) * (x1 - x0) + (y1 - y0) * (y1 - y0))) := pos_of_one h
 exact rnear_hi (nfZ x0.num) (nfZ y0.num) (nfZ x1.num) (nfZ y1.num) (nfZ x2.num) (nfZ y2.num) (sfZ x0.num) (strOf x0.den) (sfZ y0.num) (strOf y0.den) (sfZ x1.num) (strOf x1.den) (sfZ y1.num) (strOf y1.den) (sfZ x2.num) (strOf x2.den) (sfZ y2.num) (strOf y2.den) (nfZ (((x0 - x2) * (x0 - x2) + (y0 - y2) * (y0 - y2))).num) (sfZ (((x0 - x2) * (x0 - x2) + (y0 - y2) * (y0 - y2))).num) (strOf (((x0 - x2) * (x0 - x2) + (y0 - y2) * (y0 - y2))).den) (nfZ (((x1 - x2) * (x1 - x2) + (y1 - y2) * (y1 - y2))).num) (sfZ (((x1 - x2) * (x1 - x2) + (y1 - y2) * (y1 - y2))).num) (strOf (((x1 - x2) * (x1 - x2) + (y1 - y2) * (y1 - y2))).den) (nfZ ((lm2 ((x0 - x2) * (x0 - x2) + (y0 - y2) * (y0 - y2)) ((x1 - x2) * (x1 - x2) + (y1 - y2) * (y1 - y2)))).num) (sfZ ((lm2 ((x0 - x2) * (x0 - x2) + (y0 - y2) * (y0 - y2)) ((x1 - x2) * (x1 - x2) + (y1 - y2) * (y1 - y2)))).num) (strOf ((lm2 ((x0 - x2) * (x0 - x2) + (y0 - y2) * (y0 - y2)) ((x1 - x2) * (x1 - x2) + (y1 - y2) * (y1 - y2)))).den) (nfZ ((x1 - x0)).num) (nfZ ((y1 - y0)).num) (sfZ ((x1 - x0)).num) (strOf ((x1 - x0)).den) (sfZ ((y1 - y0)).num) (strOf ((y1 - y0)).den) (nfZ (((x1 - x0) * (x1 - x0) + (y1 - y0) * (y1 - y0))).num) (sfZ (((x1 - x0) * (x1 - x0) + (y1 - y0) * (y1 - y0))).num) (strOf (((x1 - x0) * (x1 - x0) + (y1 - y0) * (y1 - y0))).den) _ (nfZ ((x2 - x0)).num) (nfZ ((y2 - y0)).num) (sfZ ((x2 - x0)).num) (strOf ((x2 - x0)).den) (sfZ ((y2 - y0)).num) (strOf ((y2 - y0)).den) (nfZ (((x2 - x0) * (x1 - x0) + (y2 - y0) * (y1 - y0))).num) (sfZ (((x2 - x0) * (x1 - x0) + (y2 - y0) * (y1 - y0))).num) (strOf (((x2 - x0) * (x1 - x0) + (y2 - y0) * (y1 - y0))).den) (nfZ ((((x2 - x0) * (x1 - x0) + (y2 - y0) * (y1 - y0)) / ((x1 - x0) * (x1 - x0) + (y1 - y0) * (y1 - y0)))).num) (sfZ ((((x2 - x0) * (x1 - x0) + (y2 - y0) * (y1 - y0)) / ((x1 - x0) * (x1 - x0) + (y1 - y0) * (y1 - y0)))).num) (strOf ((((x2 - x0) * (x1 - x0) + (y2 - y0) * (y1 - y0)) / ((x1 - x0) * (x1 - x0) + (y1 - y0) * (y1 - y0)))).den) _ (nfZ (((1 : Int) : Rat)).num) (sfZ (((1 : Int) : Rat)).num) (strOf (((1 : Int) : Rat)).den) _ w (sg_ne hn) (by rw [Gm.sg_pos h1]; decide) (cmp_yes h) (fun w1 _ => far6I x2 y2 x0 y0 (by omega) b4 b5 b0 b1 w1) (fun w1 _ => far6I x2 y2 x1 y1 (by omega) b4 b5 b2 b3 w1) (fun w1 _ => leastI _ _ (by omega) bfa bfb w1) (fun w1 _ => rminusP x1 y1 x0 y0 (K := K) (by omega) b2 b3 b0 b1 w1) (fun w1 _ => rnormP _ _ (K := (K + K + 1)) (by omega) bux buy w1) (fun w1 _ => rsignI _ w1) (fun w1 _ => rminusP x2 y2 x0 y0 (K := K) (by omega) b4 b5 b0 b1 w1) (fun w1 _ => rdotP _ _ _ _ (K := (K + K + 1)) (by omega) bvx bvy bux buy w1) (fun w1 _ => roverI _ _ (by omega) bd bn hn w1) (fun w1 _ => rsignI _ w1) (fun w1 _ => by have := roq_any 1 (by omega) (by omega) w1; rwa [← rq_one] at this) (fun w1 _ => rorderI _ _ (by omega) bt (bq_mono bq_one (by omega)) w1)
theorem rnearI_mid (x0 y0 x1 y1 x2 y2 : Rat) {K : Nat} (hK : K ≤ 60) (b0 : Bq x0 K) (b1 : Bq y0 K) (b2 : Bq x1 K) (b3 : Bq y1 K) (b4 : Bq x2 K) (b5 : Bq y2 K) (w : World) (hn : ¬ ((x1 - x0) * (x1 - x0) + (y1 - y0) * (y1 - y0)) = 0) (h : ¬ (((x2 - x0) * (x1 - x0) + (y2 - y0) * (y1 - y0)) / ((x1 - x0) * (x1 - x0) + (y1 - y0) * (y1 - y0))) < 0) (h' : ¬ ((1 : Int) : Rat) < (((x2 - x0) * (x1 - x0) + (y2 - y0) * (y1 - y0)) / ((x1 - x0) * (x1 - x0) + (y1 - y0) * (y1 - y0)))) : Calls Tryz.prog 20 #[pq x0 y0, pq x1 y1, pq x2 y2] w (Ra w (rq (((x0 + ((x1 - x0) * (((x2 - x0) * (x1 - x0) + (y2 - y0) * (y1 - y0)) / ((x1 - x0) * (x1 - x0) + (y1 - y0) * (y1 - y0))))) - x2) * ((x0 + ((x1 - x0) * (((x2 - x0) * (x1 - x0) + (y2 - y0) * (y1 - y0)) / ((x1 - x0) * (x1 - x0) + (y1 - y0) * (y1 - y0))))) - x2) + ((y0 + ((y1 - y0) * (((x2 - x0) * (x1 - x0) + (y2 - y0) * (y1 - y0)) / ((x1 - x0) * (x1 - x0) + (y1 - y0) * (y1 - y0))))) - y2) * ((y0 + ((y1 - y0) * (((x2 - x0) * (x1 - x0) + (y2 - y0) * (y1 - y0)) / ((x1 - x0) * (x1 - x0) + (y1 - y0) * (y1 - y0))))) - y2)))) := by
 have bux := vqm_sub b2 b0
 have buy := vqm_sub b3 b1
 have bvx := vqm_sub b4 b0
 have bvy := vqm_sub b5 b1
 have bax := vqm_sub b0 b4
 have bay := vqm_sub b1 b5
 have bbx := vqm_sub b2 b4
 have bby := vqm_sub b3 b5
 have bn := vqm_add (vqm_mul bux bux) (vqm_mul buy buy)
 have bd := vqm_add (vqm_mul bvx bux) (vqm_mul bvy buy)
 have bfa := vqm_add (vqm_mul bax bax) (vqm_mul bay bay)
 have bfb := vqm_add (vqm_mul bbx bbx) (vqm_mul bby bby)
 have bt := vqm_mul bd (vq_inv bn)
 rw [← Rat.div_def] at bt
 have bsx := vqm_mul bux bt
 have bsy := vqm_mul buy bt
 have bfx := vqm_add b0 bsx
 have bfy := vqm_add b1 bsy
 refine rnear_mid (nfZ x0.num) (nfZ y0.num) (nfZ x1.num) (nfZ y1.num) (nfZ x2.num) (nfZ y2.num) (sfZ x0.num) (strOf x0.den) (sfZ y0.num) (strOf y0.den) (sfZ x1.num) (strOf x1.den) (sfZ y1.num) (strOf y1.den) (sfZ x2.num) (strOf x2.den) (sfZ y2.num) (strOf y2.den) (nfZ (((x0 - x2) * (x0 - x2) + (y0 - y2) * (y0 - y2))).num) (sfZ (((x0 - x2) * (x0 - x2) + (y0 - y2) * (y0 - y2))).num) (strOf (((x0 - x2) * (x0 - x2) + (y0 - y2) * (y0 - y2))).den) (nfZ (((x1 - x2) * (x1 - x2) + (y1 - y2) * (y1 - y2))).num) (sfZ (((x1 - x2) * (x1 - x2) + (y1 - y2) * (y1 - y2))).num) (strOf (((x1 - x2) * (x1 - x2) + (y1 - y2) * (y1 - y2))).den) (nfZ ((lm2 ((x0 - x2) * (x0 - x2) + (y0 - y2) * (y0 - y2)) ((x1 - x2) * (x1 - x2) + (y1 - y2) * (y1 - y2)))).num) (sfZ ((lm2 ((x0 - x2) * (x0 - x2) + (y0 - y2) * (y0 - y2)) ((x1 - x2) * (x1 - x2) + (y1 - y2) * (y1 - y2)))).num) (strOf ((lm2 ((x0 - x2) * (x0 - x2) + (y0 - y2) * (y0 - y2)) ((x1 - x2) * (x1 - x2) + (y1 - y2) * (y1 - y2)))).den) (nfZ ((x1 - x0)).num) (nfZ ((y1 - y0)).num) (sfZ ((x1 - x0)).num) (strOf ((x1 - x0)).den) (sfZ ((y1 - y0)).num) (strOf ((y1 - y0)).den) (nfZ (((x1 - x0) * (x1 - x0) + (y1 - y0) * (y1 - y0))).num) (sfZ (((x1 - x0) * (x1 - x0) + (y1 - y0) * (y1 - y0))).num) (strOf (((x1 - x0) * (x1 - x0) + (y1 - y0) * (y1 - y0))).den) _ (nfZ ((x2 - x0)).num) (nfZ ((y2 - y0)).num) (sfZ ((x2 - x0)).num) (strOf ((x2 - x0)).den) (sfZ ((y2 - y0)).num) (strOf ((y2 - y0)).den) (nfZ (((x2 - x0) * (x1 - x0) + (y2 - y0) * (y1 - y0))).num) (sfZ (((x2 - x0) * (x1 - x0) + (y2 - y0) * (y1 - y0))).num) (strOf (((x2 - x0) * (x1 - x0) + (y2 - y0) * (y1 - y0))).den) (nfZ ((((x2 - x0) * (x1 - x0) + (y2 - y0) * (y1 - y0)) / ((x1 - x0) * (x1 - x0) + (y1 - y0) * (y1 - y0)))).num) (sfZ ((((x2 - x0) * (x1 - x0) + (y2 - y0) * (y1 - y0)) / ((x1 - x0) * (x1 - x0) + (y1 - y0) * (y1 - y0)))).num) (strOf ((((x2 - x0) * (x1 - x0) + (y2 - y0) * (y1 - y0)) / ((x1 - x0) * (x1 - x0) + (y1 - y0) * (y1 - y0)))).den) _ (nfZ (((1 : Int) : Rat)).num) (sfZ (((1 : Int) : Rat)).num) (strOf (((1 : Int) : Rat)).den) _ (nfZ (((x1 - x0) * (((x2 - x0) * (x1 - x0) + (y2 - y0) * (y1 - y0)) / ((x1 - x0) * (x1 - x0) + (y1 - y0) * (y1 - y0))))).num) (nfZ (((y1 - y0) * (((x2 - x0) * (x1 - x0) + (y2 - y0) * (y1 - y0)) / ((x1 - x0) * (x1 - x0) + (y1 - y0) * (y1 - y0))))).num) (sfZ (((x1 - x0) * (((x2 - x0) * (x1 - x0) + (y2 - y0) * (y1 - y0)) / ((x1 - x0) * (x1 - x0) + (y1 - y0) * (y1 - y0))))).num) (strOf (((x1 - x0) * (((x2 - x0) * (x1 - x0) + (y2 - y0) * (y1 - y0)) / ((x1 - x0) * (x1 - x0) + (y1 - y0) * (y1 - y0))))).den) (sfZ (((y1 - y0) * (((x2 - x0) * (x1 - x0) + (y2 - y0) * (y1 - y0)) / ((x1 - x0) * (x1 - x0) + (y1 - y0) * (y1 - y0))))).num) (strOf (((y1 - y0) * (((x2 - x0) * (x1 - x0) + (y2 - y0) * (y1 - y0)) / ((x1 - x0) * (x1 - x0) + (y1 - y0) * (y1 - y0))))).den) (nfZ ((x0 + ((x1 - x0) * (((x2 - x0) * (x1 - x0) + (y2 - y0) * (y1 - y0)) / ((x1 - x0) * (x1 - x0) + (y1 - y0) * (y1 - y0)))))).num) (nfZ ((y0 + ((y1 - y0) * (((x2 - x0) * (x1 - x0) + (y2 - y0) * (y1 - y0)) / ((x1 - x0) * (x1 - x0) + (y1 - y0) * (y1 - y0)))))).num) (sfZ ((x0 + ((x1 - x0) * (((x2 - x0) * (x1 - x0) + (y2 - y0) * (y1 - y0)) / ((x1 - x0) * (x1 - x0) + (y1 - y0) * (y1 - y0)))))).num) (strOf ((x0 + ((x1 - x0) * (((x2 - x0) * (x1 - x0) + (y2 - y0) * (y1 - y0)) / ((x1 - x0) * (x1 - x0) + (y1 - y0) * (y1 - y0)))))).den) (sfZ ((y0 + ((y1 - y0) * (((x2 - x0) * (x1 - x0) + (y2 - y0) * (y1 - y0)) / ((x1 - x0) * (x1 - x0) + (y1 - y0) * (y1 - y0)))))).num) (strOf ((y0 + ((y1 - y0) * (((x2 - x0) * (x1 - x0) + (y2 - y0) * (y1 - y0)) / ((x1 - x0) * (x1 - x0) + (y1 - y0) * (y1 - y0)))))).den) (nfZ ((((x0 + ((x1 - x0) * (((x2 - x0) * (x1 - x0) + (y2 - y0) * (y1 - y0)) / ((x1 - x0) * (x1 - x0) + (y1 - y0) * (y1 - y0))))) - x2) * ((x0 + ((x1 - x0) * (((x2 - x0) * (x1 - x0) + (y2 - y0) * (y1 - y0)) / ((x1 - x0) * (x1 - x0) + (y1 - y0) * (y1 - y0))))) - x2) + ((y0 + ((y1 - y0) * (((x2 - x0) * (x1 - x0) + (y2 - y0) * (y1 - y0)) / ((x1 - x0) * (x1 - x0) + (y1 - y0) * (y1 - y0))))) - y2) * ((y0 + ((y1 - y0) * (((x2 - x0) * (x1 - x0) + (y2 - y0) * (y1 - y0)) / ((x1 - x0) * (x1 - x0) + (y1 - y0) * (y1 - y0))))) - y2))).num) (sfZ ((((x0 + ((x1 - x0) * (((x2 - x0) * (x1 - x0) + (y2 - y0) * (y1 - y0)) / ((x1 - x0) * (x1 - x0) + (y1 - y0) * (y1 - y0))))) - x2) * ((x0 + ((x1 - x0) * (((x2 - x0) * (x1 - x0) + (y2 - y0) * (y1 - y0)) / ((x1 - x0) * (x1 - x0) + (y1 - y0) * (y1 - y0))))) - x2) + ((y0 + ((y1 - y0) * (((x2 - x0) * (x1 - x0) + (y2 - y0) * (y1 - y0)) / ((x1 - x0) * (x1 - x0) + (y1 - y0) * (y1 - y0))))) - y2) * ((y0 + ((y1 - y0) * (((x2 - x0) * (x1 - x0) + (y2 - y0) * (y1 - y0)) / ((x1 - x0) * (x1 - x0) + (y1 - y0) * (y1 - y0))))) - y2))).num) (strOf ((((x0 + ((x1 - x0) * (((x2 - x0) * (x1 - x0) + (y2 - y0) * (y1 - y0)) / ((x1 - x0) * (x1 - x0) + (y1 - y0) * (y1 - y0))))) - x2) * ((x0 + ((x1 - x0) * (((x2 - x0) * (x1 - x0) + (y2 - y0) * (y1 - y0)) / ((x1 - x0) * (x1 - x0) + (y1 - y0) * (y1 - y0))))) - x2) + ((y0 + ((y1 - y0) * (((x2 - x0) * (x1 - x0) + (y2 - y0) * (y1 - y0)) / ((x1 - x0) * (x1 - x0) + (y1 - y0) * (y1 - y0))))) - y2) * ((y0 + ((y1 - y0) * (((x2 - x0) * (x1 - x0) + (y2 - y0) * (y1 - y0)) / ((x1 - x0) * (x1 - x0) + (y1 - y0) * (y1 - y0))))) - y2))).den) w (sg_ne hn) (by rcases Gm.sg_cases (((x2 - x0) * (x1 - x0) + (y2 - y0) * (y1 - y0)) / ((x1 - x0) * (x1 - x0) + (y1 - y0) * (y1 - y0))) with ⟨k, e⟩ | ⟨k, e⟩ | ⟨k, e⟩; (rw [e]; decide); (rw [e]; decide); exact absurd k h) (cmp_no h') (fun w1 _ => far6I x2 y2 x0 y0 (by omega) b4 b5 b0 b1 w1) (fun w1 _ => far6I x2 y2 x1 y1 (by omega) b4 b5 b2 b3 w1) (fun w1 _ => leastI _ _ (by omega) bfa bfb w1) (fun w1 _ => rminusP x1 y1 x0 y0 (K := K) (by omega) b2 b3 b0 b1 w1) (fun w1 _ => rnormP _ _ (K := (K + K + 1)) (by omega) bux buy w1) (fun w1 _ => rsignI _ w1) (fun w1 _ => rminusP x2 y2 x0 y0 (K := K) (by omega) b4 b5 b0 b1 w1) (fun w1 _ => rdotP _ _ _ _ (K := (K + K + 1)) (by omega) bvx bvy bux buy w1) (fun w1 _ => roverI _ _ (by omega) bd bn hn w1) (fun w1 _ => rsignI _ w1) (fun w1 _ => by have := roq_any 1 (by omega) (by omega) w1; rwa [← rq_one] at this) (fun w1 _ => rorderI _ _ (by omega) bt (bq_mono bq_one (by omega)) w1) (fun w1 _ => rscaleP _ _ _ (by omega) (bq_mono bux (by omega)) (bq_mono buy (by omega)) bt w1) (fun w1 _ => rplusP x0 y0 _ _ (by omega) (bq_mono b0 (by omega)) (bq_mono b1 (by omega)) bsx bsy w1) (fun w1 _ => far6J x2 y2 _ _ (by omega) (by omega) b4 b5 bfx bfy w1)
theorem eqP (x y : Rat) : ∀ w1, (binOp .eql 28 (pq x y) (pq x y)).run Tryz.prog w1 = .ok (.bool true) w1 := fun w1 => by go_simp
theorem nearI_same (x0 y0 x2 y2 : Rat) {K : Nat} (hK : K ≤ 100) (b0 : Bq x0 K) (b1 : Bq y0 K) (b4 : Bq x2 K) (b5 : Bq y2 K) (w : World) (hT : Tab w) : Calls Tryz.prog 18 #[pq x0 y0, pq x0 y0, pq x2 y2] w (Ra w (.tuple #[rq ((x2 - x0) * (x2 - x0) + (y2 - y0) * (y2 - y0)), .int .i64 0])) :=
 cNear_same (nfZ x0.num) (nfZ y0.num) (nfZ x0.num) (nfZ y0.num) (nfZ x2.num) (nfZ y2.num) (sfZ x0.num) (strOf x0.den) (sfZ y0.num) (strOf y0.den) (sfZ x0.num) (strOf x0.den) (sfZ y0.num) (strOf y0.den) (sfZ x2.num) (strOf x2.den) (sfZ y2.num) (strOf y2.den) (nfZ (((x2 - x0) * (x2 - x0) + (y2 - y0) * (y2 - y0))).num) (sfZ (((x2 - x0) * (x2 - x0) + (y2 - y0) * (y2 - y0))).num) (strOf (((x2 - x0) * (x2 - x0) + (y2 - y0) * (y2 - y0))).den) w (chkI x0 y0 x0 y0 x2 y2 hK b0 b1 b0 b1 b4 b5 w hT) (eqP x0 y0) (fun w1 b => farI x0 y0 x2 y2 hK b0 b1 b4 b5 w1 (hT.below b))
theorem nearI_mid (x0 y0 x1 y1 x2 y2 : Rat) {K : Nat} (hK : K ≤ 100) (b0 : Bq x0 K) (b1 : Bq y0 K) (b2 : Bq x1 K) (b3 : Bq y1 K) (b4 : Bq x2 K) (b5 : Bq y2 K) (w : World) (hT : Tab w) (h1 : ¬ (x0 = x1 ∧ y0 = y1)) (hd : ¬ Gm.sg ((x1 - x0) * (x2 - x0) + (y1 - y0) * (y2 - y0)) ≤ 0) (hb : ¬ 0 ≤ Gm.sg ((x1 - x0) * (x2 - x1) + (y1 - y0) * (y2 - y1))) (hn : ((x1 - x0) * (x1 - x0) + (y1 - y0) * (y1 - y0)) ≠ 0) : Calls Tryz.prog 18 #[pq x0 y0, pq x1 y1, pq x2 y2] w (Ra w (.tuple #[rq (((x1 - x0) * (y2 - y0) - (y1 - y0) * (x2 - x0)) * ((x1 - x0) * (y2 - y0) - (y1 - y0) * (x2 - x0)) / ((x1 - x0) * (x1 - x0) + (y1 - y0) * (y1 - y0))), .int .i64 0])) :=
 cNear_mid (nfZ x0.num) (nfZ y0.num) (nfZ x1.num) (nfZ y1.num) (nfZ x2.num) (nfZ y2.num) (sfZ x0.num) (strOf x0.den) (sfZ y0.num) (strOf y0.den) (sfZ x1.num) (strOf x1.den) (sfZ y1.num) (strOf y1.den) (sfZ x2.num) (strOf x2.den) (sfZ y2.num) (strOf y2.den) (x1 - x0) (y1 - y0) (x2 - x0) (y2 - y0) (x2 - x1) (y2 - y1) w hT (chkI x0 y0 x1 y1 x2 y2 hK b0 b1 b2 b3 b4 b5 w hT) (neI _ _ _ _ h1) (ofI x0 y0 x1 y1 hK b0 b1 b2 b3) (ofI x0 y0 x2 y2 hK b0 b1 b4 b5) hd hb hn (fun w1 => (ofI x1 y1 x2 y2 hK b2 b3 b4 b5 w1).mono (fun e w' h => by obtain ⟨m0, a0, l0, c0, m1, a1, l1, c1, a2, l2, c2, X, Y, U, h1, h2, h3⟩ := h; exact ⟨m0, a0, l0, c0, m1, a1, l1, c1, a2, l2, c2, X, Y, U, h1, h2.1, h2.2.1, h2.2.2.1, h2.2.2.2, h3⟩))
theorem lm2_l {x y : Rat} (h : ¬ y < x) : lm2 x y = x := if_neg h
theorem lm2_r {x y : Rat} (h : y < x) : lm2 x y = y := if_pos h
theorem foot_eq {a b c d e f t n : Rat} (hn : n = (c - a) * (c - a) + (d - b) * (d - b)) (ht : t * n = (e - a) * (c - a) + (f - b) * (d - b)) (h0 : n ≠ 0) :
  (a + (c - a) * t - e) * (a + (c - a) * t - e) + (b + (d - b) * t - f) * (b + (d - b) * t - f) = ((c - a) * (f - b) - (d - b) * (e - a)) * ((c - a) * (f - b) - (d - b) * (e - a)) / n := by
 have hr := Rat.mul_inv_cancel _ h0
 rw [Rat.div_def]
 generalize n⁻¹ = i at *
 have h1 : (a + (c - a) * t - e) * (a + (c - a) * t - e) + (b + (d - b) * t - f) * (b + (d - b) * t - f) = (e - a) * (e - a) + (f - b) * (f - b) - t * (t * n) := by grind
 have h2 : ((c - a) * (f - b) - (d - b) * (e - a)) * ((c - a) * (f - b) - (d - b) * (e - a)) = n * ((e - a) * (e - a) + (f - b) * (f - b)) - (t * n) * (t * n) := by grind
 rw [h1, h2]
 generalize (e - a) * (e - a) + (f - b) * (f - b) = m
 generalize hs : t * n = s at *
 clear h1 h2 hn ht
 grind
theorem near6_I (x0 y0 x1 y1 x2 y2 : Rat) {K : Nat} (hK : K ≤ 60) (b0 : Bq x0 K) (b1 : Bq y0 K) (b2 : Bq x1 K) (b3 : Bq y1 K) (b4 : Bq x2 K) (b5 : Bq y2 K) (w : World) (hT : Tab w) :
  ∃ r : Rat, (∀ w1, Below w.heap.size w w1 → Calls Tryz.prog 18 #[pq x0 y0, pq x1 y1, pq x2 y2] w1 (Ra w1 (.tuple #[rq r, .int .i64 0]))) ∧ (∀ w1, Below w.heap.size w w1 → Calls Tryz.prog 20 #[pq x0 y0, pq x1 y1, pq x2 y2] w1 (Ra w1 (rq r))) := by
 by_cases hs : x0 = x1 ∧ y0 = y1
 ·obtain ⟨rfl, rfl⟩ := hs
  refine ⟨(x2 - x0) * (x2 - x0) + (y2 - y0) * (y2 - y0), fun w1 b => nearI_same x0 y0 x2 y2 (by omega) b0 b1 b4 b5 w1 (hT.below b), fun w1 _ => ?_⟩
  have := rnearI_0 x0 y0 x0 y0 x2 y2 hK b0 b1 b0 b1 b4 b5 w1 (by grind)
  rwa [lm2_l (by grind), show (x0 - x2) * (x0 - x2) + (y0 - y2) * (y0 - y2) = (x2 - x0) * (x2 - x0) + (y2 - y0) * (y2 - y0) by grind] at this
 have hp : 0 < ((x1 - x0) * (x1 - x0) + (y1 - y0) * (y1 - y0)) := sq_pos (fun ⟨a, b⟩ => hs ⟨by grind, by grind⟩)
 have hn : ¬ ((x1 - x0) * (x1 - x0) + (y1 - y0) * (y1 - y0)) = 0 := fun e => by rw [e] at hp; exact absurd hp (by decide)
 have ht : (((x2 - x0) * (x1 - x0) + (y2 - y0) * (y1 - y0)) / ((x1 - x0) * (x1 - x0) + (y1 - y0) * (y1 - y0))) * ((x1 - x0) * (x1 - x0) + (y1 - y0) * (y1 - y0)) = ((x2 - x0) * (x1 - x0) + (y2 - y0) * (y1 - y0)) := Rat.div_mul_cancel hn
 have e1 : ((x1 - x2) * (x1 - x2) + (y1 - y2) * (y1 - y2)) = ((x0 - x2) * (x0 - x2) + (y0 - y2) * (y0 - y2)) + ((x1 - x0) * (x1 - x0) + (y1 - y0) * (y1 - y0)) - 2 * ((x2 - x0) * (x1 - x0) + (y2 - y0) * (y1 - y0)) := by grind
 have ec : (x1 - x0) * (x2 - x0) + (y1 - y0) * (y2 - y0) = ((x2 - x0) * (x1 - x0) + (y2 - y0) * (y1 - y0)) := by grind
 have eb : (x1 - x0) * (x2 - x1) + (y1 - y0) * (y2 - y1) = ((x2 - x0) * (x1 - x0) + (y2 - y0) * (y1 - y0)) - ((x1 - x0) * (x1 - x0) + (y1 - y0) * (y1 - y0)) := by grind
 have ea : ((x0 - x2) * (x0 - x2) + (y0 - y2) * (y0 - y2)) = (x2 - x0) * (x2 - x0) + (y2 - y0) * (y2 - y0) := by grind
 have ef : ((x1 - x2) * (x1 - x2) + (y1 - y2) * (y1 - y2)) = (x2 - x1) * (x2 - x1) + (y2 - y1) * (y2 - y1) := by grind
 have em := foot_eq (a := x0) (b := y0) (c := x1) (d := y1) (e := x2) (f := y2) (t := (((x2 - x0) * (x1 - x0) + (y2 - y0) * (y1 - y0)) / ((x1 - x0) * (x1 - x0) + (y1 - y0) * (y1 - y0)))) rfl ht hn
 have l0 : (((x2 - x0) * (x1 - x0) + (y2 - y0) * (y1 - y0)) / ((x1 - x0) * (x1 - x0) + (y1 - y0) * (y1 - y0))) < 0 ↔ ((x2 - x0) * (x1 - x0) + (y2 - y0) * (y1 - y0)) < 0 := by rw [Rat.div_lt_iff hp, Rat.zero_mul]
 have l1 : ((1 : Int) : Rat) < (((x2 - x0) * (x1 - x0) + (y2 - y0) * (y1 - y0)) / ((x1 - x0) * (x1 - x0) + (y1 - y0) * (y1 - y0))) ↔ ((x1 - x0) * (x1 - x0) + (y1 - y0) * (y1 - y0)) < ((x2 - x0) * (x1 - x0) + (y2 - y0) * (y1 - y0)) := by rw [Rat.lt_div_iff hp, show ((1 : Int) : Rat) = 1 from rfl, Rat.one_mul]
 by_cases hd : ((x2 - x0) * (x1 - x0) + (y2 - y0) * (y1 - y0)) < 0
 ·refine ⟨(x2 - x0) * (x2 - x0) + (y2 - y0) * (y2 - y0), fun w1 b => nearI_a x0 y0 x1 y1 x2 y2 (by omega) b0 b1 b2 b3 b4 b5 w1 (hT.below b) hs (by rw [ec, Gm.sg_neg hd]; decide), fun w1 _ => ?_⟩
  have := rnearI_lo x0 y0 x1 y1 x2 y2 hK b0 b1 b2 b3 b4 b5 w1 hn (l0.2 hd)
  rwa [lm2_l (by grind), ea] at this
 by_cases hz : ((x2 - x0) * (x1 - x0) + (y2 - y0) * (y1 - y0)) = 0
 ·refine ⟨(x2 - x0) * (x2 - x0) + (y2 - y0) * (y2 - y0), fun w1 b => nearI_a x0 y0 x1 y1 x2 y2 (by omega) b0 b1 b2 b3 b4 b5 w1 (hT.below b) hs (by rw [ec, hz]; decide), fun w1 _ => ?_⟩
  have := rnearI_mid x0 y0 x1 y1 x2 y2 hK b0 b1 b2 b3 b4 b5 w1 hn (fun k => hd (l0.1 k)) (fun k => by have := l1.1 k; grind)
  rwa [show (((x2 - x0) * (x1 - x0) + (y2 - y0) * (y1 - y0)) / ((x1 - x0) * (x1 - x0) + (y1 - y0) * (y1 - y0))) = 0 by rw [hz, Rat.div_def, Rat.zero_mul], Rat.mul_zero, Rat.mul_zero, Rat.add_zero, Rat.add_zero, ea] at this
 have hpos : 0 < ((x2 - x0) * (x1 - x0) + (y2 - y0) * (y1 - y0)) := by grind
 have hd' : ¬ Gm.sg ((x1 - x0) * (x2 - x0) + (y1 - y0) * (y2 - y0)) ≤ 0 := by rw [ec, Gm.sg_pos hpos]; decide
 by_cases hb : ((x2 - x0) * (x1 - x0) + (y2 - y0) * (y1 - y0)) < ((x1 - x0) * (x1 - x0) + (y1 - y0) * (y1 - y0))
 ·refine ⟨_, fun w1 b => nearI_mid x0 y0 x1 y1 x2 y2 (by omega) b0 b1 b2 b3 b4 b5 w1 (hT.below b) hs hd' (by rw [eb, Gm.sg_neg (by grind)]; decide) hn, fun w1 _ => ?_⟩
  have := rnearI_mid x0 y0 x1 y1 x2 y2 hK b0 b1 b2 b3 b4 b5 w1 hn (fun k => hd (l0.1 k)) (fun k => by have := l1.1 k; grind)
  rwa [em] at this
 have hb' : 0 ≤ Gm.sg ((x1 - x0) * (x2 - x1) + (y1 - y0) * (y2 - y1)) := by
  rw [eb]
  rcases Gm.sg_cases (((x2 - x0) * (x1 - x0) + (y2 - y0) * (y1 - y0)) - ((x1 - x0) * (x1 - x0) + (y1 - y0) * (y1 - y0))) with ⟨k, e⟩ | ⟨k, e⟩ | ⟨k, e⟩
  ·rw [e]; decide
  ·rw [e]; decide
  ·exact absurd k (by grind)
 refine ⟨(x2 - x1) * (x2 - x1) + (y2 - y1) * (y2 - y1), fun w1 b => nearI_b x0 y0 x1 y1 x2 y2 (by omega) b0 b1 b2 b3 b4 b5 w1 (hT.below b) hs hd' hb', fun w1 _ => ?_⟩
 by_cases he : ((x2 - x0) * (x1 - x0) + (y2 - y0) * (y1 - y0)) = ((x1 - x0) * (x1 - x0) + (y1 - y0) * (y1 - y0))
 ·have := rnearI_mid x0 y0 x1 y1 x2 y2 hK b0 b1 b2 b3 b4 b5 w1 hn (fun k => hd (l0.1 k)) (fun k => by have := l1.1 k; grind)
  have e9 : (((x2 - x0) * (x1 - x0) + (y2 - y0) * (y1 - y0)) / ((x1 - x0) * (x1 - x0) + (y1 - y0) * (y1 - y0))) = 1 := by rw [he, Rat.div_def]; exact Rat.mul_inv_cancel _ hn
  rwa [e9, Rat.mul_one, Rat.mul_one, show x0 + (x1 - x0) = x1 by grind, show y0 + (y1 - y0) = y1 by grind, ef] at this
 ·have := rnearI_hi x0 y0 x1 y1 x2 y2 hK b0 b1 b2 b3 b4 b5 w1 hn (l1.2 (by grind))
  rwa [lm2_r (by grind), ef] at this
theorem near6_law (n0 n1 n2 n3 n4 n5 : Bool) (s0 d0 s1 d1 s2 d2 s3 d3 s4 d4 s5 d5 : ByteArray) (w : World) (hT : Tab w) :
  Calls Tryz.prog 4 #[.agg #[.bool n0, .string s0, .string d0, .bool n1, .string s1, .string d1, .bool n2, .string s2, .string d2, .bool n3, .string s3, .string d3, .bool n4, .string s4, .string d4, .bool n5, .string s5, .string d5]] w (Re w (.bool true)) := by
 have HL : Hid (∀ w1, Below w.heap.size w w1 → Calls Tryz.prog 17 #[] w1 (Re w1 (.bool true))) := fun w1 b => live6_any w1 (hT.below b)
 have hs := fun w1 => small6_any n0 n1 n2 n3 n4 n5 s0 d0 s1 d1 s2 d2 s3 d3 s4 d4 s5 d5 w1
 cases e1 : (sh6 s0 d0 && (sh6 s1 d1 && (sh6 s2 d2 && (sh6 s3 d3 && (sh6 s4 d4 && sh6 s5 d5))))) with
 | false => rw [e1] at hs; exact near6_l n0 n1 n2 n3 n4 n5 s0 d0 s1 d1 s2 d2 s3 d3 s4 d4 s5 d5 w hs HL
 | true =>
  rw [e1] at hs
  simp only [Bool.and_eq_true] at e1
  obtain ⟨q0, q1, q2, q3, q4, q5⟩ := e1
  have z0 := sh6_t q0; have z1 := sh6_t q1; have z2 := sh6_t q2; have z3 := sh6_t q3; have z4 := sh6_t q4; have z5 := sh6_t q5
  have ha := fun w1 (_ : Below w.heap.size w w1) => asked6_any n0 n1 n2 n3 n4 n5 s0 d0 s1 d1 s2 d2 s3 d3 s4 d4 s5 d5 w1 (le100 z0) (le100 z1) (le100 z2) (le100 z3) (le100 z4) (le100 z5)
  by_cases hE : two (two (twoq n0 s0 d0 n1 s1 d1) (twoq n2 s2 d2 n3 s3 d3)) (twoq n4 s4 d4 n5 s5 d5) = 0
  ·rw [hE] at ha
   simp only [two_zero, twoq_zero] at hE
   obtain ⟨⟨⟨a0, a1⟩, a2, a3⟩, a4, a5⟩ := hE
   obtain ⟨x0, b0, rfl, rfl, rfl⟩ := canon a0 z0
   obtain ⟨x1, b1, rfl, rfl, rfl⟩ := canon a1 z1
   obtain ⟨x2, b2, rfl, rfl, rfl⟩ := canon a2 z2
   obtain ⟨x3, b3, rfl, rfl, rfl⟩ := canon a3 z3
   obtain ⟨x4, b4, rfl, rfl, rfl⟩ := canon a4 z4
   obtain ⟨x5, b5, rfl, rfl, rfl⟩ := canon a5 z5
   obtain ⟨r, h1, h2⟩ := near6_I x0 x1 x2 x3 x4 x5 (Nat.le_refl _) b0 b1 b2 b3 b4 b5 w hT
   exact near6_ok _ _ _ _ _ _ _ _ _ _ _ _ _ _ _ _ _ _ _ _ _ w hs h1 ha h2 HL
  ·refine near6_a n0 n1 n2 n3 n4 n5 s0 d0 s1 d1 s2 d2 s3 d3 s4 d4 s5 d5 _ w (by omega) hs (fun w1 b => cNear_bad n0 n1 n2 n3 n4 n5 s0 d0 s1 d1 s2 d2 s3 d3 s4 d4 s5 d5 _ w1 (by omega) (fun w2 B b2 h => scheck3 B n0 n1 n2 n3 n4 n5 s0 d0 s1 d1 s2 d2 s3 d3 s4 d4 s5 d5 w2 (hT.below (Below.after b b2)) h (le100 z0) (le100 z1) (le100 z2) (le100 z3) (le100 z4) (le100 z5))) ha HL
end Go.Proofs.YtmojdkjpcjfkeaaGreatDoor
