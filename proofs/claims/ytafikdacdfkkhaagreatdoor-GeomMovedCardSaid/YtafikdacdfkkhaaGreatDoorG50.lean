/-
  gussetlaw05: GeomMoved, walked.
-/
import Derived.Test.YtafikdacdfkkhaaGreatDoorG40
namespace Go.Proofs.YtafikdacdfkkhaaGreatDoor
open Go.RowKit

set_option maxRecDepth 100000 in
set_option maxHeartbeats 32000000 in
theorem moved5_ok (n0 n1 n2 n3 n4 n5 n6 n7 n8 n9 n10 n20 n21 n22 n23 n24 n25 n26 n27 : Bool) (s0 d0 s1 d1 s2 d2 s3 d3 s4 d4 s5 d5 s6 d6 s7 d7 s8 d8 s9 d9 s10 d10 s20 d20 s21 d21 s22 d22 s23 d23 s24 d24 s25 d25 s26 d26 s27 d27 : ByteArray) (o c f m : Int) (w : World)
  (HL : Hid (∀ w1, Below w.heap.size w w1 → Calls Tryz.prog 10 #[] w1 fun e w' => e = .returned (.bool true) ∧ Below w1.heap.size w1 w'))
  (S0 : Hid (∀ w1, Calls Tryz.prog 16 #[.agg #[.bool n0, .string s0, .string d0]] w1 fun e w' => e = .returned (.bool true) ∧ Below w1.heap.size w1 w'))
  (S1 : Hid (∀ w1, Calls Tryz.prog 16 #[.agg #[.bool n1, .string s1, .string d1]] w1 fun e w' => e = .returned (.bool true) ∧ Below w1.heap.size w1 w'))
  (S2 : Hid (∀ w1, Calls Tryz.prog 16 #[.agg #[.bool n2, .string s2, .string d2]] w1 fun e w' => e = .returned (.bool true) ∧ Below w1.heap.size w1 w'))
  (S3 : Hid (∀ w1, Calls Tryz.prog 16 #[.agg #[.bool n3, .string s3, .string d3]] w1 fun e w' => e = .returned (.bool true) ∧ Below w1.heap.size w1 w'))
  (S4 : Hid (∀ w1, Calls Tryz.prog 16 #[.agg #[.bool n4, .string s4, .string d4]] w1 fun e w' => e = .returned (.bool true) ∧ Below w1.heap.size w1 w'))
  (S5 : Hid (∀ w1, Calls Tryz.prog 16 #[.agg #[.bool n5, .string s5, .string d5]] w1 fun e w' => e = .returned (.bool true) ∧ Below w1.heap.size w1 w'))
  (S6 : Hid (∀ w1, Calls Tryz.prog 16 #[.agg #[.bool n6, .string s6, .string d6]] w1 fun e w' => e = .returned (.bool true) ∧ Below w1.heap.size w1 w'))
  (S7 : Hid (∀ w1, Calls Tryz.prog 16 #[.agg #[.bool n7, .string s7, .string d7]] w1 fun e w' => e = .returned (.bool true) ∧ Below w1.heap.size w1 w'))
  (S8 : Hid (∀ w1, Calls Tryz.prog 16 #[.agg #[.bool n8, .string s8, .string d8]] w1 fun e w' => e = .returned (.bool true) ∧ Below w1.heap.size w1 w'))
  (S9 : Hid (∀ w1, Calls Tryz.prog 16 #[.agg #[.bool n9, .string s9, .string d9]] w1 fun e w' => e = .returned (.bool true) ∧ Below w1.heap.size w1 w'))
  (S10 : Hid (∀ w1, Calls Tryz.prog 16 #[.agg #[.bool n10, .string s10, .string d10]] w1 fun e w' => e = .returned (.bool true) ∧ Below w1.heap.size w1 w'))
  (HA : Hid (∀ (w1 : World) (B : Nat), Below w.heap.size w w1 → Cel w1 B [.bool n0, .string s0, .string d0, .bool n1, .string s1, .string d1, .bool n2, .string s2, .string d2, .bool n3, .string s3, .string d3, .bool n4, .string s4, .string d4, .bool n5, .string s5, .string d5, .bool n6, .string s6, .string d6, .bool n7, .string s7, .string d7, .bool n8, .string s8, .string d8, .bool n9, .string s9, .string d9] 28 → Calls Tryz.prog 13 #[.slice (some ⟨B, 0, none⟩) 5 5] w1 fun e w' => e = .returned (.int .i64 (0)) ∧ Below w1.heap.size w1 w'))
  (HK : Hid (∀ w1, Calls Tryz.prog 17 #[.agg #[.bool n10, .string s10, .string d10]] w1 fun e w' => e = .returned (.int .i64 (0)) ∧ Below w1.heap.size w1 w'))
  (HG : Hid (∀ w1, Calls Tryz.prog 18 #[.agg #[.bool n10, .string s10, .string d10]] w1 fun e w' => e = .returned (.int .i64 (1)) ∧ Below w1.heap.size w1 w'))
  (M0 : Hid (∀ w1, Calls Tryz.prog 19 #[.agg #[.bool n0, .string s0, .string d0, .bool n1, .string s1, .string d1], .agg #[.bool n8, .string s8, .string d8, .bool n9, .string s9, .string d9], .agg #[.bool n10, .string s10, .string d10]] w1 fun e w' => e = .returned (.agg #[.bool n20, .string s20, .string d20, .bool n21, .string s21, .string d21]) ∧ Below w1.heap.size w1 w'))
  (M1 : Hid (∀ w1, Calls Tryz.prog 19 #[.agg #[.bool n2, .string s2, .string d2, .bool n3, .string s3, .string d3], .agg #[.bool n8, .string s8, .string d8, .bool n9, .string s9, .string d9], .agg #[.bool n10, .string s10, .string d10]] w1 fun e w' => e = .returned (.agg #[.bool n22, .string s22, .string d22, .bool n23, .string s23, .string d23]) ∧ Below w1.heap.size w1 w'))
  (M2 : Hid (∀ w1, Calls Tryz.prog 19 #[.agg #[.bool n4, .string s4, .string d4, .bool n5, .string s5, .string d5], .agg #[.bool n8, .string s8, .string d8, .bool n9, .string s9, .string d9], .agg #[.bool n10, .string s10, .string d10]] w1 fun e w' => e = .returned (.agg #[.bool n24, .string s24, .string d24, .bool n25, .string s25, .string d25]) ∧ Below w1.heap.size w1 w'))
  (M3 : Hid (∀ w1, Calls Tryz.prog 19 #[.agg #[.bool n6, .string s6, .string d6, .bool n7, .string s7, .string d7], .agg #[.bool n8, .string s8, .string d8, .bool n9, .string s9, .string d9], .agg #[.bool n10, .string s10, .string d10]] w1 fun e w' => e = .returned (.agg #[.bool n26, .string s26, .string d26, .bool n27, .string s27, .string d27]) ∧ Below w1.heap.size w1 w'))
  (O1 : Hid (∀ w1, Below w.heap.size w w1 → Calls Tryz.prog 20 #[.agg #[.bool n0, .string s0, .string d0, .bool n1, .string s1, .string d1], .agg #[.bool n2, .string s2, .string d2, .bool n3, .string s3, .string d3], .agg #[.bool n4, .string s4, .string d4, .bool n5, .string s5, .string d5]] w1 fun e w' => e = .returned (.tuple #[.int .i64 (o), .int .i64 (0)]) ∧ Below w1.heap.size w1 w'))
  (O2 : Hid (∀ w1, Below w.heap.size w w1 → Calls Tryz.prog 20 #[.agg #[.bool n20, .string s20, .string d20, .bool n21, .string s21, .string d21], .agg #[.bool n22, .string s22, .string d22, .bool n23, .string s23, .string d23], .agg #[.bool n24, .string s24, .string d24, .bool n25, .string s25, .string d25]] w1 fun e w' => e = .returned (.tuple #[.int .i64 (o), .int .i64 (0)]) ∧ Below w1.heap.size w1 w'))
  (C1 : Hid (∀ w1, Below w.heap.size w w1 → Calls Tryz.prog 21 #[.agg #[.bool n0, .string s0, .string d0, .bool n1, .string s1, .string d1], .agg #[.bool n2, .string s2, .string d2, .bool n3, .string s3, .string d3], .agg #[.bool n4, .string s4, .string d4, .bool n5, .string s5, .string d5], .agg #[.bool n6, .string s6, .string d6, .bool n7, .string s7, .string d7]] w1 fun e w' => e = .returned (.tuple #[.int .i64 (c), .int .i64 (f)]) ∧ Below w1.heap.size w1 w'))
  (C2 : Hid (∀ w1, Below w.heap.size w w1 → Calls Tryz.prog 21 #[.agg #[.bool n20, .string s20, .string d20, .bool n21, .string s21, .string d21], .agg #[.bool n22, .string s22, .string d22, .bool n23, .string s23, .string d23], .agg #[.bool n24, .string s24, .string d24, .bool n25, .string s25, .string d25], .agg #[.bool n26, .string s26, .string d26, .bool n27, .string s27, .string d27]] w1 fun e w' => e = .returned (.tuple #[.int .i64 (c), .int .i64 (f)]) ∧ Below w1.heap.size w1 w'))
  (T1 : Hid (∀ w1, Below w.heap.size w w1 → Calls Tryz.prog 11 #[.agg #[.bool n0, .string s0, .string d0, .bool n1, .string s1, .string d1], .agg #[.bool n2, .string s2, .string d2, .bool n3, .string s3, .string d3], .agg #[.bool n4, .string s4, .string d4, .bool n5, .string s5, .string d5], .agg #[.bool n6, .string s6, .string d6, .bool n7, .string s7, .string d7]] w1 fun e w' => e = .returned (.tuple #[.int .i64 (m), .int .i64 (0)]) ∧ Below w1.heap.size w1 w'))
  (T2 : Hid (∀ w1, Below w.heap.size w w1 → Calls Tryz.prog 11 #[.agg #[.bool n20, .string s20, .string d20, .bool n21, .string s21, .string d21], .agg #[.bool n22, .string s22, .string d22, .bool n23, .string s23, .string d23], .agg #[.bool n24, .string s24, .string d24, .bool n25, .string s25, .string d25], .agg #[.bool n26, .string s26, .string d26, .bool n27, .string s27, .string d27]] w1 fun e w' => e = .returned (.tuple #[.int .i64 (m), .int .i64 (0)]) ∧ Below w1.heap.size w1 w')) :
  Calls Tryz.prog 4 #[.agg #[.bool n0, .string s0, .string d0, .bool n1, .string s1, .string d1, .bool n2, .string s2, .string d2, .bool n3, .string s3, .string d3, .bool n4, .string s4, .string d4, .bool n5, .string s5, .string d5, .bool n6, .string s6, .string d6, .bool n7, .string s7, .string d7], .agg #[.bool n8, .string s8, .string d8, .bool n9, .string s9, .string d9], .agg #[.bool n10, .string s10, .string d10]] w fun e w' => e = .returned (.bool true) ∧ Below w.heap.size w w' := by
 go_enter Tryz.func4, Tryz.ntmps4
 go_wp2_with fail
 go_fit (S0.out _)
 rintro e w1 ⟨rfl, b1⟩
 obtain ⟨kf, kp, kr, bb⟩ := al3 b1
 clear b1
 obtain ⟨c0, c1, c2, c3, c4, c5, c6, c7, c8, c9, c10, c11, c12, c13, c14, c15, c16, c17, c18, c19, c20, c21, c22, c23⟩ := c24 kf
 have p0 := cel6_0 kp
 have p1 := cel6_1 kp
 have p2 := cel6_2 kp
 have p3 := cel6_3 kp
 have p4 := cel6_4 kp
 have p5 := cel6_5 kp
 have r0 := cel3_0 kr
 have r1 := cel3_1 kr
 have r2 := cel3_2 kr
 go_wp2_with fail
 go_fit (S1.out _)
 rintro e w2 ⟨rfl, b1⟩
 replace kf := kf.below b1
 replace kp := kp.below b1
 replace kr := kr.below b1
 replace bb := Below.after bb b1
 clear b1
 clear c0 c1 c2 c3 c4 c5 c6 c7 c8 c9 c10 c11 c12 c13 c14 c15 c16 c17 c18 c19 c20 c21 c22 c23 p0 p1 p2 p3 p4 p5 r0 r1 r2
 obtain ⟨c0, c1, c2, c3, c4, c5, c6, c7, c8, c9, c10, c11, c12, c13, c14, c15, c16, c17, c18, c19, c20, c21, c22, c23⟩ := c24 kf
 have p0 := cel6_0 kp
 have p1 := cel6_1 kp
 have p2 := cel6_2 kp
 have p3 := cel6_3 kp
 have p4 := cel6_4 kp
 have p5 := cel6_5 kp
 have r0 := cel3_0 kr
 have r1 := cel3_1 kr
 have r2 := cel3_2 kr
 go_wp2_with fail
 go_fit (S2.out _)
 rintro e w3 ⟨rfl, b1⟩
 replace kf := kf.below b1
 replace kp := kp.below b1
 replace kr := kr.below b1
 replace bb := Below.after bb b1
 clear b1
 clear c0 c1 c2 c3 c4 c5 c6 c7 c8 c9 c10 c11 c12 c13 c14 c15 c16 c17 c18 c19 c20 c21 c22 c23 p0 p1 p2 p3 p4 p5 r0 r1 r2
 obtain ⟨c0, c1, c2, c3, c4, c5, c6, c7, c8, c9, c10, c11, c12, c13, c14, c15, c16, c17, c18, c19, c20, c21, c22, c23⟩ := c24 kf
 have p0 := cel6_0 kp
 have p1 := cel6_1 kp
 have p2 := cel6_2 kp
 have p3 := cel6_3 kp
 have p4 := cel6_4 kp
 have p5 := cel6_5 kp
 have r0 := cel3_0 kr
 have r1 := cel3_1 kr
 have r2 := cel3_2 kr
 go_wp2_with fail
 go_fit (S3.out _)
 rintro e w4 ⟨rfl, b1⟩
 replace kf := kf.below b1
 replace kp := kp.below b1
 replace kr := kr.below b1
 replace bb := Below.after bb b1
 clear b1
 clear c0 c1 c2 c3 c4 c5 c6 c7 c8 c9 c10 c11 c12 c13 c14 c15 c16 c17 c18 c19 c20 c21 c22 c23 p0 p1 p2 p3 p4 p5 r0 r1 r2
 obtain ⟨c0, c1, c2, c3, c4, c5, c6, c7, c8, c9, c10, c11, c12, c13, c14, c15, c16, c17, c18, c19, c20, c21, c22, c23⟩ := c24 kf
 have p0 := cel6_0 kp
 have p1 := cel6_1 kp
 have p2 := cel6_2 kp
 have p3 := cel6_3 kp
 have p4 := cel6_4 kp
 have p5 := cel6_5 kp
 have r0 := cel3_0 kr
 have r1 := cel3_1 kr
 have r2 := cel3_2 kr
 go_wp2_with fail
 go_fit (S4.out _)
 rintro e w5 ⟨rfl, b1⟩
 replace kf := kf.below b1
 replace kp := kp.below b1
 replace kr := kr.below b1
 replace bb := Below.after bb b1
 clear b1
 clear c0 c1 c2 c3 c4 c5 c6 c7 c8 c9 c10 c11 c12 c13 c14 c15 c16 c17 c18 c19 c20 c21 c22 c23 p0 p1 p2 p3 p4 p5 r0 r1 r2
 obtain ⟨c0, c1, c2, c3, c4, c5, c6, c7, c8, c9, c10, c11, c12, c13, c14, c15, c16, c17, c18, c19, c20, c21, c22, c23⟩ := c24 kf
 have p0 := cel6_0 kp
 have p1 := cel6_1 kp
 have p2 := cel6_2 kp
 have p3 := cel6_3 kp
 have p4 := cel6_4 kp
 have p5 := cel6_5 kp
 have r0 := cel3_0 kr
 have r1 := cel3_1 kr
 have r2 := cel3_2 kr
 go_wp2_with fail
 go_fit (S5.out _)
 rintro e w6 ⟨rfl, b1⟩
 replace kf := kf.below b1
 replace kp := kp.below b1
 replace kr := kr.below b1
 replace bb := Below.after bb b1
 clear b1
 clear c0 c1 c2 c3 c4 c5 c6 c7 c8 c9 c10 c11 c12 c13 c14 c15 c16 c17 c18 c19 c20 c21 c22 c23 p0 p1 p2 p3 p4 p5 r0 r1 r2
 obtain ⟨c0, c1, c2, c3, c4, c5, c6, c7, c8, c9, c10, c11, c12, c13, c14, c15, c16, c17, c18, c19, c20, c21, c22, c23⟩ := c24 kf
 have p0 := cel6_0 kp
 have p1 := cel6_1 kp
 have p2 := cel6_2 kp
 have p3 := cel6_3 kp
 have p4 := cel6_4 kp
 have p5 := cel6_5 kp
 have r0 := cel3_0 kr
 have r1 := cel3_1 kr
 have r2 := cel3_2 kr
 go_wp2_with fail
 go_fit (S6.out _)
 rintro e w7 ⟨rfl, b1⟩
 replace kf := kf.below b1
 replace kp := kp.below b1
 replace kr := kr.below b1
 replace bb := Below.after bb b1
 clear b1
 clear c0 c1 c2 c3 c4 c5 c6 c7 c8 c9 c10 c11 c12 c13 c14 c15 c16 c17 c18 c19 c20 c21 c22 c23 p0 p1 p2 p3 p4 p5 r0 r1 r2
 obtain ⟨c0, c1, c2, c3, c4, c5, c6, c7, c8, c9, c10, c11, c12, c13, c14, c15, c16, c17, c18, c19, c20, c21, c22, c23⟩ := c24 kf
 have p0 := cel6_0 kp
 have p1 := cel6_1 kp
 have p2 := cel6_2 kp
 have p3 := cel6_3 kp
 have p4 := cel6_4 kp
 have p5 := cel6_5 kp
 have r0 := cel3_0 kr
 have r1 := cel3_1 kr
 have r2 := cel3_2 kr
 go_wp2_with fail
 go_fit (S7.out _)
 rintro e w8 ⟨rfl, b1⟩
 replace kf := kf.below b1
 replace kp := kp.below b1
 replace kr := kr.below b1
 replace bb := Below.after bb b1
 clear b1
 clear c0 c1 c2 c3 c4 c5 c6 c7 c8 c9 c10 c11 c12 c13 c14 c15 c16 c17 c18 c19 c20 c21 c22 c23 p0 p1 p2 p3 p4 p5 r0 r1 r2
 obtain ⟨c0, c1, c2, c3, c4, c5, c6, c7, c8, c9, c10, c11, c12, c13, c14, c15, c16, c17, c18, c19, c20, c21, c22, c23⟩ := c24 kf
 have p0 := cel6_0 kp
 have p1 := cel6_1 kp
 have p2 := cel6_2 kp
 have p3 := cel6_3 kp
 have p4 := cel6_4 kp
 have p5 := cel6_5 kp
 have r0 := cel3_0 kr
 have r1 := cel3_1 kr
 have r2 := cel3_2 kr
 go_wp2_with fail
 go_fit (S8.out _)
 rintro e w9 ⟨rfl, b1⟩
 replace kf := kf.below b1
 replace kp := kp.below b1
 replace kr := kr.below b1
 replace bb := Below.after bb b1
 clear b1
 clear c0 c1 c2 c3 c4 c5 c6 c7 c8 c9 c10 c11 c12 c13 c14 c15 c16 c17 c18 c19 c20 c21 c22 c23 p0 p1 p2 p3 p4 p5 r0 r1 r2
 obtain ⟨c0, c1, c2, c3, c4, c5, c6, c7, c8, c9, c10, c11, c12, c13, c14, c15, c16, c17, c18, c19, c20, c21, c22, c23⟩ := c24 kf
 have p0 := cel6_0 kp
 have p1 := cel6_1 kp
 have p2 := cel6_2 kp
 have p3 := cel6_3 kp
 have p4 := cel6_4 kp
 have p5 := cel6_5 kp
 have r0 := cel3_0 kr
 have r1 := cel3_1 kr
 have r2 := cel3_2 kr
 go_wp2_with fail
 go_fit (S9.out _)
 rintro e w10 ⟨rfl, b1⟩
 replace kf := kf.below b1
 replace kp := kp.below b1
 replace kr := kr.below b1
 replace bb := Below.after bb b1
 clear b1
 clear c0 c1 c2 c3 c4 c5 c6 c7 c8 c9 c10 c11 c12 c13 c14 c15 c16 c17 c18 c19 c20 c21 c22 c23 p0 p1 p2 p3 p4 p5 r0 r1 r2
 obtain ⟨c0, c1, c2, c3, c4, c5, c6, c7, c8, c9, c10, c11, c12, c13, c14, c15, c16, c17, c18, c19, c20, c21, c22, c23⟩ := c24 kf
 have p0 := cel6_0 kp
 have p1 := cel6_1 kp
 have p2 := cel6_2 kp
 have p3 := cel6_3 kp
 have p4 := cel6_4 kp
 have p5 := cel6_5 kp
 have r0 := cel3_0 kr
 have r1 := cel3_1 kr
 have r2 := cel3_2 kr
 go_wp2_with fail
 go_fit (S10.out _)
 rintro e w11 ⟨rfl, b1⟩
 replace kf := kf.below b1
 replace kp := kp.below b1
 replace kr := kr.below b1
 replace bb := Below.after bb b1
 clear b1
 clear c0 c1 c2 c3 c4 c5 c6 c7 c8 c9 c10 c11 c12 c13 c14 c15 c16 c17 c18 c19 c20 c21 c22 c23 p0 p1 p2 p3 p4 p5 r0 r1 r2
 obtain ⟨c0, c1, c2, c3, c4, c5, c6, c7, c8, c9, c10, c11, c12, c13, c14, c15, c16, c17, c18, c19, c20, c21, c22, c23⟩ := c24 kf
 have p0 := cel6_0 kp
 have p1 := cel6_1 kp
 have p2 := cel6_2 kp
 have p3 := cel6_3 kp
 have p4 := cel6_4 kp
 have p5 := cel6_5 kp
 have r0 := cel3_0 kr
 have r1 := cel3_1 kr
 have r2 := cel3_2 kr
 go_wp2_with fail
 obtain ⟨w12, hw, kl, b1⟩ := mk1 w11 [.bool n0, .string s0, .string d0, .bool n1, .string s1, .string d1, .bool n2, .string s2, .string d2, .bool n3, .string s3, .string d3, .bool n4, .string s4, .string d4, .bool n5, .string s5, .string d5, .bool n6, .string s6, .string d6, .bool n7, .string s7, .string d7, .bool n8, .string s8, .string d8, .bool n9, .string s9, .string d9] 28
 rw [← hw]
 clear hw
 replace kf := kf.below b1
 replace kp := kp.below b1
 replace kr := kr.below b1
 replace bb := Below.after bb b1
 clear b1
 clear c0 c1 c2 c3 c4 c5 c6 c7 c8 c9 c10 c11 c12 c13 c14 c15 c16 c17 c18 c19 c20 c21 c22 c23 p0 p1 p2 p3 p4 p5 r0 r1 r2
 go_fit (HA.out _ _ bb kl)
 rintro e w13 ⟨rfl, b1⟩
 replace kf := kf.below b1
 replace kp := kp.below b1
 replace kr := kr.below b1
 replace bb := Below.after bb b1
 clear b1
 clear kl
 obtain ⟨c0, c1, c2, c3, c4, c5, c6, c7, c8, c9, c10, c11, c12, c13, c14, c15, c16, c17, c18, c19, c20, c21, c22, c23⟩ := c24 kf
 have p0 := cel6_0 kp
 have p1 := cel6_1 kp
 have p2 := cel6_2 kp
 have p3 := cel6_3 kp
 have p4 := cel6_4 kp
 have p5 := cel6_5 kp
 have r0 := cel3_0 kr
 have r1 := cel3_1 kr
 have r2 := cel3_2 kr
 go_wp2_with fail
 go_fit (HK.out _)
 rintro e w14 ⟨rfl, b1⟩
 replace kf := kf.below b1
 replace kp := kp.below b1
 replace kr := kr.below b1
 replace bb := Below.after bb b1
 clear b1
 clear c0 c1 c2 c3 c4 c5 c6 c7 c8 c9 c10 c11 c12 c13 c14 c15 c16 c17 c18 c19 c20 c21 c22 c23 p0 p1 p2 p3 p4 p5 r0 r1 r2
 obtain ⟨c0, c1, c2, c3, c4, c5, c6, c7, c8, c9, c10, c11, c12, c13, c14, c15, c16, c17, c18, c19, c20, c21, c22, c23⟩ := c24 kf
 have p0 := cel6_0 kp
 have p1 := cel6_1 kp
 have p2 := cel6_2 kp
 have p3 := cel6_3 kp
 have p4 := cel6_4 kp
 have p5 := cel6_5 kp
 have r0 := cel3_0 kr
 have r1 := cel3_1 kr
 have r2 := cel3_2 kr
 go_wp2_with fail
 go_fit (HG.out _)
 rintro e w15 ⟨rfl, b1⟩
 replace kf := kf.below b1
 replace kp := kp.below b1
 replace kr := kr.below b1
 replace bb := Below.after bb b1
 clear b1
 clear c0 c1 c2 c3 c4 c5 c6 c7 c8 c9 c10 c11 c12 c13 c14 c15 c16 c17 c18 c19 c20 c21 c22 c23 p0 p1 p2 p3 p4 p5 r0 r1 r2
 go_wp2_with fail
 have mkS : ∀ w', Below w15.heap.size w15 w' → (Below w15.heap.size w15 w' ∧ w'.cell? ⟨w.heap.size, 0, none⟩ = some (.bool n0) ∧ w'.cell? ⟨w.heap.size, 1, none⟩ = some (.string s0) ∧ w'.cell? ⟨w.heap.size, 2, none⟩ = some (.string d0) ∧ w'.cell? ⟨w.heap.size, 3, none⟩ = some (.bool n1) ∧ w'.cell? ⟨w.heap.size, 4, none⟩ = some (.string s1) ∧ w'.cell? ⟨w.heap.size, 5, none⟩ = some (.string d1) ∧ w'.cell? ⟨w.heap.size, 6, none⟩ = some (.bool n2) ∧ w'.cell? ⟨w.heap.size, 7, none⟩ = some (.string s2) ∧ w'.cell? ⟨w.heap.size, 8, none⟩ = some (.string d2) ∧ w'.cell? ⟨w.heap.size, 9, none⟩ = some (.bool n3) ∧ w'.cell? ⟨w.heap.size, 10, none⟩ = some (.string s3) ∧ w'.cell? ⟨w.heap.size, 11, none⟩ = some (.string d3) ∧ w'.cell? ⟨w.heap.size, 12, none⟩ = some (.bool n4) ∧ w'.cell? ⟨w.heap.size, 13, none⟩ = some (.string s4) ∧ w'.cell? ⟨w.heap.size, 14, none⟩ = some (.string d4) ∧ w'.cell? ⟨w.heap.size, 15, none⟩ = some (.bool n5) ∧ w'.cell? ⟨w.heap.size, 16, none⟩ = some (.string s5) ∧ w'.cell? ⟨w.heap.size, 17, none⟩ = some (.string d5) ∧ w'.cell? ⟨w.heap.size, 18, none⟩ = some (.bool n6) ∧ w'.cell? ⟨w.heap.size, 19, none⟩ = some (.string s6) ∧ w'.cell? ⟨w.heap.size, 20, none⟩ = some (.string d6) ∧ w'.cell? ⟨w.heap.size, 21, none⟩ = some (.bool n7) ∧ w'.cell? ⟨w.heap.size, 22, none⟩ = some (.string s7) ∧ w'.cell? ⟨w.heap.size, 23, none⟩ = some (.string d7) ∧ w'.cell? ⟨w.heap.size + 1, 0, none⟩ = some (.bool n8) ∧ w'.cell? ⟨w.heap.size + 1, 1, none⟩ = some (.string s8) ∧ w'.cell? ⟨w.heap.size + 1, 2, none⟩ = some (.string d8) ∧ w'.cell? ⟨w.heap.size + 1, 3, none⟩ = some (.bool n9) ∧ w'.cell? ⟨w.heap.size + 1, 4, none⟩ = some (.string s9) ∧ w'.cell? ⟨w.heap.size + 1, 5, none⟩ = some (.string d9) ∧ w'.cell? ⟨w.heap.size + 1 + 1, 0, none⟩ = some (.bool n10) ∧ w'.cell? ⟨w.heap.size + 1 + 1, 1, none⟩ = some (.string s10) ∧ w'.cell? ⟨w.heap.size + 1 + 1, 2, none⟩ = some (.string d10)) := fun w' h => ⟨h, cel24_0 (kf.below h), cel24_1 (kf.below h), cel24_2 (kf.below h), cel24_3 (kf.below h), cel24_4 (kf.below h), cel24_5 (kf.below h), cel24_6 (kf.below h), cel24_7 (kf.below h), cel24_8 (kf.below h), cel24_9 (kf.below h), cel24_10 (kf.below h), cel24_11 (kf.below h), cel24_12 (kf.below h), cel24_13 (kf.below h), cel24_14 (kf.below h), cel24_15 (kf.below h), cel24_16 (kf.below h), cel24_17 (kf.below h), cel24_18 (kf.below h), cel24_19 (kf.below h), cel24_20 (kf.below h), cel24_21 (kf.below h), cel24_22 (kf.below h), cel24_23 (kf.below h), cel6_0 (kp.below h), cel6_1 (kp.below h), cel6_2 (kp.below h), cel6_3 (kp.below h), cel6_4 (kp.below h), cel6_5 (kp.below h), cel3_0 (kr.below h), cel3_1 (kr.below h), cel3_2 (kr.below h)⟩
 have bcS : ∀ w', (Below w15.heap.size w15 w' ∧ w'.cell? ⟨w.heap.size, 0, none⟩ = some (.bool n0) ∧ w'.cell? ⟨w.heap.size, 1, none⟩ = some (.string s0) ∧ w'.cell? ⟨w.heap.size, 2, none⟩ = some (.string d0) ∧ w'.cell? ⟨w.heap.size, 3, none⟩ = some (.bool n1) ∧ w'.cell? ⟨w.heap.size, 4, none⟩ = some (.string s1) ∧ w'.cell? ⟨w.heap.size, 5, none⟩ = some (.string d1) ∧ w'.cell? ⟨w.heap.size, 6, none⟩ = some (.bool n2) ∧ w'.cell? ⟨w.heap.size, 7, none⟩ = some (.string s2) ∧ w'.cell? ⟨w.heap.size, 8, none⟩ = some (.string d2) ∧ w'.cell? ⟨w.heap.size, 9, none⟩ = some (.bool n3) ∧ w'.cell? ⟨w.heap.size, 10, none⟩ = some (.string s3) ∧ w'.cell? ⟨w.heap.size, 11, none⟩ = some (.string d3) ∧ w'.cell? ⟨w.heap.size, 12, none⟩ = some (.bool n4) ∧ w'.cell? ⟨w.heap.size, 13, none⟩ = some (.string s4) ∧ w'.cell? ⟨w.heap.size, 14, none⟩ = some (.string d4) ∧ w'.cell? ⟨w.heap.size, 15, none⟩ = some (.bool n5) ∧ w'.cell? ⟨w.heap.size, 16, none⟩ = some (.string s5) ∧ w'.cell? ⟨w.heap.size, 17, none⟩ = some (.string d5) ∧ w'.cell? ⟨w.heap.size, 18, none⟩ = some (.bool n6) ∧ w'.cell? ⟨w.heap.size, 19, none⟩ = some (.string s6) ∧ w'.cell? ⟨w.heap.size, 20, none⟩ = some (.string d6) ∧ w'.cell? ⟨w.heap.size, 21, none⟩ = some (.bool n7) ∧ w'.cell? ⟨w.heap.size, 22, none⟩ = some (.string s7) ∧ w'.cell? ⟨w.heap.size, 23, none⟩ = some (.string d7) ∧ w'.cell? ⟨w.heap.size + 1, 0, none⟩ = some (.bool n8) ∧ w'.cell? ⟨w.heap.size + 1, 1, none⟩ = some (.string s8) ∧ w'.cell? ⟨w.heap.size + 1, 2, none⟩ = some (.string d8) ∧ w'.cell? ⟨w.heap.size + 1, 3, none⟩ = some (.bool n9) ∧ w'.cell? ⟨w.heap.size + 1, 4, none⟩ = some (.string s9) ∧ w'.cell? ⟨w.heap.size + 1, 5, none⟩ = some (.string d9) ∧ w'.cell? ⟨w.heap.size + 1 + 1, 0, none⟩ = some (.bool n10) ∧ w'.cell? ⟨w.heap.size + 1 + 1, 1, none⟩ = some (.string s10) ∧ w'.cell? ⟨w.heap.size + 1 + 1, 2, none⟩ = some (.string d10)) → Below w15.heap.size w15 w' := fun w' h => h.1
 replace mkS := shut mkS
 replace bcS := shut bcS
 go_cut [7] from 116 to 136 (fun v wx => ∃ gc, v = .pointer (some ⟨gc, 0, none⟩) ∧ w15.heap.size ≤ gc ∧ Cel wx gc [.bool n20, .string s20, .string d20, .bool n21, .string s21, .string d21, .bool n22, .string s22, .string d22, .bool n23, .string s23, .string d23, .bool n24, .string s24, .string d24, .bool n25, .string s25, .string d25, .bool n26, .string s26, .string d26, .bool n27, .string s27, .string d27] 30 ∧ Below w15.heap.size w15 wx)
 case first =>
  clear HL HA HK HG O1 O2 C1 C2 T1 T2 S0 S1 S2 S3 S4 S5 S6 S7 S8 S9 S10
  refine wp_region_held_drew (S := (fun w' => Below w15.heap.size w15 w' ∧ w'.cell? ⟨w.heap.size, 0, none⟩ = some (.bool n0) ∧ w'.cell? ⟨w.heap.size, 1, none⟩ = some (.string s0) ∧ w'.cell? ⟨w.heap.size, 2, none⟩ = some (.string d0) ∧ w'.cell? ⟨w.heap.size, 3, none⟩ = some (.bool n1) ∧ w'.cell? ⟨w.heap.size, 4, none⟩ = some (.string s1) ∧ w'.cell? ⟨w.heap.size, 5, none⟩ = some (.string d1) ∧ w'.cell? ⟨w.heap.size, 6, none⟩ = some (.bool n2) ∧ w'.cell? ⟨w.heap.size, 7, none⟩ = some (.string s2) ∧ w'.cell? ⟨w.heap.size, 8, none⟩ = some (.string d2) ∧ w'.cell? ⟨w.heap.size, 9, none⟩ = some (.bool n3) ∧ w'.cell? ⟨w.heap.size, 10, none⟩ = some (.string s3) ∧ w'.cell? ⟨w.heap.size, 11, none⟩ = some (.string d3) ∧ w'.cell? ⟨w.heap.size, 12, none⟩ = some (.bool n4) ∧ w'.cell? ⟨w.heap.size, 13, none⟩ = some (.string s4) ∧ w'.cell? ⟨w.heap.size, 14, none⟩ = some (.string d4) ∧ w'.cell? ⟨w.heap.size, 15, none⟩ = some (.bool n5) ∧ w'.cell? ⟨w.heap.size, 16, none⟩ = some (.string s5) ∧ w'.cell? ⟨w.heap.size, 17, none⟩ = some (.string d5) ∧ w'.cell? ⟨w.heap.size, 18, none⟩ = some (.bool n6) ∧ w'.cell? ⟨w.heap.size, 19, none⟩ = some (.string s6) ∧ w'.cell? ⟨w.heap.size, 20, none⟩ = some (.string d6) ∧ w'.cell? ⟨w.heap.size, 21, none⟩ = some (.bool n7) ∧ w'.cell? ⟨w.heap.size, 22, none⟩ = some (.string s7) ∧ w'.cell? ⟨w.heap.size, 23, none⟩ = some (.string d7) ∧ w'.cell? ⟨w.heap.size + 1, 0, none⟩ = some (.bool n8) ∧ w'.cell? ⟨w.heap.size + 1, 1, none⟩ = some (.string s8) ∧ w'.cell? ⟨w.heap.size + 1, 2, none⟩ = some (.string d8) ∧ w'.cell? ⟨w.heap.size + 1, 3, none⟩ = some (.bool n9) ∧ w'.cell? ⟨w.heap.size + 1, 4, none⟩ = some (.string s9) ∧ w'.cell? ⟨w.heap.size + 1, 5, none⟩ = some (.string d9) ∧ w'.cell? ⟨w.heap.size + 1 + 1, 0, none⟩ = some (.bool n10) ∧ w'.cell? ⟨w.heap.size + 1 + 1, 1, none⟩ = some (.string s10) ∧ w'.cell? ⟨w.heap.size + 1 + 1, 2, none⟩ = some (.string d10))) (by kernel_rfl) (mkS.out _ (bdrew _)) (fun _ => ?_)
  refine absO 23 (by kernel_rfl) (fun ops q SP hops hq hSP => ?_)
  obtain ⟨fr, hfr⟩ : ∃ fr : Value → Value → Value → Value → Value → Value → Act, fr = (fun x7 x120 x125 x130 x135 x136 => { tmps := #[.agg #[.bool n0, .string s0, .string d0, .bool n1, .string s1, .string d1, .bool n2, .string s2, .string d2, .bool n3, .string s3, .string d3, .bool n4, .string s4, .string d4, .bool n5, .string s5, .string d5, .bool n6, .string s6, .string d6, .bool n7, .string s7, .string d7], .agg #[.bool n8, .string s8, .string d8, .bool n9, .string s9, .string d9], .agg #[.bool n10, .string s10, .string d10], .pointer (some ⟨w.heap.size, 0, none⟩), .pointer (some ⟨w.heap.size + 1, 0, none⟩), .pointer (some ⟨w.heap.size + 1 + 1, 0, none⟩), .bool false, x7, undef, undef, undef, undef, undef, undef, undef, undef, undef, undef, undef, undef, .pointer (some ⟨w.heap.size, 0, none⟩), .pointer (some ⟨w.heap.size, 0, none⟩), .agg #[.bool n0, .string s0, .string d0], .bool true, .bool false, .bool false, .pointer (some ⟨w.heap.size, 0, none⟩), .pointer (some ⟨w.heap.size, 3, none⟩), .agg #[.bool n1, .string s1, .string d1], .bool true, .bool false, .bool false, .bool false, .pointer (some ⟨w.heap.size, 6, none⟩), .pointer (some ⟨w.heap.size, 6, none⟩), .agg #[.bool n2, .string s2, .string d2], .bool true, .bool false, .bool false, .bool false, .pointer (some ⟨w.heap.size, 6, none⟩), .pointer (some ⟨w.heap.size, 9, none⟩), .agg #[.bool n3, .string s3, .string d3], .bool true, .bool false, .bool false, .bool false, .pointer (some ⟨w.heap.size, 12, none⟩), .pointer (some ⟨w.heap.size, 12, none⟩), .agg #[.bool n4, .string s4, .string d4], .bool true, .bool false, .bool false, .bool false, .pointer (some ⟨w.heap.size, 12, none⟩), .pointer (some ⟨w.heap.size, 15, none⟩), .agg #[.bool n5, .string s5, .string d5], .bool true, .bool false, .bool false, .bool false, .pointer (some ⟨w.heap.size, 18, none⟩), .pointer (some ⟨w.heap.size, 18, none⟩), .agg #[.bool n6, .string s6, .string d6], .bool true, .bool false, .bool false, .bool false, .pointer (some ⟨w.heap.size, 18, none⟩), .pointer (some ⟨w.heap.size, 21, none⟩), .agg #[.bool n7, .string s7, .string d7], .bool true, .bool false, .bool false, .bool false, .pointer (some ⟨w.heap.size + 1, 0, none⟩), .agg #[.bool n8, .string s8, .string d8], .bool true, .bool false, .bool false, .bool false, .pointer (some ⟨w.heap.size + 1, 3, none⟩), .agg #[.bool n9, .string s9, .string d9], .bool true, .bool false, .bool false, .bool false, .agg #[.bool n10, .string s10, .string d10], .bool true, .bool false, .bool false, .bool false, .pointer (some ⟨w.heap.size, 0, none⟩), .agg #[.bool n0, .string s0, .string d0, .bool n1, .string s1, .string d1], .pointer (some ⟨w.heap.size, 6, none⟩), .agg #[.bool n2, .string s2, .string d2, .bool n3, .string s3, .string d3], .pointer (some ⟨w.heap.size, 12, none⟩), .agg #[.bool n4, .string s4, .string d4, .bool n5, .string s5, .string d5], .pointer (some ⟨w.heap.size, 18, none⟩), .agg #[.bool n6, .string s6, .string d6, .bool n7, .string s7, .string d7], .agg #[.bool n8, .string s8, .string d8, .bool n9, .string s9, .string d9], .slice (some ⟨w11.heap.size, 0, none⟩) 5 5, .int .i64 0, .bool false, .bool false, .bool false, .agg #[.bool n10, .string s10, .string d10], .int .i64 0, .bool false, .bool false, .bool false, .agg #[.bool n10, .string s10, .string d10], .int .i64 1, .bool false, .bool false, undef, .pointer (some ⟨w.heap.size, 0, none⟩), .agg #[.bool n0, .string s0, .string d0, .bool n1, .string s1, .string d1], .agg #[.bool n8, .string s8, .string d8, .bool n9, .string s9, .string d9], .agg #[.bool n10, .string s10, .string d10], x120, .pointer (some ⟨w.heap.size, 6, none⟩), .agg #[.bool n2, .string s2, .string d2, .bool n3, .string s3, .string d3], .agg #[.bool n8, .string s8, .string d8, .bool n9, .string s9, .string d9], .agg #[.bool n10, .string s10, .string d10], x125, .pointer (some ⟨w.heap.size, 12, none⟩), .agg #[.bool n4, .string s4, .string d4, .bool n5, .string s5, .string d5], .agg #[.bool n8, .string s8, .string d8, .bool n9, .string s9, .string d9], .agg #[.bool n10, .string s10, .string d10], x130, .pointer (some ⟨w.heap.size, 18, none⟩), .agg #[.bool n6, .string s6, .string d6, .bool n7, .string s7, .string d7], .agg #[.bool n8, .string s8, .string d8, .bool n9, .string s9, .string d9], .agg #[.bool n10, .string s10, .string d10], x135, x136, undef, undef, undef, undef, undef, undef, undef, undef, undef, undef, undef, undef, undef, undef, undef, undef, undef, undef, undef, undef, undef, undef, undef, undef, undef, undef, undef, undef, undef, undef, undef, undef, undef, undef, undef, undef, undef, undef, undef, undef, undef, undef, undef, undef, undef, undef, undef, undef, undef, undef, undef, undef, undef, undef, undef, undef, undef, undef, undef, undef, undef, undef, undef, undef, undef, undef, undef, undef, undef, undef, undef, undef, undef, undef, undef, undef, undef, undef, undef, undef, undef, undef, undef, undef, undef, undef, undef, undef, undef, undef, undef, undef, undef, undef, undef, undef, undef, undef, undef, undef, undef, undef, undef, undef, undef], defers := [] }) := ⟨_, rfl⟩
  have L4_0 : Hid (∀ (g0 : Nat) (w' : World) (hS : SP w') (k0 : Cel w' g0 [.bool false, .string { data := #[] }, .string { data := #[] }, .bool false, .string { data := #[] }, .string { data := #[] }, .bool false, .string { data := #[] }, .string { data := #[] }, .bool false, .string { data := #[] }, .string { data := #[] }, .bool false, .string { data := #[] }, .string { data := #[] }, .bool false, .string { data := #[] }, .string { data := #[] }, .bool false, .string { data := #[] }, .string { data := #[] }, .bool false, .string { data := #[] }, .string { data := #[] }] 30) (h0 : w15.heap.size ≤ g0), wpAnyH Tryz.prog .any ops q SP 1 (ls 23 [0, 1, 2, 3, 4, 5, 6, 7, 8, 9, 10, 11, 12, 13, 14, 15, 16, 17, 18, 19, 20, 21]) (fr (.pointer (some ⟨g0, 0, none⟩)) (.agg #[.bool n20, .string s20, .string d20, .bool n21, .string s21, .string d21]) (.agg #[.bool n22, .string s22, .string d22, .bool n23, .string s23, .string d23]) (.agg #[.bool n24, .string s24, .string d24, .bool n25, .string s25, .string d25]) (.agg #[.bool n26, .string s26, .string d26, .bool n27, .string s27, .string d27]) (.agg #[.bool n20, .string s20, .string d20, .bool n21, .string s21, .string d21, .bool n22, .string s22, .string d22, .bool n23, .string s23, .string d23, .bool n24, .string s24, .string d24, .bool n25, .string s25, .string d25, .bool n26, .string s26, .string d26, .bool n27, .string s27, .string d27])) w') := by
   subst hops hq hSP hfr
   intro g0 w' hS k0 h0
   have bc := bcS.out _ hS
   dsimp only
   refine rdy [22] (by kernel_rfl) ?_
   refine AllReadyH.cons (o := _) rfl (fun K hK => ?_) AllReadyH.nil
   simp only [List.getElem_toArray, List.getElem_cons_succ, List.getElem_cons_zero]
   refine wp_store_row 30 _ _ rfl g0 #[.bool n20, .string s20, .string d20, .bool n21, .string s21, .string d21, .bool n22, .string s22, .string d22, .bool n23, .string s23, .string d23, .bool n24, .string s24, .string d24, .bool n25, .string s25, .string d25, .bool n26, .string s26, .string d26, .bool n27, .string s27, .string d27] rfl rfl 30 _ k0 (by kernel_rfl) rfl (by kernel_rfl) ?_
   refine hK.out _ _ (mkS.out _ (below_setRow bc h0 _)) (fun hS => ?_)
   clear hK K
   replace bc := below_setRow bc h0 #[.bool n20, .string s20, .string d20, .bool n21, .string s21, .string d21, .bool n22, .string s22, .string d22, .bool n23, .string s23, .string d23, .bool n24, .string s24, .string d24, .bool n25, .string s25, .string d25, .bool n26, .string s26, .string d26, .bool n27, .string s27, .string d27]
   replace k0 : Cel (w'.setRow g0 #[.bool n20, .string s20, .string d20, .bool n21, .string s21, .string d21, .bool n22, .string s22, .string d22, .bool n23, .string s23, .string d23, .bool n24, .string s24, .string d24, .bool n25, .string s25, .string d25, .bool n26, .string s26, .string d26, .bool n27, .string s27, .string d27]) g0 [.bool n20, .string s20, .string d20, .bool n21, .string s21, .string d21, .bool n22, .string s22, .string d22, .bool n23, .string s23, .string d23, .bool n24, .string s24, .string d24, .bool n25, .string s25, .string d25, .bool n26, .string s26, .string d26, .bool n27, .string s27, .string d27] 30 := setRow_heap _ _ _ _ _ _ k0
   refine wpAnyH_done (by kernel_rfl) ?_ _
   go_wp2_with fail
   go_meet
   exact ⟨_, rfl, h0, k0, bc⟩
  have L4_ : Hid (∀ (w' : World) (hS : SP w'), wpAnyH Tryz.prog .any ops q SP 2 (ls 23 [0, 1, 2, 3, 4, 5, 6, 7, 8, 9, 10, 11, 12, 13, 14, 15, 16, 17, 18, 19, 20]) (fr undef (.agg #[.bool n20, .string s20, .string d20, .bool n21, .string s21, .string d21]) (.agg #[.bool n22, .string s22, .string d22, .bool n23, .string s23, .string d23]) (.agg #[.bool n24, .string s24, .string d24, .bool n25, .string s25, .string d25]) (.agg #[.bool n26, .string s26, .string d26, .bool n27, .string s27, .string d27]) (.agg #[.bool n20, .string s20, .string d20, .bool n21, .string s21, .string d21, .bool n22, .string s22, .string d22, .bool n23, .string s23, .string d23, .bool n24, .string s24, .string d24, .bool n25, .string s25, .string d25, .bool n26, .string s26, .string d26, .bool n27, .string s27, .string d27])) w') := by
   subst hops hq hSP hfr
   intro w' hS
   have bc := bcS.out _ hS
   dsimp only
   refine rdy [21] (by kernel_rfl) ?_
   refine AllReadyH.cons (o := _) rfl (fun K hK => ?_) AllReadyH.nil
   ·simp only [List.getElem_toArray, List.getElem_cons_succ, List.getElem_cons_zero]
    go_simp
    try go_wp2_with fail
    refine hK.out _ _ (mkS.out _ (ba bc _)) (fun hS => ?_)
    clear hK K
    exact lst (L4_0.out _ _ hS (Cel.new w' _ _) bc.size) (by kernel_rfl)
  have L3_0 : Hid (∀ (g0 : Nat) (w' : World) (hS : SP w') (k0 : Cel w' g0 [.bool false, .string { data := #[] }, .string { data := #[] }, .bool false, .string { data := #[] }, .string { data := #[] }, .bool false, .string { data := #[] }, .string { data := #[] }, .bool false, .string { data := #[] }, .string { data := #[] }, .bool false, .string { data := #[] }, .string { data := #[] }, .bool false, .string { data := #[] }, .string { data := #[] }, .bool false, .string { data := #[] }, .string { data := #[] }, .bool false, .string { data := #[] }, .string { data := #[] }] 30) (h0 : w15.heap.size ≤ g0), wpAnyH Tryz.prog .any ops q SP 3 (ls 23 [0, 1, 2, 3, 4, 5, 6, 7, 8, 9, 10, 11, 12, 13, 14, 15, 16, 17, 18, 21]) (fr (.pointer (some ⟨g0, 0, none⟩)) (.agg #[.bool n20, .string s20, .string d20, .bool n21, .string s21, .string d21]) (.agg #[.bool n22, .string s22, .string d22, .bool n23, .string s23, .string d23]) (.agg #[.bool n24, .string s24, .string d24, .bool n25, .string s25, .string d25]) undef undef) w') := by
   clear L4_
   subst hops hq hSP hfr
   intro g0 w' hS k0 h0
   have bc := bcS.out _ hS
   dsimp only
   refine rdy [19] (by kernel_rfl) ?_
   refine AllReadyH.cons (o := _) rfl (fun K hK => ?_) AllReadyH.nil
   ·simp only [List.getElem_toArray, List.getElem_cons_succ, List.getElem_cons_zero]
    go_simp
    go_fit (M3.out _)
    rintro e wn ⟨rfl, bn⟩
    have bcn := Below.after bc bn
    try go_wp2_with fail
    refine hK.out _ _ (mkS.out _ bcn) (fun hS => ?_)
    clear hK K
    refine wpAnyH_take (i := 20) (oi := _) (v := ?_) rfl (by kernel_rfl) (by kernel_rfl) (by kernel_rfl) (fun _ _ _ h => h) (Or.inl ⟨by rfl, ?_⟩) (by assumption) ?_
    rotate_left
    ·(intro w hSw; (try dsimp only at hSw); go_simp; try with_reducible rfl)
    try simp only [Act.put, List.getElem_toArray, List.getElem_cons_succ, List.getElem_cons_zero, List.setIfInBounds_toArray, List.set_cons_zero, List.set_cons_succ]
    exact lst (L4_0.out g0 wn hS (k0.below bn) h0) (by kernel_rfl)
  have L3_ : Hid (∀ (w' : World) (hS : SP w'), wpAnyH Tryz.prog .any ops q SP 4 (ls 23 [0, 1, 2, 3, 4, 5, 6, 7, 8, 9, 10, 11, 12, 13, 14, 15, 16, 17, 18]) (fr undef (.agg #[.bool n20, .string s20, .string d20, .bool n21, .string s21, .string d21]) (.agg #[.bool n22, .string s22, .string d22, .bool n23, .string s23, .string d23]) (.agg #[.bool n24, .string s24, .string d24, .bool n25, .string s25, .string d25]) undef undef) w') := by
   clear L4_0
   subst hops hq hSP hfr
   intro w' hS
   have bc := bcS.out _ hS
   dsimp only
   refine rdy [19, 21] (by kernel_rfl) ?_
   refine AllReadyH.cons (o := _) rfl (fun K hK => ?_) (AllReadyH.cons (o := _) rfl (fun K hK => ?_) AllReadyH.nil)
   ·simp only [List.getElem_toArray, List.getElem_cons_succ, List.getElem_cons_zero]
    go_simp
    go_fit (M3.out _)
    rintro e wn ⟨rfl, bn⟩
    have bcn := Below.after bc bn
    try go_wp2_with fail
    refine hK.out _ _ (mkS.out _ bcn) (fun hS => ?_)
    clear hK K
    refine wpAnyH_take (i := 20) (oi := _) (v := ?_) rfl (by kernel_rfl) (by kernel_rfl) (by kernel_rfl) (fun _ _ _ h => h) (Or.inl ⟨by rfl, ?_⟩) (by assumption) ?_
    rotate_left
    ·(intro w hSw; (try dsimp only at hSw); go_simp; try with_reducible rfl)
    try simp only [Act.put, List.getElem_toArray, List.getElem_cons_succ, List.getElem_cons_zero, List.setIfInBounds_toArray, List.set_cons_zero, List.set_cons_succ]
    exact lst (L4_.out wn hS) (by kernel_rfl)
   ·simp only [List.getElem_toArray, List.getElem_cons_succ, List.getElem_cons_zero]
    go_simp
    try go_wp2_with fail
    refine hK.out _ _ (mkS.out _ (ba bc _)) (fun hS => ?_)
    clear hK K
    exact lst (L3_0.out _ _ hS (Cel.new w' _ _) bc.size) (by kernel_rfl)
  have L2_0 : Hid (∀ (g0 : Nat) (w' : World) (hS : SP w') (k0 : Cel w' g0 [.bool false, .string { data := #[] }, .string { data := #[] }, .bool false, .string { data := #[] }, .string { data := #[] }, .bool false, .string { data := #[] }, .string { data := #[] }, .bool false, .string { data := #[] }, .string { data := #[] }, .bool false, .string { data := #[] }, .string { data := #[] }, .bool false, .string { data := #[] }, .string { data := #[] }, .bool false, .string { data := #[] }, .string { data := #[] }, .bool false, .string { data := #[] }, .string { data := #[] }] 30) (h0 : w15.heap.size ≤ g0), wpAnyH Tryz.prog .any ops q SP 4 (ls 23 [0, 1, 2, 3, 4, 5, 6, 7, 8, 9, 10, 11, 12, 13, 15, 16, 17, 18, 21]) (fr (.pointer (some ⟨g0, 0, none⟩)) (.agg #[.bool n20, .string s20, .string d20, .bool n21, .string s21, .string d21]) (.agg #[.bool n22, .string s22, .string d22, .bool n23, .string s23, .string d23]) undef undef undef) w') := by
   clear L4_0 L4_ L3_
   subst hops hq hSP hfr
   intro g0 w' hS k0 h0
   have bc := bcS.out _ hS
   dsimp only
   refine rdy [14] (by kernel_rfl) ?_
   refine AllReadyH.cons (o := _) rfl (fun K hK => ?_) AllReadyH.nil
   ·simp only [List.getElem_toArray, List.getElem_cons_succ, List.getElem_cons_zero]
    go_simp
    go_fit (M2.out _)
    rintro e wn ⟨rfl, bn⟩
    have bcn := Below.after bc bn
    try go_wp2_with fail
    refine hK.out _ _ (mkS.out _ bcn) (fun hS => ?_)
    clear hK K
    exact lst (L3_0.out g0 wn hS (k0.below bn) h0) (by kernel_rfl)
  have L2_ : Hid (∀ (w' : World) (hS : SP w'), wpAnyH Tryz.prog .any ops q SP 5 (ls 23 [0, 1, 2, 3, 4, 5, 6, 7, 8, 9, 10, 11, 12, 13, 15, 16, 17, 18]) (fr undef (.agg #[.bool n20, .string s20, .string d20, .bool n21, .string s21, .string d21]) (.agg #[.bool n22, .string s22, .string d22, .bool n23, .string s23, .string d23]) undef undef undef) w') := by
   clear L4_0 L4_ L3_0
   subst hops hq hSP hfr
   intro w' hS
   have bc := bcS.out _ hS
   dsimp only
   refine rdy [14, 21] (by kernel_rfl) ?_
   refine AllReadyH.cons (o := _) rfl (fun K hK => ?_) (AllReadyH.cons (o := _) rfl (fun K hK => ?_) AllReadyH.nil)
   ·simp only [List.getElem_toArray, List.getElem_cons_succ, List.getElem_cons_zero]
    go_simp
    go_fit (M2.out _)
    rintro e wn ⟨rfl, bn⟩
    have bcn := Below.after bc bn
    try go_wp2_with fail
    refine hK.out _ _ (mkS.out _ bcn) (fun hS => ?_)
    clear hK K
    exact lst (L3_.out wn hS) (by kernel_rfl)
   ·simp only [List.getElem_toArray, List.getElem_cons_succ, List.getElem_cons_zero]
    go_simp
    try go_wp2_with fail
    refine hK.out _ _ (mkS.out _ (ba bc _)) (fun hS => ?_)
    clear hK K
    exact lst (L2_0.out _ _ hS (Cel.new w' _ _) bc.size) (by kernel_rfl)
  have L1_0 : Hid (∀ (g0 : Nat) (w' : World) (hS : SP w') (k0 : Cel w' g0 [.bool false, .string { data := #[] }, .string { data := #[] }, .bool false, .string { data := #[] }, .string { data := #[] }, .bool false, .string { data := #[] }, .string { data := #[] }, .bool false, .string { data := #[] }, .string { data := #[] }, .bool false, .string { data := #[] }, .string { data := #[] }, .bool false, .string { data := #[] }, .string { data := #[] }, .bool false, .string { data := #[] }, .string { data := #[] }, .bool false, .string { data := #[] }, .string { data := #[] }] 30) (h0 : w15.heap.size ≤ g0), wpAnyH Tryz.prog .any ops q SP 5 (ls 23 [0, 1, 2, 3, 4, 5, 6, 7, 8, 10, 11, 12, 13, 15, 16, 17, 18, 21]) (fr (.pointer (some ⟨g0, 0, none⟩)) (.agg #[.bool n20, .string s20, .string d20, .bool n21, .string s21, .string d21]) undef undef undef undef) w') := by
   clear L4_0 L4_ L3_0 L3_ L2_
   subst hops hq hSP hfr
   intro g0 w' hS k0 h0
   have bc := bcS.out _ hS
   dsimp only
   refine rdy [9] (by kernel_rfl) ?_
   refine AllReadyH.cons (o := _) rfl (fun K hK => ?_) AllReadyH.nil
   ·simp only [List.getElem_toArray, List.getElem_cons_succ, List.getElem_cons_zero]
    go_simp
    go_fit (M1.out _)
    rintro e wn ⟨rfl, bn⟩
    have bcn := Below.after bc bn
    try go_wp2_with fail
    refine hK.out _ _ (mkS.out _ bcn) (fun hS => ?_)
    clear hK K
    exact lst (L2_0.out g0 wn hS (k0.below bn) h0) (by kernel_rfl)
  have L1_ : Hid (∀ (w' : World) (hS : SP w'), wpAnyH Tryz.prog .any ops q SP 6 (ls 23 [0, 1, 2, 3, 4, 5, 6, 7, 8, 10, 11, 12, 13, 15, 16, 17, 18]) (fr undef (.agg #[.bool n20, .string s20, .string d20, .bool n21, .string s21, .string d21]) undef undef undef undef) w') := by
   clear L4_0 L4_ L3_0 L3_ L2_0
   subst hops hq hSP hfr
   intro w' hS
   have bc := bcS.out _ hS
   dsimp only
   refine rdy [9, 21] (by kernel_rfl) ?_
   refine AllReadyH.cons (o := _) rfl (fun K hK => ?_) (AllReadyH.cons (o := _) rfl (fun K hK => ?_) AllReadyH.nil)
   ·simp only [List.getElem_toArray, List.getElem_cons_succ, List.getElem_cons_zero]
    go_simp
    go_fit (M1.out _)
    rintro e wn ⟨rfl, bn⟩
    have bcn := Below.after bc bn
    try go_wp2_with fail
    refine hK.out _ _ (mkS.out _ bcn) (fun hS => ?_)
    clear hK K
    exact lst (L2_.out wn hS) (by kernel_rfl)
   ·simp only [List.getElem_toArray, List.getElem_cons_succ, List.getElem_cons_zero]
    go_simp
    try go_wp2_with fail
    refine hK.out _ _ (mkS.out _ (ba bc _)) (fun hS => ?_)
    clear hK K
    exact lst (L1_0.out _ _ hS (Cel.new w' _ _) bc.size) (by kernel_rfl)
  have L0_0 : Hid (∀ (g0 : Nat) (w' : World) (hS : SP w') (k0 : Cel w' g0 [.bool false, .string { data := #[] }, .string { data := #[] }, .bool false, .string { data := #[] }, .string { data := #[] }, .bool false, .string { data := #[] }, .string { data := #[] }, .bool false, .string { data := #[] }, .string { data := #[] }, .bool false, .string { data := #[] }, .string { data := #[] }, .bool false, .string { data := #[] }, .string { data := #[] }, .bool false, .string { data := #[] }, .string { data := #[] }, .bool false, .string { data := #[] }, .string { data := #[] }] 30) (h0 : w15.heap.size ≤ g0), wpAnyH Tryz.prog .any ops q SP 6 (ls 23 [0, 1, 2, 3, 5, 6, 7, 8, 10, 11, 12, 13, 15, 16, 17, 18, 21]) (fr (.pointer (some ⟨g0, 0, none⟩)) undef undef undef undef undef) w') := by
   clear L4_0 L4_ L3_0 L3_ L2_0 L2_ L1_
   subst hops hq hSP hfr
   intro g0 w' hS k0 h0
   have bc := bcS.out _ hS
   dsimp only
   refine rdy [4] (by kernel_rfl) ?_
   refine AllReadyH.cons (o := _) rfl (fun K hK => ?_) AllReadyH.nil
   ·simp only [List.getElem_toArray, List.getElem_cons_succ, List.getElem_cons_zero]
    go_simp
    go_fit (M0.out _)
    rintro e wn ⟨rfl, bn⟩
    have bcn := Below.after bc bn
    try go_wp2_with fail
    refine hK.out _ _ (mkS.out _ bcn) (fun hS => ?_)
    clear hK K
    exact lst (L1_0.out g0 wn hS (k0.below bn) h0) (by kernel_rfl)
  have L0_ : Hid (∀ (w' : World) (hS : SP w'), wpAnyH Tryz.prog .any ops q SP 7 (ls 23 [0, 1, 2, 3, 5, 6, 7, 8, 10, 11, 12, 13, 15, 16, 17, 18]) (fr undef undef undef undef undef undef) w') := by
   clear L4_0 L4_ L3_0 L3_ L2_0 L2_ L1_0
   subst hops hq hSP hfr
   intro w' hS
   have bc := bcS.out _ hS
   dsimp only
   refine rdy [4, 21] (by kernel_rfl) ?_
   refine AllReadyH.cons (o := _) rfl (fun K hK => ?_) (AllReadyH.cons (o := _) rfl (fun K hK => ?_) AllReadyH.nil)
   ·simp only [List.getElem_toArray, List.getElem_cons_succ, List.getElem_cons_zero]
    go_simp
    go_fit (M0.out _)
    rintro e wn ⟨rfl, bn⟩
    have bcn := Below.after bc bn
    try go_wp2_with fail
    refine hK.out _ _ (mkS.out _ bcn) (fun hS => ?_)
    clear hK K
    exact lst (L1_.out wn hS) (by kernel_rfl)
   ·simp only [List.getElem_toArray, List.getElem_cons_succ, List.getElem_cons_zero]
    go_simp
    try go_wp2_with fail
    refine hK.out _ _ (mkS.out _ (ba bc _)) (fun hS => ?_)
    clear hK K
    exact lst (L0_0.out _ _ hS (Cel.new w' _ _) bc.size) (by kernel_rfl)
  clear L4_0 L4_ L3_0 L3_ L2_0 L2_ L1_0 L1_ L0_0
  subst hops hq hSP hfr
  refine wpAnyH_take (i := 0) (oi := _) (v := ?_) rfl (by kernel_rfl) (by kernel_rfl) (by kernel_rfl) (fun _ _ _ h => h) (Or.inl ⟨by rfl, ?_⟩) (by assumption) ?_
  rotate_left
  ·(intro w hSw; (try dsimp only at hSw); go_simp; try with_reducible rfl)
  try simp only [Act.put, List.getElem_toArray, List.getElem_cons_zero, List.setIfInBounds_toArray, List.set_cons_zero, List.set_cons_succ]
  refine wpAnyH_take (i := 1) (oi := _) (v := ?_) rfl (by kernel_rfl) (by kernel_rfl) (by kernel_rfl) (fun _ _ _ h => h) (Or.inl ⟨by rfl, ?_⟩) (by assumption) ?_
  rotate_left
  ·(intro w hSw; (try dsimp only at hSw); go_simp; try with_reducible rfl)
  try simp only [Act.put, List.getElem_toArray, List.getElem_cons_succ, List.getElem_cons_zero, List.setIfInBounds_toArray, List.set_cons_zero, List.set_cons_succ]
  refine wpAnyH_take (i := 2) (oi := _) (v := ?_) rfl (by kernel_rfl) (by kernel_rfl) (by kernel_rfl) (fun _ _ _ h => h) (Or.inl ⟨by rfl, ?_⟩) (by assumption) ?_
  rotate_left
  ·(intro w hSw; (try dsimp only at hSw); go_simp; try with_reducible rfl)
  try simp only [Act.put, List.getElem_toArray, List.getElem_cons_succ, List.getElem_cons_zero, List.setIfInBounds_toArray, List.set_cons_zero, List.set_cons_succ]
  refine wpAnyH_take (i := 3) (oi := _) (v := ?_) rfl (by kernel_rfl) (by kernel_rfl) (by kernel_rfl) (fun _ _ _ h => h) (Or.inl ⟨by rfl, ?_⟩) (by assumption) ?_
  rotate_left
  ·(intro w hSw; (try dsimp only at hSw); go_simp; try with_reducible rfl)
  try simp only [Act.put, List.getElem_toArray, List.getElem_cons_succ, List.getElem_cons_zero, List.setIfInBounds_toArray, List.set_cons_zero, List.set_cons_succ]
  refine wpAnyH_take (i := 5) (oi := _) (v := ?_) rfl (by kernel_rfl) (by kernel_rfl) (by kernel_rfl) (fun _ _ _ h => h) (Or.inl ⟨by rfl, ?_⟩) (by assumption) ?_
  rotate_left
  ·(intro w hSw; (try dsimp only at hSw); go_simp; try with_reducible rfl)
  try simp only [Act.put, List.getElem_toArray, List.getElem_cons_succ, List.getElem_cons_zero, List.setIfInBounds_toArray, List.set_cons_zero, List.set_cons_succ]
  refine wpAnyH_take (i := 6) (oi := _) (v := ?_) rfl (by kernel_rfl) (by kernel_rfl) (by kernel_rfl) (fun _ _ _ h => h) (Or.inl ⟨by rfl, ?_⟩) (by assumption) ?_
  rotate_left
  ·(intro w hSw; (try dsimp only at hSw); go_simp; try with_reducible rfl)
  try simp only [Act.put, List.getElem_toArray, List.getElem_cons_succ, List.getElem_cons_zero, List.setIfInBounds_toArray, List.set_cons_zero, List.set_cons_succ]
  refine wpAnyH_take (i := 7) (oi := _) (v := ?_) rfl (by kernel_rfl) (by kernel_rfl) (by kernel_rfl) (fun _ _ _ h => h) (Or.inl ⟨by rfl, ?_⟩) (by assumption) ?_
  rotate_left
  ·(intro w hSw; (try dsimp only at hSw); go_simp; try with_reducible rfl)
  try simp only [Act.put, List.getElem_toArray, List.getElem_cons_succ, List.getElem_cons_zero, List.setIfInBounds_toArray, List.set_cons_zero, List.set_cons_succ]
  refine wpAnyH_take (i := 8) (oi := _) (v := ?_) rfl (by kernel_rfl) (by kernel_rfl) (by kernel_rfl) (fun _ _ _ h => h) (Or.inl ⟨by rfl, ?_⟩) (by assumption) ?_
  rotate_left
  ·(intro w hSw; (try dsimp only at hSw); go_simp; try with_reducible rfl)
  try simp only [Act.put, List.getElem_toArray, List.getElem_cons_succ, List.getElem_cons_zero, List.setIfInBounds_toArray, List.set_cons_zero, List.set_cons_succ]
  refine wpAnyH_take (i := 10) (oi := _) (v := ?_) rfl (by kernel_rfl) (by kernel_rfl) (by kernel_rfl) (fun _ _ _ h => h) (Or.inl ⟨by rfl, ?_⟩) (by assumption) ?_
  rotate_left
  ·(intro w hSw; (try dsimp only at hSw); go_simp; try with_reducible rfl)
  try simp only [Act.put, List.getElem_toArray, List.getElem_cons_succ, List.getElem_cons_zero, List.setIfInBounds_toArray, List.set_cons_zero, List.set_cons_succ]
  refine wpAnyH_take (i := 11) (oi := _) (v := ?_) rfl (by kernel_rfl) (by kernel_rfl) (by kernel_rfl) (fun _ _ _ h => h) (Or.inl ⟨by rfl, ?_⟩) (by assumption) ?_
  rotate_left
  ·(intro w hSw; (try dsimp only at hSw); go_simp; try with_reducible rfl)
  try simp only [Act.put, List.getElem_toArray, List.getElem_cons_succ, List.getElem_cons_zero, List.setIfInBounds_toArray, List.set_cons_zero, List.set_cons_succ]
  refine wpAnyH_take (i := 12) (oi := _) (v := ?_) rfl (by kernel_rfl) (by kernel_rfl) (by kernel_rfl) (fun _ _ _ h => h) (Or.inl ⟨by rfl, ?_⟩) (by assumption) ?_
  rotate_left
  ·(intro w hSw; (try dsimp only at hSw); go_simp; try with_reducible rfl)
  try simp only [Act.put, List.getElem_toArray, List.getElem_cons_succ, List.getElem_cons_zero, List.setIfInBounds_toArray, List.set_cons_zero, List.set_cons_succ]
  refine wpAnyH_take (i := 13) (oi := _) (v := ?_) rfl (by kernel_rfl) (by kernel_rfl) (by kernel_rfl) (fun _ _ _ h => h) (Or.inl ⟨by rfl, ?_⟩) (by assumption) ?_
  rotate_left
  ·(intro w hSw; (try dsimp only at hSw); go_simp; try with_reducible rfl)
  try simp only [Act.put, List.getElem_toArray, List.getElem_cons_succ, List.getElem_cons_zero, List.setIfInBounds_toArray, List.set_cons_zero, List.set_cons_succ]
  refine wpAnyH_take (i := 15) (oi := _) (v := ?_) rfl (by kernel_rfl) (by kernel_rfl) (by kernel_rfl) (fun _ _ _ h => h) (Or.inl ⟨by rfl, ?_⟩) (by assumption) ?_
  rotate_left
  ·(intro w hSw; (try dsimp only at hSw); go_simp; try with_reducible rfl)
  try simp only [Act.put, List.getElem_toArray, List.getElem_cons_succ, List.getElem_cons_zero, List.setIfInBounds_toArray, List.set_cons_zero, List.set_cons_succ]
  refine wpAnyH_take (i := 16) (oi := _) (v := ?_) rfl (by kernel_rfl) (by kernel_rfl) (by kernel_rfl) (fun _ _ _ h => h) (Or.inl ⟨by rfl, ?_⟩) (by assumption) ?_
  rotate_left
  ·(intro w hSw; (try dsimp only at hSw); go_simp; try with_reducible rfl)
  try simp only [Act.put, List.getElem_toArray, List.getElem_cons_succ, List.getElem_cons_zero, List.setIfInBounds_toArray, List.set_cons_zero, List.set_cons_succ]
  refine wpAnyH_take (i := 17) (oi := _) (v := ?_) rfl (by kernel_rfl) (by kernel_rfl) (by kernel_rfl) (fun _ _ _ h => h) (Or.inl ⟨by rfl, ?_⟩) (by assumption) ?_
  rotate_left
  ·(intro w hSw; (try dsimp only at hSw); go_simp; try with_reducible rfl)
  try simp only [Act.put, List.getElem_toArray, List.getElem_cons_succ, List.getElem_cons_zero, List.setIfInBounds_toArray, List.set_cons_zero, List.set_cons_succ]
  refine wpAnyH_take (i := 18) (oi := _) (v := ?_) rfl (by kernel_rfl) (by kernel_rfl) (by kernel_rfl) (fun _ _ _ h => h) (Or.inl ⟨by rfl, ?_⟩) (by assumption) ?_
  rotate_left
  ·(intro w hSw; (try dsimp only at hSw); go_simp; try with_reducible rfl)
  try simp only [Act.put, List.getElem_toArray, List.getElem_cons_succ, List.getElem_cons_zero, List.setIfInBounds_toArray, List.set_cons_zero, List.set_cons_succ]
  exact lst (L0_.out _ (mkS.out _ (bdrew _))) (by kernel_rfl)
 case rest =>
 obtain ⟨gm, rfl, lm, km, b1⟩ := hcut
 clear mkS bcS
 have sz := b1.size
 replace kf := kf.below b1
 replace kp := kp.below b1
 replace kr := kr.below b1
 replace bb := Below.after bb b1
 clear b1
 have tm := km.lt
 obtain ⟨c0, c1, c2, c3, c4, c5, c6, c7, c8, c9, c10, c11, c12, c13, c14, c15, c16, c17, c18, c19, c20, c21, c22, c23⟩ := c24 kf
 have p0 := cel6_0 kp
 have p1 := cel6_1 kp
 have p2 := cel6_2 kp
 have p3 := cel6_3 kp
 have p4 := cel6_4 kp
 have p5 := cel6_5 kp
 have r0 := cel3_0 kr
 have r1 := cel3_1 kr
 have r2 := cel3_2 kr
 obtain ⟨mc0, mc1, mc2, mc3, mc4, mc5, mc6, mc7, mc8, mc9, mc10, mc11, mc12, mc13, mc14, mc15, mc16, mc17, mc18, mc19, mc20, mc21, mc22, mc23⟩ := c24 km
 go_wp2_with fail
 go_fit (O1.out _ bb)
 rintro e w31 ⟨rfl, b1⟩
 replace kf := kf.below b1
 replace kp := kp.below b1
 replace kr := kr.below b1
 replace km := km.below b1
 replace bb := Below.after bb b1
 clear b1
 clear c0 c1 c2 c3 c4 c5 c6 c7 c8 c9 c10 c11 c12 c13 c14 c15 c16 c17 c18 c19 c20 c21 c22 c23 p0 p1 p2 p3 p4 p5 r0 r1 r2 mc0 mc1 mc2 mc3 mc4 mc5 mc6 mc7 mc8 mc9 mc10 mc11 mc12 mc13 mc14 mc15 mc16 mc17 mc18 mc19 mc20 mc21 mc22 mc23
 obtain ⟨c0, c1, c2, c3, c4, c5, c6, c7, c8, c9, c10, c11, c12, c13, c14, c15, c16, c17, c18, c19, c20, c21, c22, c23⟩ := c24 kf
 have p0 := cel6_0 kp
 have p1 := cel6_1 kp
 have p2 := cel6_2 kp
 have p3 := cel6_3 kp
 have p4 := cel6_4 kp
 have p5 := cel6_5 kp
 have r0 := cel3_0 kr
 have r1 := cel3_1 kr
 have r2 := cel3_2 kr
 obtain ⟨mc0, mc1, mc2, mc3, mc4, mc5, mc6, mc7, mc8, mc9, mc10, mc11, mc12, mc13, mc14, mc15, mc16, mc17, mc18, mc19, mc20, mc21, mc22, mc23⟩ := c24 km
 go_wp2_with fail
 go_fit (O2.out _ bb)
 rintro e w32 ⟨rfl, b1⟩
 replace kf := kf.below b1
 replace kp := kp.below b1
 replace kr := kr.below b1
 replace km := km.below b1
 replace bb := Below.after bb b1
 clear b1
 clear c0 c1 c2 c3 c4 c5 c6 c7 c8 c9 c10 c11 c12 c13 c14 c15 c16 c17 c18 c19 c20 c21 c22 c23 p0 p1 p2 p3 p4 p5 r0 r1 r2 mc0 mc1 mc2 mc3 mc4 mc5 mc6 mc7 mc8 mc9 mc10 mc11 mc12 mc13 mc14 mc15 mc16 mc17 mc18 mc19 mc20 mc21 mc22 mc23
 obtain ⟨c0, c1, c2, c3, c4, c5, c6, c7, c8, c9, c10, c11, c12, c13, c14, c15, c16, c17, c18, c19, c20, c21, c22, c23⟩ := c24 kf
 have p0 := cel6_0 kp
 have p1 := cel6_1 kp
 have p2 := cel6_2 kp
 have p3 := cel6_3 kp
 have p4 := cel6_4 kp
 have p5 := cel6_5 kp
 have r0 := cel3_0 kr
 have r1 := cel3_1 kr
 have r2 := cel3_2 kr
 obtain ⟨mc0, mc1, mc2, mc3, mc4, mc5, mc6, mc7, mc8, mc9, mc10, mc11, mc12, mc13, mc14, mc15, mc16, mc17, mc18, mc19, mc20, mc21, mc22, mc23⟩ := c24 km
 go_wp2_with fail
 go_fit (C1.out _ bb)
 rintro e w33 ⟨rfl, b1⟩
 replace kf := kf.below b1
 replace kp := kp.below b1
 replace kr := kr.below b1
 replace km := km.below b1
 replace bb := Below.after bb b1
 clear b1
 clear c0 c1 c2 c3 c4 c5 c6 c7 c8 c9 c10 c11 c12 c13 c14 c15 c16 c17 c18 c19 c20 c21 c22 c23 p0 p1 p2 p3 p4 p5 r0 r1 r2 mc0 mc1 mc2 mc3 mc4 mc5 mc6 mc7 mc8 mc9 mc10 mc11 mc12 mc13 mc14 mc15 mc16 mc17 mc18 mc19 mc20 mc21 mc22 mc23
 obtain ⟨c0, c1, c2, c3, c4, c5, c6, c7, c8, c9, c10, c11, c12, c13, c14, c15, c16, c17, c18, c19, c20, c21, c22, c23⟩ := c24 kf
 have p0 := cel6_0 kp
 have p1 := cel6_1 kp
 have p2 := cel6_2 kp
 have p3 := cel6_3 kp
 have p4 := cel6_4 kp
 have p5 := cel6_5 kp
 have r0 := cel3_0 kr
 have r1 := cel3_1 kr
 have r2 := cel3_2 kr
 obtain ⟨mc0, mc1, mc2, mc3, mc4, mc5, mc6, mc7, mc8, mc9, mc10, mc11, mc12, mc13, mc14, mc15, mc16, mc17, mc18, mc19, mc20, mc21, mc22, mc23⟩ := c24 km
 go_wp2_with fail
 go_fit (C2.out _ bb)
 rintro e w34 ⟨rfl, b1⟩
 replace kf := kf.below b1
 replace kp := kp.below b1
 replace kr := kr.below b1
 replace km := km.below b1
 replace bb := Below.after bb b1
 clear b1
 clear c0 c1 c2 c3 c4 c5 c6 c7 c8 c9 c10 c11 c12 c13 c14 c15 c16 c17 c18 c19 c20 c21 c22 c23 p0 p1 p2 p3 p4 p5 r0 r1 r2 mc0 mc1 mc2 mc3 mc4 mc5 mc6 mc7 mc8 mc9 mc10 mc11 mc12 mc13 mc14 mc15 mc16 mc17 mc18 mc19 mc20 mc21 mc22 mc23
 obtain ⟨c0, c1, c2, c3, c4, c5, c6, c7, c8, c9, c10, c11, c12, c13, c14, c15, c16, c17, c18, c19, c20, c21, c22, c23⟩ := c24 kf
 have p0 := cel6_0 kp
 have p1 := cel6_1 kp
 have p2 := cel6_2 kp
 have p3 := cel6_3 kp
 have p4 := cel6_4 kp
 have p5 := cel6_5 kp
 have r0 := cel3_0 kr
 have r1 := cel3_1 kr
 have r2 := cel3_2 kr
 obtain ⟨mc0, mc1, mc2, mc3, mc4, mc5, mc6, mc7, mc8, mc9, mc10, mc11, mc12, mc13, mc14, mc15, mc16, mc17, mc18, mc19, mc20, mc21, mc22, mc23⟩ := c24 km
 go_wp2_with fail
 go_fit (T1.out _ bb)
 rintro e w35 ⟨rfl, b1⟩
 replace kf := kf.below b1
 replace kp := kp.below b1
 replace kr := kr.below b1
 replace km := km.below b1
 replace bb := Below.after bb b1
 clear b1
 clear c0 c1 c2 c3 c4 c5 c6 c7 c8 c9 c10 c11 c12 c13 c14 c15 c16 c17 c18 c19 c20 c21 c22 c23 p0 p1 p2 p3 p4 p5 r0 r1 r2 mc0 mc1 mc2 mc3 mc4 mc5 mc6 mc7 mc8 mc9 mc10 mc11 mc12 mc13 mc14 mc15 mc16 mc17 mc18 mc19 mc20 mc21 mc22 mc23
 obtain ⟨c0, c1, c2, c3, c4, c5, c6, c7, c8, c9, c10, c11, c12, c13, c14, c15, c16, c17, c18, c19, c20, c21, c22, c23⟩ := c24 kf
 have p0 := cel6_0 kp
 have p1 := cel6_1 kp
 have p2 := cel6_2 kp
 have p3 := cel6_3 kp
 have p4 := cel6_4 kp
 have p5 := cel6_5 kp
 have r0 := cel3_0 kr
 have r1 := cel3_1 kr
 have r2 := cel3_2 kr
 obtain ⟨mc0, mc1, mc2, mc3, mc4, mc5, mc6, mc7, mc8, mc9, mc10, mc11, mc12, mc13, mc14, mc15, mc16, mc17, mc18, mc19, mc20, mc21, mc22, mc23⟩ := c24 km
 go_wp2_with fail
 go_fit (T2.out _ bb)
 rintro e w36 ⟨rfl, b1⟩
 replace kf := kf.below b1
 replace kp := kp.below b1
 replace kr := kr.below b1
 replace km := km.below b1
 replace bb := Below.after bb b1
 clear b1
 clear c0 c1 c2 c3 c4 c5 c6 c7 c8 c9 c10 c11 c12 c13 c14 c15 c16 c17 c18 c19 c20 c21 c22 c23 p0 p1 p2 p3 p4 p5 r0 r1 r2 mc0 mc1 mc2 mc3 mc4 mc5 mc6 mc7 mc8 mc9 mc10 mc11 mc12 mc13 mc14 mc15 mc16 mc17 mc18 mc19 mc20 mc21 mc22 mc23
 go_wp2_with fail
 go_fit (HL.out _ bb)
 rintro e w37 ⟨rfl, b1⟩
 replace kf := kf.below b1
 replace kp := kp.below b1
 replace kr := kr.below b1
 replace km := km.below b1
 replace bb := Below.after bb b1
 clear b1
 go_wp2
 go_ret
 exact ⟨rfl, bb⟩
end Go.Proofs.YtafikdacdfkkhaaGreatDoor
