/-
  gussetlaw05: GeomMoved, walked.
-/
import Derived.Test.YtafikdacdfkkhaaGreatDoorG40
namespace Go.Proofs.YtafikdacdfkkhaaGreatDoor
open Go.RowKit

set_option maxRecDepth 100000 in
set_option maxHeartbeats 32000000 in
theorem moved5_l (n0 n1 n2 n3 n4 n5 n6 n7 n8 n9 n10 : Bool) (s0 d0 s1 d1 s2 d2 s3 d3 s4 d4 s5 d5 s6 d6 s7 d7 s8 d8 s9 d9 s10 d10 : ByteArray) (B0 B1 B2 B3 B4 B5 B6 B7 B8 B9 B10 : Bool) (w : World) (hb : (B0 && B1 && B2 && B3 && B4 && B5 && B6 && B7 && B8 && B9 && B10) = false)
  (HL : Hid (∀ w1, Below w.heap.size w w1 → Calls Tryz.prog 10 #[] w1 fun e w' => e = .returned (.bool true) ∧ Below w1.heap.size w1 w'))
  (S0 : Hid (∀ w1, Calls Tryz.prog 16 #[.agg #[.bool n0, .string s0, .string d0]] w1 fun e w' => e = .returned (.bool B0) ∧ Below w1.heap.size w1 w'))
  (S1 : Hid (∀ w1, Calls Tryz.prog 16 #[.agg #[.bool n1, .string s1, .string d1]] w1 fun e w' => e = .returned (.bool B1) ∧ Below w1.heap.size w1 w'))
  (S2 : Hid (∀ w1, Calls Tryz.prog 16 #[.agg #[.bool n2, .string s2, .string d2]] w1 fun e w' => e = .returned (.bool B2) ∧ Below w1.heap.size w1 w'))
  (S3 : Hid (∀ w1, Calls Tryz.prog 16 #[.agg #[.bool n3, .string s3, .string d3]] w1 fun e w' => e = .returned (.bool B3) ∧ Below w1.heap.size w1 w'))
  (S4 : Hid (∀ w1, Calls Tryz.prog 16 #[.agg #[.bool n4, .string s4, .string d4]] w1 fun e w' => e = .returned (.bool B4) ∧ Below w1.heap.size w1 w'))
  (S5 : Hid (∀ w1, Calls Tryz.prog 16 #[.agg #[.bool n5, .string s5, .string d5]] w1 fun e w' => e = .returned (.bool B5) ∧ Below w1.heap.size w1 w'))
  (S6 : Hid (∀ w1, Calls Tryz.prog 16 #[.agg #[.bool n6, .string s6, .string d6]] w1 fun e w' => e = .returned (.bool B6) ∧ Below w1.heap.size w1 w'))
  (S7 : Hid (∀ w1, Calls Tryz.prog 16 #[.agg #[.bool n7, .string s7, .string d7]] w1 fun e w' => e = .returned (.bool B7) ∧ Below w1.heap.size w1 w'))
  (S8 : Hid (∀ w1, Calls Tryz.prog 16 #[.agg #[.bool n8, .string s8, .string d8]] w1 fun e w' => e = .returned (.bool B8) ∧ Below w1.heap.size w1 w'))
  (S9 : Hid (∀ w1, Calls Tryz.prog 16 #[.agg #[.bool n9, .string s9, .string d9]] w1 fun e w' => e = .returned (.bool B9) ∧ Below w1.heap.size w1 w'))
  (S10 : Hid (∀ w1, Calls Tryz.prog 16 #[.agg #[.bool n10, .string s10, .string d10]] w1 fun e w' => e = .returned (.bool B10) ∧ Below w1.heap.size w1 w')) :
  Calls Tryz.prog 4 #[.agg #[.bool n0, .string s0, .string d0, .bool n1, .string s1, .string d1, .bool n2, .string s2, .string d2, .bool n3, .string s3, .string d3, .bool n4, .string s4, .string d4, .bool n5, .string s5, .string d5, .bool n6, .string s6, .string d6, .bool n7, .string s7, .string d7], .agg #[.bool n8, .string s8, .string d8, .bool n9, .string s9, .string d9], .agg #[.bool n10, .string s10, .string d10]] w fun e w' => e = .returned (.bool true) ∧ Below w.heap.size w w' := by
 go_enter Tryz.func4, Tryz.ntmps4
 go_wp2_with fail
 go_fit (S0.out _)
 rintro e w1 ⟨rfl, b1⟩
 obtain ⟨kf, kp, kr, bb⟩ := al3 b1
 clear b1
 cases B0 with
 | false =>
  go_wp2_with fail
  go_fit (HL.out _ bb)
  rintro e wl ⟨rfl, b1⟩
  replace bb := Below.after bb b1
  go_wp2
  go_ret
  exact ⟨rfl, bb⟩
 | true =>
 obtain ⟨c0, c1, c2, c3, c4, c5, c6, c7, c8, c9, c10, c11, c12, c13, c14, c15, c16, c17, c18, c19, c20, c21, c22, c23⟩ := c24 kf
 have p0 := cel6_0 kp
 have p1 := cel6_1 kp
 have p2 := cel6_2 kp
 have p3 := cel6_3 kp
 have p4 := cel6_4 kp
 have p5 := cel6_5 kp
 have r0 := cel3_0 kr
 have r1 := cel3_1 kr
 have r2 := cel3_2 kr
 go_wp2_with fail
 go_fit (S1.out _)
 rintro e w2 ⟨rfl, b1⟩
 replace kf := kf.below b1
 replace kp := kp.below b1
 replace kr := kr.below b1
 replace bb := Below.after bb b1
 clear b1
 clear c0 c1 c2 c3 c4 c5 c6 c7 c8 c9 c10 c11 c12 c13 c14 c15 c16 c17 c18 c19 c20 c21 c22 c23 p0 p1 p2 p3 p4 p5 r0 r1 r2
 cases B1 with
 | false =>
  go_wp2_with fail
  go_fit (HL.out _ bb)
  rintro e wl ⟨rfl, b1⟩
  replace bb := Below.after bb b1
  go_wp2
  go_ret
  exact ⟨rfl, bb⟩
 | true =>
 obtain ⟨c0, c1, c2, c3, c4, c5, c6, c7, c8, c9, c10, c11, c12, c13, c14, c15, c16, c17, c18, c19, c20, c21, c22, c23⟩ := c24 kf
 have p0 := cel6_0 kp
 have p1 := cel6_1 kp
 have p2 := cel6_2 kp
 have p3 := cel6_3 kp
 have p4 := cel6_4 kp
 have p5 := cel6_5 kp
 have r0 := cel3_0 kr
 have r1 := cel3_1 kr
 have r2 := cel3_2 kr
 go_wp2_with fail
 go_fit (S2.out _)
 rintro e w3 ⟨rfl, b1⟩
 replace kf := kf.below b1
 replace kp := kp.below b1
 replace kr := kr.below b1
 replace bb := Below.after bb b1
 clear b1
 clear c0 c1 c2 c3 c4 c5 c6 c7 c8 c9 c10 c11 c12 c13 c14 c15 c16 c17 c18 c19 c20 c21 c22 c23 p0 p1 p2 p3 p4 p5 r0 r1 r2
 cases B2 with
 | false =>
  go_wp2_with fail
  go_fit (HL.out _ bb)
  rintro e wl ⟨rfl, b1⟩
  replace bb := Below.after bb b1
  go_wp2
  go_ret
  exact ⟨rfl, bb⟩
 | true =>
 obtain ⟨c0, c1, c2, c3, c4, c5, c6, c7, c8, c9, c10, c11, c12, c13, c14, c15, c16, c17, c18, c19, c20, c21, c22, c23⟩ := c24 kf
 have p0 := cel6_0 kp
 have p1 := cel6_1 kp
 have p2 := cel6_2 kp
 have p3 := cel6_3 kp
 have p4 := cel6_4 kp
 have p5 := cel6_5 kp
 have r0 := cel3_0 kr
 have r1 := cel3_1 kr
 have r2 := cel3_2 kr
 go_wp2_with fail
 go_fit (S3.out _)
 rintro e w4 ⟨rfl, b1⟩
 replace kf := kf.below b1
 replace kp := kp.below b1
 replace kr := kr.below b1
 replace bb := Below.after bb b1
 clear b1
 clear c0 c1 c2 c3 c4 c5 c6 c7 c8 c9 c10 c11 c12 c13 c14 c15 c16 c17 c18 c19 c20 c21 c22 c23 p0 p1 p2 p3 p4 p5 r0 r1 r2
 cases B3 with
 | false =>
  go_wp2_with fail
  go_fit (HL.out _ bb)
  rintro e wl ⟨rfl, b1⟩
  replace bb := Below.after bb b1
  go_wp2
  go_ret
  exact ⟨rfl, bb⟩
 | true =>
 obtain ⟨c0, c1, c2, c3, c4, c5, c6, c7, c8, c9, c10, c11, c12, c13, c14, c15, c16, c17, c18, c19, c20, c21, c22, c23⟩ := c24 kf
 have p0 := cel6_0 kp
 have p1 := cel6_1 kp
 have p2 := cel6_2 kp
 have p3 := cel6_3 kp
 have p4 := cel6_4 kp
 have p5 := cel6_5 kp
 have r0 := cel3_0 kr
 have r1 := cel3_1 kr
 have r2 := cel3_2 kr
 go_wp2_with fail
 go_fit (S4.out _)
 rintro e w5 ⟨rfl, b1⟩
 replace kf := kf.below b1
 replace kp := kp.below b1
 replace kr := kr.below b1
 replace bb := Below.after bb b1
 clear b1
 clear c0 c1 c2 c3 c4 c5 c6 c7 c8 c9 c10 c11 c12 c13 c14 c15 c16 c17 c18 c19 c20 c21 c22 c23 p0 p1 p2 p3 p4 p5 r0 r1 r2
 cases B4 with
 | false =>
  go_wp2_with fail
  go_fit (HL.out _ bb)
  rintro e wl ⟨rfl, b1⟩
  replace bb := Below.after bb b1
  go_wp2
  go_ret
  exact ⟨rfl, bb⟩
 | true =>
 obtain ⟨c0, c1, c2, c3, c4, c5, c6, c7, c8, c9, c10, c11, c12, c13, c14, c15, c16, c17, c18, c19, c20, c21, c22, c23⟩ := c24 kf
 have p0 := cel6_0 kp
 have p1 := cel6_1 kp
 have p2 := cel6_2 kp
 have p3 := cel6_3 kp
 have p4 := cel6_4 kp
 have p5 := cel6_5 kp
 have r0 := cel3_0 kr
 have r1 := cel3_1 kr
 have r2 := cel3_2 kr
 go_wp2_with fail
 go_fit (S5.out _)
 rintro e w6 ⟨rfl, b1⟩
 replace kf := kf.below b1
 replace kp := kp.below b1
 replace kr := kr.below b1
 replace bb := Below.after bb b1
 clear b1
 clear c0 c1 c2 c3 c4 c5 c6 c7 c8 c9 c10 c11 c12 c13 c14 c15 c16 c17 c18 c19 c20 c21 c22 c23 p0 p1 p2 p3 p4 p5 r0 r1 r2
 cases B5 with
 | false =>
  go_wp2_with fail
  go_fit (HL.out _ bb)
  rintro e wl ⟨rfl, b1⟩
  replace bb := Below.after bb b1
  go_wp2
  go_ret
  exact ⟨rfl, bb⟩
 | true =>
 obtain ⟨c0, c1, c2, c3, c4, c5, c6, c7, c8, c9, c10, c11, c12, c13, c14, c15, c16, c17, c18, c19, c20, c21, c22, c23⟩ := c24 kf
 have p0 := cel6_0 kp
 have p1 := cel6_1 kp
 have p2 := cel6_2 kp
 have p3 := cel6_3 kp
 have p4 := cel6_4 kp
 have p5 := cel6_5 kp
 have r0 := cel3_0 kr
 have r1 := cel3_1 kr
 have r2 := cel3_2 kr
 go_wp2_with fail
 go_fit (S6.out _)
 rintro e w7 ⟨rfl, b1⟩
 replace kf := kf.below b1
 replace kp := kp.below b1
 replace kr := kr.below b1
 replace bb := Below.after bb b1
 clear b1
 clear c0 c1 c2 c3 c4 c5 c6 c7 c8 c9 c10 c11 c12 c13 c14 c15 c16 c17 c18 c19 c20 c21 c22 c23 p0 p1 p2 p3 p4 p5 r0 r1 r2
 cases B6 with
 | false =>
  go_wp2_with fail
  go_fit (HL.out _ bb)
  rintro e wl ⟨rfl, b1⟩
  replace bb := Below.after bb b1
  go_wp2
  go_ret
  exact ⟨rfl, bb⟩
 | true =>
 obtain ⟨c0, c1, c2, c3, c4, c5, c6, c7, c8, c9, c10, c11, c12, c13, c14, c15, c16, c17, c18, c19, c20, c21, c22, c23⟩ := c24 kf
 have p0 := cel6_0 kp
 have p1 := cel6_1 kp
 have p2 := cel6_2 kp
 have p3 := cel6_3 kp
 have p4 := cel6_4 kp
 have p5 := cel6_5 kp
 have r0 := cel3_0 kr
 have r1 := cel3_1 kr
 have r2 := cel3_2 kr
 go_wp2_with fail
 go_fit (S7.out _)
 rintro e w8 ⟨rfl, b1⟩
 replace kf := kf.below b1
 replace kp := kp.below b1
 replace kr := kr.below b1
 replace bb := Below.after bb b1
 clear b1
 clear c0 c1 c2 c3 c4 c5 c6 c7 c8 c9 c10 c11 c12 c13 c14 c15 c16 c17 c18 c19 c20 c21 c22 c23 p0 p1 p2 p3 p4 p5 r0 r1 r2
 cases B7 with
 | false =>
  go_wp2_with fail
  go_fit (HL.out _ bb)
  rintro e wl ⟨rfl, b1⟩
  replace bb := Below.after bb b1
  go_wp2
  go_ret
  exact ⟨rfl, bb⟩
 | true =>
 obtain ⟨c0, c1, c2, c3, c4, c5, c6, c7, c8, c9, c10, c11, c12, c13, c14, c15, c16, c17, c18, c19, c20, c21, c22, c23⟩ := c24 kf
 have p0 := cel6_0 kp
 have p1 := cel6_1 kp
 have p2 := cel6_2 kp
 have p3 := cel6_3 kp
 have p4 := cel6_4 kp
 have p5 := cel6_5 kp
 have r0 := cel3_0 kr
 have r1 := cel3_1 kr
 have r2 := cel3_2 kr
 go_wp2_with fail
 go_fit (S8.out _)
 rintro e w9 ⟨rfl, b1⟩
 replace kf := kf.below b1
 replace kp := kp.below b1
 replace kr := kr.below b1
 replace bb := Below.after bb b1
 clear b1
 clear c0 c1 c2 c3 c4 c5 c6 c7 c8 c9 c10 c11 c12 c13 c14 c15 c16 c17 c18 c19 c20 c21 c22 c23 p0 p1 p2 p3 p4 p5 r0 r1 r2
 cases B8 with
 | false =>
  go_wp2_with fail
  go_fit (HL.out _ bb)
  rintro e wl ⟨rfl, b1⟩
  replace bb := Below.after bb b1
  go_wp2
  go_ret
  exact ⟨rfl, bb⟩
 | true =>
 obtain ⟨c0, c1, c2, c3, c4, c5, c6, c7, c8, c9, c10, c11, c12, c13, c14, c15, c16, c17, c18, c19, c20, c21, c22, c23⟩ := c24 kf
 have p0 := cel6_0 kp
 have p1 := cel6_1 kp
 have p2 := cel6_2 kp
 have p3 := cel6_3 kp
 have p4 := cel6_4 kp
 have p5 := cel6_5 kp
 have r0 := cel3_0 kr
 have r1 := cel3_1 kr
 have r2 := cel3_2 kr
 go_wp2_with fail
 go_fit (S9.out _)
 rintro e w10 ⟨rfl, b1⟩
 replace kf := kf.below b1
 replace kp := kp.below b1
 replace kr := kr.below b1
 replace bb := Below.after bb b1
 clear b1
 clear c0 c1 c2 c3 c4 c5 c6 c7 c8 c9 c10 c11 c12 c13 c14 c15 c16 c17 c18 c19 c20 c21 c22 c23 p0 p1 p2 p3 p4 p5 r0 r1 r2
 cases B9 with
 | false =>
  go_wp2_with fail
  go_fit (HL.out _ bb)
  rintro e wl ⟨rfl, b1⟩
  replace bb := Below.after bb b1
  go_wp2
  go_ret
  exact ⟨rfl, bb⟩
 | true =>
 obtain ⟨c0, c1, c2, c3, c4, c5, c6, c7, c8, c9, c10, c11, c12, c13, c14, c15, c16, c17, c18, c19, c20, c21, c22, c23⟩ := c24 kf
 have p0 := cel6_0 kp
 have p1 := cel6_1 kp
 have p2 := cel6_2 kp
 have p3 := cel6_3 kp
 have p4 := cel6_4 kp
 have p5 := cel6_5 kp
 have r0 := cel3_0 kr
 have r1 := cel3_1 kr
 have r2 := cel3_2 kr
 go_wp2_with fail
 go_fit (S10.out _)
 rintro e w11 ⟨rfl, b1⟩
 replace kf := kf.below b1
 replace kp := kp.below b1
 replace kr := kr.below b1
 replace bb := Below.after bb b1
 clear b1
 clear c0 c1 c2 c3 c4 c5 c6 c7 c8 c9 c10 c11 c12 c13 c14 c15 c16 c17 c18 c19 c20 c21 c22 c23 p0 p1 p2 p3 p4 p5 r0 r1 r2
 cases B10 with
 | false =>
  go_wp2_with fail
  go_fit (HL.out _ bb)
  rintro e wl ⟨rfl, b1⟩
  replace bb := Below.after bb b1
  go_wp2
  go_ret
  exact ⟨rfl, bb⟩
 | true =>
 simp at hb
end Go.Proofs.YtafikdacdfkkhaaGreatDoor
