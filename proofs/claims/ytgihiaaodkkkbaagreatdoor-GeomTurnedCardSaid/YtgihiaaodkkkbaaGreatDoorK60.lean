/-
  gussetlaw05: GeomTurned, walked.
  gussetlaw05: GeomTurned holds of any points.
-/
import Derived.Test.YtgihiaaodkkkbaaGreatDoorK56
import Derived.Test.YtgihiaaodkkkbaaGreatDoorK58
namespace Go.Proofs.YtgihiaaodkkkbaaGreatDoor
open Go.RowKit

set_option maxRecDepth 100000 in
set_option maxHeartbeats 16000000 in
theorem turned5_l (n0 n1 n2 n3 n4 n5 n6 n7 : Bool) (s0 d0 s1 d1 s2 d2 s3 d3 s4 d4 s5 d5 s6 d6 s7 d7 : ByteArray) (w : World)
  (HS : Hid (∀ w1, Calls Tryz.prog 16 #[.agg #[.bool n0, .string s0, .string d0, .bool n1, .string s1, .string d1, .bool n2, .string s2, .string d2, .bool n3, .string s3, .string d3, .bool n4, .string s4, .string d4, .bool n5, .string s5, .string d5, .bool n6, .string s6, .string d6, .bool n7, .string s7, .string d7]] w1 fun e w' => e = .returned (.bool false) ∧ Below w1.heap.size w1 w'))
  (HL : Hid (∀ w1, Below w.heap.size w w1 → Calls Tryz.prog 17 #[] w1 fun e w' => e = .returned (.bool true) ∧ Below w1.heap.size w1 w')) :
  Calls Tryz.prog 7 #[.agg #[.bool n0, .string s0, .string d0, .bool n1, .string s1, .string d1, .bool n2, .string s2, .string d2, .bool n3, .string s3, .string d3, .bool n4, .string s4, .string d4, .bool n5, .string s5, .string d5, .bool n6, .string s6, .string d6, .bool n7, .string s7, .string d7]] w fun e w' => e = .returned (.bool true) ∧ Below w.heap.size w w' := by
 go_enter Tryz.func7, Tryz.ntmps7
 go_wp2_with (first | (refine wpList_load_row rfl 41 _ rfl w.heap.size rfl 41 _ (0, 0) _ (heap_alloc_new w _) Tryz.underlying41 rfl (by kernel_rfl) ?_) | fail)
 go_wp2_with fail
 go_fit (HS.out _)
 rintro e w1 ⟨rfl, b1⟩
 obtain ⟨k, bb⟩ := al1 b1
 clear b1
 go_wp2_with fail
 go_fit (HL.out _ bb)
 rintro e w2 ⟨rfl, b1⟩
 replace k := k.below b1
 replace bb := Below.after bb b1
 clear b1
 go_wp2
 go_ret
 exact ⟨rfl, bb⟩
set_option maxRecDepth 100000 in
set_option maxHeartbeats 16000000 in
theorem turned5_bad (n0 n1 n2 n3 n4 n5 n6 n7 : Bool) (s0 d0 s1 d1 s2 d2 s3 d3 s4 d4 s5 d5 s6 d6 s7 d7 : ByteArray) (E : Int) (w : World) (hE : ¬ E = 0)
  (HS : Hid (∀ w1, Calls Tryz.prog 16 #[.agg #[.bool n0, .string s0, .string d0, .bool n1, .string s1, .string d1, .bool n2, .string s2, .string d2, .bool n3, .string s3, .string d3, .bool n4, .string s4, .string d4, .bool n5, .string s5, .string d5, .bool n6, .string s6, .string d6, .bool n7, .string s7, .string d7]] w1 fun e w' => e = .returned (.bool true) ∧ Below w1.heap.size w1 w'))
  (HL : Hid (∀ w1, Below w.heap.size w w1 → Calls Tryz.prog 17 #[] w1 fun e w' => e = .returned (.bool true) ∧ Below w1.heap.size w1 w'))
  (HA : Hid (∀ (w1 : World) (B : Nat), Below w.heap.size w w1 → Cel w1 B [.bool n0, .string s0, .string d0, .bool n1, .string s1, .string d1, .bool n2, .string s2, .string d2, .bool n3, .string s3, .string d3, .bool n4, .string s4, .string d4, .bool n5, .string s5, .string d5, .bool n6, .string s6, .string d6, .bool n7, .string s7, .string d7] 39 → Calls Tryz.prog 21 #[.slice (some ⟨B, 0, none⟩) 4 4] w1 fun e w' => e = .returned (.int .i64 (E)) ∧ Below w1.heap.size w1 w')) :
  Calls Tryz.prog 7 #[.agg #[.bool n0, .string s0, .string d0, .bool n1, .string s1, .string d1, .bool n2, .string s2, .string d2, .bool n3, .string s3, .string d3, .bool n4, .string s4, .string d4, .bool n5, .string s5, .string d5, .bool n6, .string s6, .string d6, .bool n7, .string s7, .string d7]] w fun e w' => e = .returned (.bool true) ∧ Below w.heap.size w w' := by
 go_enter Tryz.func7, Tryz.ntmps7
 go_wp2_with (first | (refine wpList_load_row rfl 41 _ rfl w.heap.size rfl 41 _ (0, 0) _ (heap_alloc_new w _) Tryz.underlying41 rfl (by kernel_rfl) ?_) | fail)
 go_wp2_with fail
 go_fit (HS.out _)
 rintro e w1 ⟨rfl, b1⟩
 obtain ⟨k, bb⟩ := al1 b1
 clear b1
 obtain ⟨c0, c1, c2, c3, c4, c5, c6, c7, c8, c9, c10, c11, c12, c13, c14, c15, c16, c17, c18, c19, c20, c21, c22, c23⟩ := c24 k
 go_wp2_with fail
 obtain ⟨w2, hw, kl, b1⟩ := mk1 w1 [.bool n0, .string s0, .string d0, .bool n1, .string s1, .string d1, .bool n2, .string s2, .string d2, .bool n3, .string s3, .string d3, .bool n4, .string s4, .string d4, .bool n5, .string s5, .string d5, .bool n6, .string s6, .string d6, .bool n7, .string s7, .string d7] 39
 rw [← hw]
 clear hw
 replace k := k.below b1
 replace bb := Below.after bb b1
 clear b1
 clear c0 c1 c2 c3 c4 c5 c6 c7 c8 c9 c10 c11 c12 c13 c14 c15 c16 c17 c18 c19 c20 c21 c22 c23
 go_fit (HA.out _ _ bb kl)
 rintro e w3 ⟨rfl, b1⟩
 replace k := k.below b1
 replace bb := Below.after bb b1
 clear b1 kl
 go_wp2_with fail
 go_fit (HL.out _ bb)
 rintro e w4 ⟨rfl, b1⟩
 replace k := k.below b1
 replace bb := Below.after bb b1
 clear b1
 go_wp2
 go_ret
 exact ⟨rfl, bb⟩
set_option maxRecDepth 100000 in
set_option maxHeartbeats 16000000 in
theorem turned5_ok (n0 n1 n2 n3 n4 n5 n6 n7 : Bool) (s0 d0 s1 d1 s2 d2 s3 d3 s4 d4 s5 d5 s6 d6 s7 d7 : ByteArray) (o q c f : Int) (w : World) (hq : IntKind.i64.wrap (-q) = o)
  (HS : Hid (∀ w1, Calls Tryz.prog 16 #[.agg #[.bool n0, .string s0, .string d0, .bool n1, .string s1, .string d1, .bool n2, .string s2, .string d2, .bool n3, .string s3, .string d3, .bool n4, .string s4, .string d4, .bool n5, .string s5, .string d5, .bool n6, .string s6, .string d6, .bool n7, .string s7, .string d7]] w1 fun e w' => e = .returned (.bool true) ∧ Below w1.heap.size w1 w'))
  (HL : Hid (∀ w1, Below w.heap.size w w1 → Calls Tryz.prog 17 #[] w1 fun e w' => e = .returned (.bool true) ∧ Below w1.heap.size w1 w'))
  (HA : Hid (∀ (w1 : World) (B : Nat), Below w.heap.size w w1 → Cel w1 B [.bool n0, .string s0, .string d0, .bool n1, .string s1, .string d1, .bool n2, .string s2, .string d2, .bool n3, .string s3, .string d3, .bool n4, .string s4, .string d4, .bool n5, .string s5, .string d5, .bool n6, .string s6, .string d6, .bool n7, .string s7, .string d7] 39 → Calls Tryz.prog 21 #[.slice (some ⟨B, 0, none⟩) 4 4] w1 fun e w' => e = .returned (.int .i64 (0)) ∧ Below w1.heap.size w1 w'))
  (O1 : Hid (∀ w1, Below w.heap.size w w1 → Calls Tryz.prog 18 #[.agg #[.bool n0, .string s0, .string d0, .bool n1, .string s1, .string d1], .agg #[.bool n2, .string s2, .string d2, .bool n3, .string s3, .string d3], .agg #[.bool n4, .string s4, .string d4, .bool n5, .string s5, .string d5]] w1 fun e w' => e = .returned (.tuple #[.int .i64 (o), .int .i64 (0)]) ∧ Below w1.heap.size w1 w'))
  (O2 : Hid (∀ w1, Below w.heap.size w w1 → Calls Tryz.prog 18 #[.agg #[.bool n2, .string s2, .string d2, .bool n3, .string s3, .string d3], .agg #[.bool n4, .string s4, .string d4, .bool n5, .string s5, .string d5], .agg #[.bool n0, .string s0, .string d0, .bool n1, .string s1, .string d1]] w1 fun e w' => e = .returned (.tuple #[.int .i64 (o), .int .i64 (0)]) ∧ Below w1.heap.size w1 w'))
  (O3 : Hid (∀ w1, Below w.heap.size w w1 → Calls Tryz.prog 18 #[.agg #[.bool n2, .string s2, .string d2, .bool n3, .string s3, .string d3], .agg #[.bool n0, .string s0, .string d0, .bool n1, .string s1, .string d1], .agg #[.bool n4, .string s4, .string d4, .bool n5, .string s5, .string d5]] w1 fun e w' => e = .returned (.tuple #[.int .i64 (q), .int .i64 (0)]) ∧ Below w1.heap.size w1 w'))
  (C1 : Hid (∀ w1, Below w.heap.size w w1 → Calls Tryz.prog 20 #[.agg #[.bool n0, .string s0, .string d0, .bool n1, .string s1, .string d1], .agg #[.bool n2, .string s2, .string d2, .bool n3, .string s3, .string d3], .agg #[.bool n4, .string s4, .string d4, .bool n5, .string s5, .string d5], .agg #[.bool n6, .string s6, .string d6, .bool n7, .string s7, .string d7]] w1 fun e w' => e = .returned (.tuple #[.int .i64 (c), .int .i64 (f)]) ∧ Below w1.heap.size w1 w'))
  (C2 : Hid (∀ w1, Below w.heap.size w w1 → Calls Tryz.prog 20 #[.agg #[.bool n4, .string s4, .string d4, .bool n5, .string s5, .string d5], .agg #[.bool n0, .string s0, .string d0, .bool n1, .string s1, .string d1], .agg #[.bool n2, .string s2, .string d2, .bool n3, .string s3, .string d3], .agg #[.bool n6, .string s6, .string d6, .bool n7, .string s7, .string d7]] w1 fun e w' => e = .returned (.tuple #[.int .i64 (c), .int .i64 (f)]) ∧ Below w1.heap.size w1 w'))
  (C3 : Hid (∀ w1, Below w.heap.size w w1 → Calls Tryz.prog 20 #[.agg #[.bool n2, .string s2, .string d2, .bool n3, .string s3, .string d3], .agg #[.bool n0, .string s0, .string d0, .bool n1, .string s1, .string d1], .agg #[.bool n4, .string s4, .string d4, .bool n5, .string s5, .string d5], .agg #[.bool n6, .string s6, .string d6, .bool n7, .string s7, .string d7]] w1 fun e w' => e = .returned (.tuple #[.int .i64 (c), .int .i64 (f)]) ∧ Below w1.heap.size w1 w')) :
  Calls Tryz.prog 7 #[.agg #[.bool n0, .string s0, .string d0, .bool n1, .string s1, .string d1, .bool n2, .string s2, .string d2, .bool n3, .string s3, .string d3, .bool n4, .string s4, .string d4, .bool n5, .string s5, .string d5, .bool n6, .string s6, .string d6, .bool n7, .string s7, .string d7]] w fun e w' => e = .returned (.bool true) ∧ Below w.heap.size w w' := by
 go_enter Tryz.func7, Tryz.ntmps7
 go_wp2_with (first | (refine wpList_load_row rfl 41 _ rfl w.heap.size rfl 41 _ (0, 0) _ (heap_alloc_new w _) Tryz.underlying41 rfl (by kernel_rfl) ?_) | fail)
 go_wp2_with fail
 go_fit (HS.out _)
 rintro e w1 ⟨rfl, b1⟩
 obtain ⟨k, bb⟩ := al1 b1
 clear b1
 obtain ⟨c0, c1, c2, c3, c4, c5, c6, c7, c8, c9, c10, c11, c12, c13, c14, c15, c16, c17, c18, c19, c20, c21, c22, c23⟩ := c24 k
 go_wp2_with fail
 obtain ⟨w2, hw, kl, b1⟩ := mk1 w1 [.bool n0, .string s0, .string d0, .bool n1, .string s1, .string d1, .bool n2, .string s2, .string d2, .bool n3, .string s3, .string d3, .bool n4, .string s4, .string d4, .bool n5, .string s5, .string d5, .bool n6, .string s6, .string d6, .bool n7, .string s7, .string d7] 39
 rw [← hw]
 clear hw
 replace k := k.below b1
 replace bb := Below.after bb b1
 clear b1
 clear c0 c1 c2 c3 c4 c5 c6 c7 c8 c9 c10 c11 c12 c13 c14 c15 c16 c17 c18 c19 c20 c21 c22 c23
 go_fit (HA.out _ _ bb kl)
 rintro e w3 ⟨rfl, b1⟩
 replace k := k.below b1
 replace bb := Below.after bb b1
 clear b1 kl
 obtain ⟨c0, c1, c2, c3, c4, c5, c6, c7, c8, c9, c10, c11, c12, c13, c14, c15, c16, c17, c18, c19, c20, c21, c22, c23⟩ := c24 k
 go_wp2_with fail
 go_fit (O1.out _ bb)
 rintro e w4 ⟨rfl, b1⟩
 replace k := k.below b1
 replace bb := Below.after bb b1
 clear b1
 clear c0 c1 c2 c3 c4 c5 c6 c7 c8 c9 c10 c11 c12 c13 c14 c15 c16 c17 c18 c19 c20 c21 c22 c23
 obtain ⟨c0, c1, c2, c3, c4, c5, c6, c7, c8, c9, c10, c11, c12, c13, c14, c15, c16, c17, c18, c19, c20, c21, c22, c23⟩ := c24 k
 go_wp2_with fail
 go_fit (O2.out _ bb)
 rintro e w5 ⟨rfl, b1⟩
 replace k := k.below b1
 replace bb := Below.after bb b1
 clear b1
 clear c0 c1 c2 c3 c4 c5 c6 c7 c8 c9 c10 c11 c12 c13 c14 c15 c16 c17 c18 c19 c20 c21 c22 c23
 obtain ⟨c0, c1, c2, c3, c4, c5, c6, c7, c8, c9, c10, c11, c12, c13, c14, c15, c16, c17, c18, c19, c20, c21, c22, c23⟩ := c24 k
 go_wp2_with fail
 go_fit (O3.out _ bb)
 rintro e w6 ⟨rfl, b1⟩
 replace k := k.below b1
 replace bb := Below.after bb b1
 clear b1
 clear c0 c1 c2 c3 c4 c5 c6 c7 c8 c9 c10 c11 c12 c13 c14 c15 c16 c17 c18 c19 c20 c21 c22 c23
 obtain ⟨c0, c1, c2, c3, c4, c5, c6, c7, c8, c9, c10, c11, c12, c13, c14, c15, c16, c17, c18, c19, c20, c21, c22, c23⟩ := c24 k
 go_wp2_with fail
 go_fit (C1.out _ bb)
 rintro e w7 ⟨rfl, b1⟩
 replace k := k.below b1
 replace bb := Below.after bb b1
 clear b1
 clear c0 c1 c2 c3 c4 c5 c6 c7 c8 c9 c10 c11 c12 c13 c14 c15 c16 c17 c18 c19 c20 c21 c22 c23
 obtain ⟨c0, c1, c2, c3, c4, c5, c6, c7, c8, c9, c10, c11, c12, c13, c14, c15, c16, c17, c18, c19, c20, c21, c22, c23⟩ := c24 k
 go_wp2_with fail
 go_fit (C2.out _ bb)
 rintro e w8 ⟨rfl, b1⟩
 replace k := k.below b1
 replace bb := Below.after bb b1
 clear b1
 clear c0 c1 c2 c3 c4 c5 c6 c7 c8 c9 c10 c11 c12 c13 c14 c15 c16 c17 c18 c19 c20 c21 c22 c23
 obtain ⟨c0, c1, c2, c3, c4, c5, c6, c7, c8, c9, c10, c11, c12, c13, c14, c15, c16, c17, c18, c19, c20, c21, c22, c23⟩ := c24 k
 go_wp2_with fail
 go_fit (C3.out _ bb)
 rintro e w9 ⟨rfl, b1⟩
 replace k := k.below b1
 replace bb := Below.after bb b1
 clear b1
 clear c0 c1 c2 c3 c4 c5 c6 c7 c8 c9 c10 c11 c12 c13 c14 c15 c16 c17 c18 c19 c20 c21 c22 c23
 go_wp2_with fail
 go_fit (HL.out _ bb)
 rintro e w10 ⟨rfl, b1⟩
 replace k := k.below b1
 replace bb := Below.after bb b1
 clear b1
 go_wp2
 go_ret
 exact ⟨rfl, bb⟩
end Go.Proofs.YtgihiaaodkkkbaaGreatDoor
namespace Go.Proofs.YtgihiaaodkkkbaaGreatDoor
open Go.RowKit

theorem turned5_law (n0 n1 n2 n3 n4 n5 n6 n7 : Bool) (s0 d0 s1 d1 s2 d2 s3 d3 s4 d4 s5 d5 s6 d6 s7 d7 : ByteArray) (w : World) (hT : Tab w) :
  Calls Tryz.prog 7 #[.agg #[.bool n0, .string s0, .string d0, .bool n1, .string s1, .string d1, .bool n2, .string s2, .string d2, .bool n3, .string s3, .string d3, .bool n4, .string s4, .string d4, .bool n5, .string s5, .string d5, .bool n6, .string s6, .string d6, .bool n7, .string s7, .string d7]] w fun e w' => e = .returned (.bool true) ∧ Below w.heap.size w w' := by
 have HL : Hid (∀ w1, Below w.heap.size w w1 → Calls Tryz.prog 17 #[] w1 fun e w' => e = .returned (.bool true) ∧ Below w1.heap.size w1 w') := fun w1 b => live5_any w1 (hT.below b)
 cases hb : (sh5 s0 d0 && (sh5 s1 d1 && (sh5 s2 d2 && (sh5 s3 d3 && (sh5 s4 d4 && (sh5 s5 d5 && (sh5 s6 d6 && sh5 s7 d7)))))))
 ·exact turned5_l n0 n1 n2 n3 n4 n5 n6 n7 s0 d0 s1 d1 s2 d2 s3 d3 s4 d4 s5 d5 s6 d6 s7 d7 w (fun w1 => by have := small5_any n0 n1 n2 n3 n4 n5 n6 n7 s0 d0 s1 d1 s2 d2 s3 d3 s4 d4 s5 d5 s6 d6 s7 d7 w1; rwa [hb] at this) HL
 have HS : Hid (∀ w1, Calls Tryz.prog 16 #[.agg #[.bool n0, .string s0, .string d0, .bool n1, .string s1, .string d1, .bool n2, .string s2, .string d2, .bool n3, .string s3, .string d3, .bool n4, .string s4, .string d4, .bool n5, .string s5, .string d5, .bool n6, .string s6, .string d6, .bool n7, .string s7, .string d7]] w1 fun e w' => e = .returned (.bool true) ∧ Below w1.heap.size w1 w') := fun w1 => by have := small5_any n0 n1 n2 n3 n4 n5 n6 n7 s0 d0 s1 d1 s2 d2 s3 d3 s4 d4 s5 d5 s6 d6 s7 d7 w1; rwa [hb] at this
 simp only [Bool.and_eq_true] at hb
 obtain ⟨h0, h1, h2, h3, h4, h5, h6, h7⟩ := hb
 have y0 : s0.size ≤ 60 ∧ d0.size ≤ 60 := of_decide_eq_true h0
 have z0 : s0.size ≤ 100 ∧ d0.size ≤ 100 := ⟨Nat.le_trans y0.1 (by omega), Nat.le_trans y0.2 (by omega)⟩
 have y1 : s1.size ≤ 60 ∧ d1.size ≤ 60 := of_decide_eq_true h1
 have z1 : s1.size ≤ 100 ∧ d1.size ≤ 100 := ⟨Nat.le_trans y1.1 (by omega), Nat.le_trans y1.2 (by omega)⟩
 have y2 : s2.size ≤ 60 ∧ d2.size ≤ 60 := of_decide_eq_true h2
 have z2 : s2.size ≤ 100 ∧ d2.size ≤ 100 := ⟨Nat.le_trans y2.1 (by omega), Nat.le_trans y2.2 (by omega)⟩
 have y3 : s3.size ≤ 60 ∧ d3.size ≤ 60 := of_decide_eq_true h3
 have z3 : s3.size ≤ 100 ∧ d3.size ≤ 100 := ⟨Nat.le_trans y3.1 (by omega), Nat.le_trans y3.2 (by omega)⟩
 have y4 : s4.size ≤ 60 ∧ d4.size ≤ 60 := of_decide_eq_true h4
 have z4 : s4.size ≤ 100 ∧ d4.size ≤ 100 := ⟨Nat.le_trans y4.1 (by omega), Nat.le_trans y4.2 (by omega)⟩
 have y5 : s5.size ≤ 60 ∧ d5.size ≤ 60 := of_decide_eq_true h5
 have z5 : s5.size ≤ 100 ∧ d5.size ≤ 100 := ⟨Nat.le_trans y5.1 (by omega), Nat.le_trans y5.2 (by omega)⟩
 have y6 : s6.size ≤ 60 ∧ d6.size ≤ 60 := of_decide_eq_true h6
 have z6 : s6.size ≤ 100 ∧ d6.size ≤ 100 := ⟨Nat.le_trans y6.1 (by omega), Nat.le_trans y6.2 (by omega)⟩
 have y7 : s7.size ≤ 60 ∧ d7.size ≤ 60 := of_decide_eq_true h7
 have z7 : s7.size ≤ 100 ∧ d7.size ≤ 100 := ⟨Nat.le_trans y7.1 (by omega), Nat.le_trans y7.2 (by omega)⟩
 clear h0 h1 h2 h3 h4 h5 h6 h7
 by_cases hE : two (two (two (twoq n0 s0 d0 n1 s1 d1) (twoq n2 s2 d2 n3 s3 d3)) (twoq n4 s4 d4 n5 s5 d5)) (twoq n6 s6 d6 n7 s7 d7) = 0
 case neg => exact turned5_bad n0 n1 n2 n3 n4 n5 n6 n7 s0 d0 s1 d1 s2 d2 s3 d3 s4 d4 s5 d5 s6 d6 s7 d7 _ w (by omega) HS HL (fun w1 B b h => asked4 B n0 n1 n2 n3 n4 n5 n6 n7 s0 d0 s1 d1 s2 d2 s3 d3 s4 d4 s5 d5 s6 d6 s7 d7 w1 h (z0) (z1) (z2) (z3) (z4) (z5) (z6) (z7))
 have hE' := hE
 rw [two_zero, two_zero, two_zero] at hE
 obtain ⟨⟨⟨tA, tB⟩, tC⟩, tD⟩ := hE
 have e1 : Gm.cr (qOf n2 s2 d2) (qOf n3 s3 d3) (qOf n4 s4 d4) (qOf n5 s5 d5) (qOf n0 s0 d0) (qOf n1 s1 d1) = Gm.cr (qOf n0 s0 d0) (qOf n1 s1 d1) (qOf n2 s2 d2) (qOf n3 s3 d3) (qOf n4 s4 d4) (qOf n5 s5 d5) := Gm.cr_turn _ _ _ _ _ _
 have e2 : Gm.cr (qOf n2 s2 d2) (qOf n3 s3 d3) (qOf n0 s0 d0) (qOf n1 s1 d1) (qOf n4 s4 d4) (qOf n5 s5 d5) = -Gm.cr (qOf n0 s0 d0) (qOf n1 s1 d1) (qOf n2 s2 d2) (qOf n3 s3 d3) (qOf n4 s4 d4) (qOf n5 s5 d5) := Gm.cr_swap _ _ _ _ _ _
 have e3 : Gm.cr (qOf n4 s4 d4) (qOf n5 s5 d5) (qOf n0 s0 d0) (qOf n1 s1 d1) (qOf n2 s2 d2) (qOf n3 s3 d3) = Gm.cr (qOf n0 s0 d0) (qOf n1 s1 d1) (qOf n2 s2 d2) (qOf n3 s3 d3) (qOf n4 s4 d4) (qOf n5 s5 d5) := (Gm.cr_turn _ _ _ _ _ _).symm
 have e4 : Gm.ci (qOf n4 s4 d4) (qOf n5 s5 d5) (qOf n0 s0 d0) (qOf n1 s1 d1) (qOf n2 s2 d2) (qOf n3 s3 d3) (qOf n6 s6 d6) (qOf n7 s7 d7) = Gm.ci (qOf n0 s0 d0) (qOf n1 s1 d1) (qOf n2 s2 d2) (qOf n3 s3 d3) (qOf n4 s4 d4) (qOf n5 s5 d5) (qOf n6 s6 d6) (qOf n7 s7 d7) := Gm.ci_turn _ _ _ _ _ _ _ _
 have e5 : Gm.ci (qOf n2 s2 d2) (qOf n3 s3 d3) (qOf n0 s0 d0) (qOf n1 s1 d1) (qOf n4 s4 d4) (qOf n5 s5 d5) (qOf n6 s6 d6) (qOf n7 s7 d7) = -Gm.ci (qOf n0 s0 d0) (qOf n1 s1 d1) (qOf n2 s2 d2) (qOf n3 s3 d3) (qOf n4 s4 d4) (qOf n5 s5 d5) (qOf n6 s6 d6) (qOf n7 s7 d7) := Gm.ci_swap _ _ _ _ _ _ _ _
 have hq : IntKind.i64.wrap (-(Gm.sg (Gm.cr (qOf n2 s2 d2) (qOf n3 s3 d3) (qOf n0 s0 d0) (qOf n1 s1 d1) (qOf n4 s4 d4) (qOf n5 s5 d5)))) = Gm.sg (Gm.cr (qOf n0 s0 d0) (qOf n1 s1 d1) (qOf n2 s2 d2) (qOf n3 s3 d3) (qOf n4 s4 d4) (qOf n5 s5 d5)) := by
  rw [e2, Gm.sg_minus, Int.neg_neg, IntKind.wrap_i64]
  rcases sg_small (Gm.cr (qOf n0 s0 d0) (qOf n1 s1 d1) (qOf n2 s2 d2) (qOf n3 s3 d3) (qOf n4 s4 d4) (qOf n5 s5 d5)) with h | h | h <;> rw [h] <;> rfl
 by_cases h0 : Gm.sg (Gm.cr (qOf n0 s0 d0) (qOf n1 s1 d1) (qOf n2 s2 d2) (qOf n3 s3 d3) (qOf n4 s4 d4) (qOf n5 s5 d5)) = 0
 ·refine turned5_ok n0 n1 n2 n3 n4 n5 n6 n7 s0 d0 s1 d1 s2 d2 s3 d3 s4 d4 s5 d5 s6 d6 s7 d7 _ _ 0 6 w hq HS HL (fun w1 B b h => by have := asked4 B n0 n1 n2 n3 n4 n5 n6 n7 s0 d0 s1 d1 s2 d2 s3 d3 s4 d4 s5 d5 s6 d6 s7 d7 w1 h (z0) (z1) (z2) (z3) (z4) (z5) (z6) (z7); rwa [hE'] at this) (fun w1 b => gOrient_an n0 n1 n2 n3 n4 n5 s0 d0 s1 d1 s2 d2 s3 d3 s4 d4 s5 d5 w1 (hT.below b) (z0) (z1) (z2) (z3) (z4) (z5) (two_zero.2 ⟨(two_zero.2 ⟨tA, tB⟩), tC⟩)) (fun w1 b => ?_) (fun w1 b => gOrient_an n2 n3 n0 n1 n4 n5 s2 d2 s3 d3 s0 d0 s1 d1 s4 d4 s5 d5 w1 (hT.below b) (z2) (z3) (z0) (z1) (z4) (z5) (two_zero.2 ⟨(two_zero.2 ⟨tB, tA⟩), tC⟩)) (fun w1 b => ?_) (fun w1 b => ?_) (fun w1 b => ?_)
  ·have := gOrient_an n2 n3 n4 n5 n0 n1 s2 d2 s3 d3 s4 d4 s5 d5 s0 d0 s1 d1 w1 (hT.below b) (z2) (z3) (z4) (z5) (z0) (z1) (two_zero.2 ⟨(two_zero.2 ⟨tB, tC⟩), tA⟩)
   rwa [e1] at this
  ·have := gCircle_an n0 n1 n2 n3 n4 n5 n6 n7 s0 d0 s1 d1 s2 d2 s3 d3 s4 d4 s5 d5 s6 d6 s7 d7 w1 (hT.below b) (z0) (z1) (z2) (z3) (z4) (z5) (z6) (z7) (two_zero.2 ⟨(two_zero.2 ⟨(two_zero.2 ⟨tA, tB⟩), tC⟩), tD⟩)
   rwa [if_pos h0] at this
  ·have := gCircle_an n4 n5 n0 n1 n2 n3 n6 n7 s4 d4 s5 d5 s0 d0 s1 d1 s2 d2 s3 d3 s6 d6 s7 d7 w1 (hT.below b) (z4) (z5) (z0) (z1) (z2) (z3) (z6) (z7) (two_zero.2 ⟨(two_zero.2 ⟨(two_zero.2 ⟨tC, tA⟩), tB⟩), tD⟩)
   rwa [if_pos (by rw [e3]; exact h0)] at this
  ·have := gCircle_an n2 n3 n0 n1 n4 n5 n6 n7 s2 d2 s3 d3 s0 d0 s1 d1 s4 d4 s5 d5 s6 d6 s7 d7 w1 (hT.below b) (z2) (z3) (z0) (z1) (z4) (z5) (z6) (z7) (two_zero.2 ⟨(two_zero.2 ⟨(two_zero.2 ⟨tB, tA⟩), tC⟩), tD⟩)
   rwa [if_pos (by rw [e2, Gm.sg_minus, h0]; rfl)] at this
 ·refine turned5_ok n0 n1 n2 n3 n4 n5 n6 n7 s0 d0 s1 d1 s2 d2 s3 d3 s4 d4 s5 d5 s6 d6 s7 d7 _ _ (Gm.sg (Gm.cr (qOf n0 s0 d0) (qOf n1 s1 d1) (qOf n2 s2 d2) (qOf n3 s3 d3) (qOf n4 s4 d4) (qOf n5 s5 d5)) * Gm.sg (Gm.ci (qOf n0 s0 d0) (qOf n1 s1 d1) (qOf n2 s2 d2) (qOf n3 s3 d3) (qOf n4 s4 d4) (qOf n5 s5 d5) (qOf n6 s6 d6) (qOf n7 s7 d7))) 0 w hq HS HL (fun w1 B b h => by have := asked4 B n0 n1 n2 n3 n4 n5 n6 n7 s0 d0 s1 d1 s2 d2 s3 d3 s4 d4 s5 d5 s6 d6 s7 d7 w1 h (z0) (z1) (z2) (z3) (z4) (z5) (z6) (z7); rwa [hE'] at this) (fun w1 b => gOrient_an n0 n1 n2 n3 n4 n5 s0 d0 s1 d1 s2 d2 s3 d3 s4 d4 s5 d5 w1 (hT.below b) (z0) (z1) (z2) (z3) (z4) (z5) (two_zero.2 ⟨(two_zero.2 ⟨tA, tB⟩), tC⟩)) (fun w1 b => ?_) (fun w1 b => gOrient_an n2 n3 n0 n1 n4 n5 s2 d2 s3 d3 s0 d0 s1 d1 s4 d4 s5 d5 w1 (hT.below b) (z2) (z3) (z0) (z1) (z4) (z5) (two_zero.2 ⟨(two_zero.2 ⟨tB, tA⟩), tC⟩)) (fun w1 b => ?_) (fun w1 b => ?_) (fun w1 b => ?_)
  ·have := gOrient_an n2 n3 n4 n5 n0 n1 s2 d2 s3 d3 s4 d4 s5 d5 s0 d0 s1 d1 w1 (hT.below b) (z2) (z3) (z4) (z5) (z0) (z1) (two_zero.2 ⟨(two_zero.2 ⟨tB, tC⟩), tA⟩)
   rwa [e1] at this
  ·have := gCircle_an n0 n1 n2 n3 n4 n5 n6 n7 s0 d0 s1 d1 s2 d2 s3 d3 s4 d4 s5 d5 s6 d6 s7 d7 w1 (hT.below b) (z0) (z1) (z2) (z3) (z4) (z5) (z6) (z7) (two_zero.2 ⟨(two_zero.2 ⟨(two_zero.2 ⟨tA, tB⟩), tC⟩), tD⟩)
   rwa [if_neg h0] at this
  ·have := gCircle_an n4 n5 n0 n1 n2 n3 n6 n7 s4 d4 s5 d5 s0 d0 s1 d1 s2 d2 s3 d3 s6 d6 s7 d7 w1 (hT.below b) (z4) (z5) (z0) (z1) (z2) (z3) (z6) (z7) (two_zero.2 ⟨(two_zero.2 ⟨(two_zero.2 ⟨tC, tA⟩), tB⟩), tD⟩)
   rw [if_neg (by rw [e3]; exact h0), e3, e4] at this
   exact this
  ·have := gCircle_an n2 n3 n0 n1 n4 n5 n6 n7 s2 d2 s3 d3 s0 d0 s1 d1 s4 d4 s5 d5 s6 d6 s7 d7 w1 (hT.below b) (z2) (z3) (z0) (z1) (z4) (z5) (z6) (z7) (two_zero.2 ⟨(two_zero.2 ⟨(two_zero.2 ⟨tB, tA⟩), tC⟩), tD⟩)
   rw [if_neg (by rw [e2, Gm.sg_minus]; omega), e2, e5, Gm.sg_minus, Gm.sg_minus, Int.neg_mul_neg] at this
   exact this
end Go.Proofs.YtgihiaaodkkkbaaGreatDoor
