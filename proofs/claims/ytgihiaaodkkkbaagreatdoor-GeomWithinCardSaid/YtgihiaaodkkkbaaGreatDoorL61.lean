/-
  gussetlaw05: GeomWithin, walked.
  gussetlaw05: GeomWithin holds of any points.
-/
import Derived.Test.YtgihiaaodkkkbaaGreatDoorK58
import Derived.Test.YtgihiaaodkkkbaaGreatDoorL57
namespace Go.Proofs.YtgihiaaodkkkbaaGreatDoor
open Go.RowKit

set_option maxRecDepth 100000 in
set_option maxHeartbeats 16000000 in
theorem within5_l (n0 n1 n2 n3 n4 n5 n6 n7 : Bool) (s0 d0 s1 d1 s2 d2 s3 d3 s4 d4 s5 d5 s6 d6 s7 d7 : ByteArray) (w : World)
  (HS : Hid (∀ w1, Calls Tryz.prog 16 #[.agg #[.bool n0, .string s0, .string d0, .bool n1, .string s1, .string d1, .bool n2, .string s2, .string d2, .bool n3, .string s3, .string d3, .bool n4, .string s4, .string d4, .bool n5, .string s5, .string d5, .bool n6, .string s6, .string d6, .bool n7, .string s7, .string d7]] w1 fun e w' => e = .returned (.bool false) ∧ Below w1.heap.size w1 w'))
  (HL : Hid (∀ w1, Below w.heap.size w w1 → Calls Tryz.prog 17 #[] w1 fun e w' => e = .returned (.bool true) ∧ Below w1.heap.size w1 w')) :
  Calls Tryz.prog 6 #[.agg #[.bool n0, .string s0, .string d0, .bool n1, .string s1, .string d1, .bool n2, .string s2, .string d2, .bool n3, .string s3, .string d3, .bool n4, .string s4, .string d4, .bool n5, .string s5, .string d5, .bool n6, .string s6, .string d6, .bool n7, .string s7, .string d7]] w fun e w' => e = .returned (.bool true) ∧ Below w.heap.size w w' := by
 go_enter Tryz.func6, Tryz.ntmps6
 go_wp2_with (first | (refine wpList_load_row rfl 41 _ rfl w.heap.size rfl 41 _ (0, 0) _ (heap_alloc_new w _) Tryz.underlying41 rfl (by kernel_rfl) ?_) | fail)
 go_wp2_with fail
 go_fit (HS.out _)
 rintro e w1 ⟨rfl, b1⟩
 obtain ⟨k, bb⟩ := al1 b1
 clear b1
 go_wp2_with fail
 go_fit (HL.out _ bb)
 rintro e w2 ⟨rfl, b1⟩
 replace k := k.below b1
 replace bb := Below.after bb b1
 clear b1
 go_wp2
 go_ret
 exact ⟨rfl, bb⟩
set_option maxRecDepth 100000 in
set_option maxHeartbeats 16000000 in
theorem within5_bad3 (n0 n1 n2 n3 n4 n5 n6 n7 : Bool) (s0 d0 s1 d1 s2 d2 s3 d3 s4 d4 s5 d5 s6 d6 s7 d7 : ByteArray) (E F : Int) (w : World) (hE : ¬ E = 0) (hF : ¬ F = 0)
  (HS : Hid (∀ w1, Calls Tryz.prog 16 #[.agg #[.bool n0, .string s0, .string d0, .bool n1, .string s1, .string d1, .bool n2, .string s2, .string d2, .bool n3, .string s3, .string d3, .bool n4, .string s4, .string d4, .bool n5, .string s5, .string d5, .bool n6, .string s6, .string d6, .bool n7, .string s7, .string d7]] w1 fun e w' => e = .returned (.bool true) ∧ Below w1.heap.size w1 w'))
  (HL : Hid (∀ w1, Below w.heap.size w w1 → Calls Tryz.prog 17 #[] w1 fun e w' => e = .returned (.bool true) ∧ Below w1.heap.size w1 w'))
  (N1 : Hid (∀ w1, Below w.heap.size w w1 → Calls Tryz.prog 29 #[.agg #[.bool n0, .string s0, .string d0, .bool n1, .string s1, .string d1], .agg #[.bool n2, .string s2, .string d2, .bool n3, .string s3, .string d3], .agg #[.bool n6, .string s6, .string d6, .bool n7, .string s7, .string d7]] w1 fun e w' => e = .returned (.tuple #[.bool false, .int .i64 (E)]) ∧ Below w1.heap.size w1 w'))
  (W1 : Hid (∀ w1, Below w.heap.size w w1 → Calls Tryz.prog 30 #[.agg #[.bool n0, .string s0, .string d0, .bool n1, .string s1, .string d1], .agg #[.bool n2, .string s2, .string d2, .bool n3, .string s3, .string d3], .agg #[.bool n4, .string s4, .string d4, .bool n5, .string s5, .string d5], .agg #[.bool n6, .string s6, .string d6, .bool n7, .string s7, .string d7]] w1 fun e w' => e = .returned (.tuple #[.int .i64 (0), .int .i64 (F)]) ∧ Below w1.heap.size w1 w'))
  (A3 : Hid (∀ (w1 : World) (B : Nat), Below w.heap.size w w1 → Cel w1 B [.bool n0, .string s0, .string d0, .bool n1, .string s1, .string d1, .bool n2, .string s2, .string d2, .bool n3, .string s3, .string d3, .bool n6, .string s6, .string d6, .bool n7, .string s7, .string d7] 39 → Calls Tryz.prog 21 #[.slice (some ⟨B, 0, none⟩) 3 3] w1 fun e w' => e = .returned (.int .i64 (E)) ∧ Below w1.heap.size w1 w'))
  (A4 : Hid (∀ (w1 : World) (B : Nat), Below w.heap.size w w1 → Cel w1 B [.bool n0, .string s0, .string d0, .bool n1, .string s1, .string d1, .bool n2, .string s2, .string d2, .bool n3, .string s3, .string d3, .bool n4, .string s4, .string d4, .bool n5, .string s5, .string d5, .bool n6, .string s6, .string d6, .bool n7, .string s7, .string d7] 39 → Calls Tryz.prog 21 #[.slice (some ⟨B, 0, none⟩) 4 4] w1 fun e w' => e = .returned (.int .i64 (F)) ∧ Below w1.heap.size w1 w')) :
  Calls Tryz.prog 6 #[.agg #[.bool n0, .string s0, .string d0, .bool n1, .string s1, .string d1, .bool n2, .string s2, .string d2, .bool n3, .string s3, .string d3, .bool n4, .string s4, .string d4, .bool n5, .string s5, .string d5, .bool n6, .string s6, .string d6, .bool n7, .string s7, .string d7]] w fun e w' => e = .returned (.bool true) ∧ Below w.heap.size w w' := by
 go_enter Tryz.func6, Tryz.ntmps6
 go_wp2_with (first | (refine wpList_load_row rfl 41 _ rfl w.heap.size rfl 41 _ (0, 0) _ (heap_alloc_new w _) Tryz.underlying41 rfl (by kernel_rfl) ?_) | fail)
 go_wp2_with fail
 go_fit (HS.out _)
 rintro e w1 ⟨rfl, b1⟩
 obtain ⟨k, bb⟩ := al1 b1
 clear b1
 obtain ⟨c0, c1, c2, c3, c4, c5, c6, c7, c8, c9, c10, c11, c12, c13, c14, c15, c16, c17, c18, c19, c20, c21, c22, c23⟩ := c24 k
 go_wp2_with fail
 go_fit (N1.out _ bb)
 rintro e w2 ⟨rfl, b1⟩
 replace k := k.below b1
 replace bb := Below.after bb b1
 clear b1
 clear c0 c1 c2 c3 c4 c5 c6 c7 c8 c9 c10 c11 c12 c13 c14 c15 c16 c17 c18 c19 c20 c21 c22 c23
 obtain ⟨c0, c1, c2, c3, c4, c5, c6, c7, c8, c9, c10, c11, c12, c13, c14, c15, c16, c17, c18, c19, c20, c21, c22, c23⟩ := c24 k
 go_wp2_with fail
 go_fit (W1.out _ bb)
 rintro e w3 ⟨rfl, b1⟩
 replace k := k.below b1
 replace bb := Below.after bb b1
 clear b1
 clear c0 c1 c2 c3 c4 c5 c6 c7 c8 c9 c10 c11 c12 c13 c14 c15 c16 c17 c18 c19 c20 c21 c22 c23
 obtain ⟨c0, c1, c2, c3, c4, c5, c6, c7, c8, c9, c10, c11, c12, c13, c14, c15, c16, c17, c18, c19, c20, c21, c22, c23⟩ := c24 k
 go_wp2_with fail
 obtain ⟨w4, hw, kl, b1⟩ := mk1 w3 [.bool n0, .string s0, .string d0, .bool n1, .string s1, .string d1, .bool n2, .string s2, .string d2, .bool n3, .string s3, .string d3, .bool n6, .string s6, .string d6, .bool n7, .string s7, .string d7] 39
 rw [← hw]
 clear hw
 replace k := k.below b1
 replace bb := Below.after bb b1
 clear b1
 clear c0 c1 c2 c3 c4 c5 c6 c7 c8 c9 c10 c11 c12 c13 c14 c15 c16 c17 c18 c19 c20 c21 c22 c23
 go_fit (A3.out _ _ bb kl)
 rintro e w5 ⟨rfl, b1⟩
 replace k := k.below b1
 replace bb := Below.after bb b1
 clear b1 kl
 obtain ⟨c0, c1, c2, c3, c4, c5, c6, c7, c8, c9, c10, c11, c12, c13, c14, c15, c16, c17, c18, c19, c20, c21, c22, c23⟩ := c24 k
 go_wp2_with fail
 obtain ⟨w6, hw, kl, b1⟩ := mk1 w5 [.bool n0, .string s0, .string d0, .bool n1, .string s1, .string d1, .bool n2, .string s2, .string d2, .bool n3, .string s3, .string d3, .bool n4, .string s4, .string d4, .bool n5, .string s5, .string d5, .bool n6, .string s6, .string d6, .bool n7, .string s7, .string d7] 39
 rw [← hw]
 clear hw
 replace k := k.below b1
 replace bb := Below.after bb b1
 clear b1
 clear c0 c1 c2 c3 c4 c5 c6 c7 c8 c9 c10 c11 c12 c13 c14 c15 c16 c17 c18 c19 c20 c21 c22 c23
 go_fit (A4.out _ _ bb kl)
 rintro e w7 ⟨rfl, b1⟩
 replace k := k.below b1
 replace bb := Below.after bb b1
 clear b1 kl
 go_wp2_with fail
 go_fit (HL.out _ bb)
 rintro e w8 ⟨rfl, b1⟩
 replace k := k.below b1
 replace bb := Below.after bb b1
 clear b1
 go_wp2
 go_ret
 exact ⟨rfl, bb⟩
set_option maxRecDepth 100000 in
set_option maxHeartbeats 16000000 in
theorem within5_bad4 (n0 n1 n2 n3 n4 n5 n6 n7 : Bool) (s0 d0 s1 d1 s2 d2 s3 d3 s4 d4 s5 d5 s6 d6 s7 d7 : ByteArray) (on : Bool) (F : Int) (w : World) (hF : ¬ F = 0)
  (HS : Hid (∀ w1, Calls Tryz.prog 16 #[.agg #[.bool n0, .string s0, .string d0, .bool n1, .string s1, .string d1, .bool n2, .string s2, .string d2, .bool n3, .string s3, .string d3, .bool n4, .string s4, .string d4, .bool n5, .string s5, .string d5, .bool n6, .string s6, .string d6, .bool n7, .string s7, .string d7]] w1 fun e w' => e = .returned (.bool true) ∧ Below w1.heap.size w1 w'))
  (HL : Hid (∀ w1, Below w.heap.size w w1 → Calls Tryz.prog 17 #[] w1 fun e w' => e = .returned (.bool true) ∧ Below w1.heap.size w1 w'))
  (N1 : Hid (∀ w1, Below w.heap.size w w1 → Calls Tryz.prog 29 #[.agg #[.bool n0, .string s0, .string d0, .bool n1, .string s1, .string d1], .agg #[.bool n2, .string s2, .string d2, .bool n3, .string s3, .string d3], .agg #[.bool n6, .string s6, .string d6, .bool n7, .string s7, .string d7]] w1 fun e w' => e = .returned (.tuple #[.bool on, .int .i64 (0)]) ∧ Below w1.heap.size w1 w'))
  (W1 : Hid (∀ w1, Below w.heap.size w w1 → Calls Tryz.prog 30 #[.agg #[.bool n0, .string s0, .string d0, .bool n1, .string s1, .string d1], .agg #[.bool n2, .string s2, .string d2, .bool n3, .string s3, .string d3], .agg #[.bool n4, .string s4, .string d4, .bool n5, .string s5, .string d5], .agg #[.bool n6, .string s6, .string d6, .bool n7, .string s7, .string d7]] w1 fun e w' => e = .returned (.tuple #[.int .i64 (0), .int .i64 (F)]) ∧ Below w1.heap.size w1 w'))
  (A3 : Hid (∀ (w1 : World) (B : Nat), Below w.heap.size w w1 → Cel w1 B [.bool n0, .string s0, .string d0, .bool n1, .string s1, .string d1, .bool n2, .string s2, .string d2, .bool n3, .string s3, .string d3, .bool n6, .string s6, .string d6, .bool n7, .string s7, .string d7] 39 → Calls Tryz.prog 21 #[.slice (some ⟨B, 0, none⟩) 3 3] w1 fun e w' => e = .returned (.int .i64 (0)) ∧ Below w1.heap.size w1 w'))
  (A4 : Hid (∀ (w1 : World) (B : Nat), Below w.heap.size w w1 → Cel w1 B [.bool n0, .string s0, .string d0, .bool n1, .string s1, .string d1, .bool n2, .string s2, .string d2, .bool n3, .string s3, .string d3, .bool n4, .string s4, .string d4, .bool n5, .string s5, .string d5, .bool n6, .string s6, .string d6, .bool n7, .string s7, .string d7] 39 → Calls Tryz.prog 21 #[.slice (some ⟨B, 0, none⟩) 4 4] w1 fun e w' => e = .returned (.int .i64 (F)) ∧ Below w1.heap.size w1 w'))
  (R1 : Hid (∀ w1, Below w.heap.size w w1 → Calls Tryz.prog 31 #[.agg #[.bool n0, .string s0, .string d0, .bool n1, .string s1, .string d1], .agg #[.bool n2, .string s2, .string d2, .bool n3, .string s3, .string d3], .agg #[.bool n6, .string s6, .string d6, .bool n7, .string s7, .string d7]] w1 fun e w' => e = .returned (.bool on) ∧ Below w1.heap.size w1 w')) :
  Calls Tryz.prog 6 #[.agg #[.bool n0, .string s0, .string d0, .bool n1, .string s1, .string d1, .bool n2, .string s2, .string d2, .bool n3, .string s3, .string d3, .bool n4, .string s4, .string d4, .bool n5, .string s5, .string d5, .bool n6, .string s6, .string d6, .bool n7, .string s7, .string d7]] w fun e w' => e = .returned (.bool true) ∧ Below w.heap.size w w' := by
 go_enter Tryz.func6, Tryz.ntmps6
 go_wp2_with (first | (refine wpList_load_row rfl 41 _ rfl w.heap.size rfl 41 _ (0, 0) _ (heap_alloc_new w _) Tryz.underlying41 rfl (by kernel_rfl) ?_) | fail)
 go_wp2_with fail
 go_fit (HS.out _)
 rintro e w1 ⟨rfl, b1⟩
 obtain ⟨k, bb⟩ := al1 b1
 clear b1
 obtain ⟨c0, c1, c2, c3, c4, c5, c6, c7, c8, c9, c10, c11, c12, c13, c14, c15, c16, c17, c18, c19, c20, c21, c22, c23⟩ := c24 k
 go_wp2_with fail
 go_fit (N1.out _ bb)
 rintro e w2 ⟨rfl, b1⟩
 replace k := k.below b1
 replace bb := Below.after bb b1
 clear b1
 clear c0 c1 c2 c3 c4 c5 c6 c7 c8 c9 c10 c11 c12 c13 c14 c15 c16 c17 c18 c19 c20 c21 c22 c23
 obtain ⟨c0, c1, c2, c3, c4, c5, c6, c7, c8, c9, c10, c11, c12, c13, c14, c15, c16, c17, c18, c19, c20, c21, c22, c23⟩ := c24 k
 go_wp2_with fail
 go_fit (W1.out _ bb)
 rintro e w3 ⟨rfl, b1⟩
 replace k := k.below b1
 replace bb := Below.after bb b1
 clear b1
 clear c0 c1 c2 c3 c4 c5 c6 c7 c8 c9 c10 c11 c12 c13 c14 c15 c16 c17 c18 c19 c20 c21 c22 c23
 obtain ⟨c0, c1, c2, c3, c4, c5, c6, c7, c8, c9, c10, c11, c12, c13, c14, c15, c16, c17, c18, c19, c20, c21, c22, c23⟩ := c24 k
 go_wp2_with fail
 obtain ⟨w4, hw, kl, b1⟩ := mk1 w3 [.bool n0, .string s0, .string d0, .bool n1, .string s1, .string d1, .bool n2, .string s2, .string d2, .bool n3, .string s3, .string d3, .bool n6, .string s6, .string d6, .bool n7, .string s7, .string d7] 39
 rw [← hw]
 clear hw
 replace k := k.below b1
 replace bb := Below.after bb b1
 clear b1
 clear c0 c1 c2 c3 c4 c5 c6 c7 c8 c9 c10 c11 c12 c13 c14 c15 c16 c17 c18 c19 c20 c21 c22 c23
 go_fit (A3.out _ _ bb kl)
 rintro e w5 ⟨rfl, b1⟩
 replace k := k.below b1
 replace bb := Below.after bb b1
 clear b1 kl
 obtain ⟨c0, c1, c2, c3, c4, c5, c6, c7, c8, c9, c10, c11, c12, c13, c14, c15, c16, c17, c18, c19, c20, c21, c22, c23⟩ := c24 k
 go_wp2_with fail
 obtain ⟨w6, hw, kl, b1⟩ := mk1 w5 [.bool n0, .string s0, .string d0, .bool n1, .string s1, .string d1, .bool n2, .string s2, .string d2, .bool n3, .string s3, .string d3, .bool n4, .string s4, .string d4, .bool n5, .string s5, .string d5, .bool n6, .string s6, .string d6, .bool n7, .string s7, .string d7] 39
 rw [← hw]
 clear hw
 replace k := k.below b1
 replace bb := Below.after bb b1
 clear b1
 clear c0 c1 c2 c3 c4 c5 c6 c7 c8 c9 c10 c11 c12 c13 c14 c15 c16 c17 c18 c19 c20 c21 c22 c23
 go_fit (A4.out _ _ bb kl)
 rintro e w7 ⟨rfl, b1⟩
 replace k := k.below b1
 replace bb := Below.after bb b1
 clear b1 kl
 obtain ⟨c0, c1, c2, c3, c4, c5, c6, c7, c8, c9, c10, c11, c12, c13, c14, c15, c16, c17, c18, c19, c20, c21, c22, c23⟩ := c24 k
 go_wp2_with fail
 go_fit (R1.out _ bb)
 rintro e w8 ⟨rfl, b1⟩
 replace k := k.below b1
 replace bb := Below.after bb b1
 clear b1
 clear c0 c1 c2 c3 c4 c5 c6 c7 c8 c9 c10 c11 c12 c13 c14 c15 c16 c17 c18 c19 c20 c21 c22 c23
 go_wp2_with fail
 go_fit (HL.out _ bb)
 rintro e w9 ⟨rfl, b1⟩
 replace k := k.below b1
 replace bb := Below.after bb b1
 clear b1
 go_wp2
 go_ret
 exact ⟨rfl, bb⟩
set_option maxRecDepth 100000 in
set_option maxHeartbeats 16000000 in
theorem within5_flat (n0 n1 n2 n3 n4 n5 n6 n7 : Bool) (s0 d0 s1 d1 s2 d2 s3 d3 s4 d4 s5 d5 s6 d6 s7 d7 : ByteArray) (on : Bool) (w : World)
  (HS : Hid (∀ w1, Calls Tryz.prog 16 #[.agg #[.bool n0, .string s0, .string d0, .bool n1, .string s1, .string d1, .bool n2, .string s2, .string d2, .bool n3, .string s3, .string d3, .bool n4, .string s4, .string d4, .bool n5, .string s5, .string d5, .bool n6, .string s6, .string d6, .bool n7, .string s7, .string d7]] w1 fun e w' => e = .returned (.bool true) ∧ Below w1.heap.size w1 w'))
  (HL : Hid (∀ w1, Below w.heap.size w w1 → Calls Tryz.prog 17 #[] w1 fun e w' => e = .returned (.bool true) ∧ Below w1.heap.size w1 w'))
  (N1 : Hid (∀ w1, Below w.heap.size w w1 → Calls Tryz.prog 29 #[.agg #[.bool n0, .string s0, .string d0, .bool n1, .string s1, .string d1], .agg #[.bool n2, .string s2, .string d2, .bool n3, .string s3, .string d3], .agg #[.bool n6, .string s6, .string d6, .bool n7, .string s7, .string d7]] w1 fun e w' => e = .returned (.tuple #[.bool on, .int .i64 (0)]) ∧ Below w1.heap.size w1 w'))
  (W1 : Hid (∀ w1, Below w.heap.size w w1 → Calls Tryz.prog 30 #[.agg #[.bool n0, .string s0, .string d0, .bool n1, .string s1, .string d1], .agg #[.bool n2, .string s2, .string d2, .bool n3, .string s3, .string d3], .agg #[.bool n4, .string s4, .string d4, .bool n5, .string s5, .string d5], .agg #[.bool n6, .string s6, .string d6, .bool n7, .string s7, .string d7]] w1 fun e w' => e = .returned (.tuple #[.int .i64 (0), .int .i64 (6)]) ∧ Below w1.heap.size w1 w'))
  (A3 : Hid (∀ (w1 : World) (B : Nat), Below w.heap.size w w1 → Cel w1 B [.bool n0, .string s0, .string d0, .bool n1, .string s1, .string d1, .bool n2, .string s2, .string d2, .bool n3, .string s3, .string d3, .bool n6, .string s6, .string d6, .bool n7, .string s7, .string d7] 39 → Calls Tryz.prog 21 #[.slice (some ⟨B, 0, none⟩) 3 3] w1 fun e w' => e = .returned (.int .i64 (0)) ∧ Below w1.heap.size w1 w'))
  (A4 : Hid (∀ (w1 : World) (B : Nat), Below w.heap.size w w1 → Cel w1 B [.bool n0, .string s0, .string d0, .bool n1, .string s1, .string d1, .bool n2, .string s2, .string d2, .bool n3, .string s3, .string d3, .bool n4, .string s4, .string d4, .bool n5, .string s5, .string d5, .bool n6, .string s6, .string d6, .bool n7, .string s7, .string d7] 39 → Calls Tryz.prog 21 #[.slice (some ⟨B, 0, none⟩) 4 4] w1 fun e w' => e = .returned (.int .i64 (0)) ∧ Below w1.heap.size w1 w'))
  (R1 : Hid (∀ w1, Below w.heap.size w w1 → Calls Tryz.prog 31 #[.agg #[.bool n0, .string s0, .string d0, .bool n1, .string s1, .string d1], .agg #[.bool n2, .string s2, .string d2, .bool n3, .string s3, .string d3], .agg #[.bool n6, .string s6, .string d6, .bool n7, .string s7, .string d7]] w1 fun e w' => e = .returned (.bool on) ∧ Below w1.heap.size w1 w'))
  (R2 : Hid (∀ w1, Below w.heap.size w w1 → Calls Tryz.prog 22 #[.agg #[.bool n0, .string s0, .string d0, .bool n1, .string s1, .string d1], .agg #[.bool n2, .string s2, .string d2, .bool n3, .string s3, .string d3], .agg #[.bool n4, .string s4, .string d4, .bool n5, .string s5, .string d5]] w1 fun e w' => e = .returned (.int .i64 (0)) ∧ Below w1.heap.size w1 w')) :
  Calls Tryz.prog 6 #[.agg #[.bool n0, .string s0, .string d0, .bool n1, .string s1, .string d1, .bool n2, .string s2, .string d2, .bool n3, .string s3, .string d3, .bool n4, .string s4, .string d4, .bool n5, .string s5, .string d5, .bool n6, .string s6, .string d6, .bool n7, .string s7, .string d7]] w fun e w' => e = .returned (.bool true) ∧ Below w.heap.size w w' := by
 go_enter Tryz.func6, Tryz.ntmps6
 go_wp2_with (first | (refine wpList_load_row rfl 41 _ rfl w.heap.size rfl 41 _ (0, 0) _ (heap_alloc_new w _) Tryz.underlying41 rfl (by kernel_rfl) ?_) | fail)
 go_wp2_with fail
 go_fit (HS.out _)
 rintro e w1 ⟨rfl, b1⟩
 obtain ⟨k, bb⟩ := al1 b1
 clear b1
 obtain ⟨c0, c1, c2, c3, c4, c5, c6, c7, c8, c9, c10, c11, c12, c13, c14, c15, c16, c17, c18, c19, c20, c21, c22, c23⟩ := c24 k
 go_wp2_with fail
 go_fit (N1.out _ bb)
 rintro e w2 ⟨rfl, b1⟩
 replace k := k.below b1
 replace bb := Below.after bb b1
 clear b1
 clear c0 c1 c2 c3 c4 c5 c6 c7 c8 c9 c10 c11 c12 c13 c14 c15 c16 c17 c18 c19 c20 c21 c22 c23
 obtain ⟨c0, c1, c2, c3, c4, c5, c6, c7, c8, c9, c10, c11, c12, c13, c14, c15, c16, c17, c18, c19, c20, c21, c22, c23⟩ := c24 k
 go_wp2_with fail
 go_fit (W1.out _ bb)
 rintro e w3 ⟨rfl, b1⟩
 replace k := k.below b1
 replace bb := Below.after bb b1
 clear b1
 clear c0 c1 c2 c3 c4 c5 c6 c7 c8 c9 c10 c11 c12 c13 c14 c15 c16 c17 c18 c19 c20 c21 c22 c23
 obtain ⟨c0, c1, c2, c3, c4, c5, c6, c7, c8, c9, c10, c11, c12, c13, c14, c15, c16, c17, c18, c19, c20, c21, c22, c23⟩ := c24 k
 go_wp2_with fail
 obtain ⟨w4, hw, kl, b1⟩ := mk1 w3 [.bool n0, .string s0, .string d0, .bool n1, .string s1, .string d1, .bool n2, .string s2, .string d2, .bool n3, .string s3, .string d3, .bool n6, .string s6, .string d6, .bool n7, .string s7, .string d7] 39
 rw [← hw]
 clear hw
 replace k := k.below b1
 replace bb := Below.after bb b1
 clear b1
 clear c0 c1 c2 c3 c4 c5 c6 c7 c8 c9 c10 c11 c12 c13 c14 c15 c16 c17 c18 c19 c20 c21 c22 c23
 go_fit (A3.out _ _ bb kl)
 rintro e w5 ⟨rfl, b1⟩
 replace k := k.below b1
 replace bb := Below.after bb b1
 clear b1 kl
 obtain ⟨c0, c1, c2, c3, c4, c5, c6, c7, c8, c9, c10, c11, c12, c13, c14, c15, c16, c17, c18, c19, c20, c21, c22, c23⟩ := c24 k
 go_wp2_with fail
 obtain ⟨w6, hw, kl, b1⟩ := mk1 w5 [.bool n0, .string s0, .string d0, .bool n1, .string s1, .string d1, .bool n2, .string s2, .string d2, .bool n3, .string s3, .string d3, .bool n4, .string s4, .string d4, .bool n5, .string s5, .string d5, .bool n6, .string s6, .string d6, .bool n7, .string s7, .string d7] 39
 rw [← hw]
 clear hw
 replace k := k.below b1
 replace bb := Below.after bb b1
 clear b1
 clear c0 c1 c2 c3 c4 c5 c6 c7 c8 c9 c10 c11 c12 c13 c14 c15 c16 c17 c18 c19 c20 c21 c22 c23
 go_fit (A4.out _ _ bb kl)
 rintro e w7 ⟨rfl, b1⟩
 replace k := k.below b1
 replace bb := Below.after bb b1
 clear b1 kl
 obtain ⟨c0, c1, c2, c3, c4, c5, c6, c7, c8, c9, c10, c11, c12, c13, c14, c15, c16, c17, c18, c19, c20, c21, c22, c23⟩ := c24 k
 go_wp2_with fail
 go_fit (R1.out _ bb)
 rintro e w8 ⟨rfl, b1⟩
 replace k := k.below b1
 replace bb := Below.after bb b1
 clear b1
 clear c0 c1 c2 c3 c4 c5 c6 c7 c8 c9 c10 c11 c12 c13 c14 c15 c16 c17 c18 c19 c20 c21 c22 c23
 obtain ⟨c0, c1, c2, c3, c4, c5, c6, c7, c8, c9, c10, c11, c12, c13, c14, c15, c16, c17, c18, c19, c20, c21, c22, c23⟩ := c24 k
 go_wp2_with fail
 go_fit (R2.out _ bb)
 rintro e w9 ⟨rfl, b1⟩
 replace k := k.below b1
 replace bb := Below.after bb b1
 clear b1
 clear c0 c1 c2 c3 c4 c5 c6 c7 c8 c9 c10 c11 c12 c13 c14 c15 c16 c17 c18 c19 c20 c21 c22 c23
 go_wp2_with fail
 go_fit (HL.out _ bb)
 rintro e w10 ⟨rfl, b1⟩
 replace k := k.below b1
 replace bb := Below.after bb b1
 clear b1
 go_wp2
 go_ret
 exact ⟨rfl, bb⟩
set_option maxRecDepth 100000 in
set_option maxHeartbeats 16000000 in
theorem within5_ok (n0 n1 n2 n3 n4 n5 n6 n7 : Bool) (s0 d0 s1 d1 s2 d2 s3 d3 s4 d4 s5 d5 s6 d6 s7 d7 : ByteArray) (on : Bool) (o n : Int) (w : World) (ho : ¬ o = 0)
  (HS : Hid (∀ w1, Calls Tryz.prog 16 #[.agg #[.bool n0, .string s0, .string d0, .bool n1, .string s1, .string d1, .bool n2, .string s2, .string d2, .bool n3, .string s3, .string d3, .bool n4, .string s4, .string d4, .bool n5, .string s5, .string d5, .bool n6, .string s6, .string d6, .bool n7, .string s7, .string d7]] w1 fun e w' => e = .returned (.bool true) ∧ Below w1.heap.size w1 w'))
  (HL : Hid (∀ w1, Below w.heap.size w w1 → Calls Tryz.prog 17 #[] w1 fun e w' => e = .returned (.bool true) ∧ Below w1.heap.size w1 w'))
  (N1 : Hid (∀ w1, Below w.heap.size w w1 → Calls Tryz.prog 29 #[.agg #[.bool n0, .string s0, .string d0, .bool n1, .string s1, .string d1], .agg #[.bool n2, .string s2, .string d2, .bool n3, .string s3, .string d3], .agg #[.bool n6, .string s6, .string d6, .bool n7, .string s7, .string d7]] w1 fun e w' => e = .returned (.tuple #[.bool on, .int .i64 (0)]) ∧ Below w1.heap.size w1 w'))
  (W1 : Hid (∀ w1, Below w.heap.size w w1 → Calls Tryz.prog 30 #[.agg #[.bool n0, .string s0, .string d0, .bool n1, .string s1, .string d1], .agg #[.bool n2, .string s2, .string d2, .bool n3, .string s3, .string d3], .agg #[.bool n4, .string s4, .string d4, .bool n5, .string s5, .string d5], .agg #[.bool n6, .string s6, .string d6, .bool n7, .string s7, .string d7]] w1 fun e w' => e = .returned (.tuple #[.int .i64 (n), .int .i64 (0)]) ∧ Below w1.heap.size w1 w'))
  (A3 : Hid (∀ (w1 : World) (B : Nat), Below w.heap.size w w1 → Cel w1 B [.bool n0, .string s0, .string d0, .bool n1, .string s1, .string d1, .bool n2, .string s2, .string d2, .bool n3, .string s3, .string d3, .bool n6, .string s6, .string d6, .bool n7, .string s7, .string d7] 39 → Calls Tryz.prog 21 #[.slice (some ⟨B, 0, none⟩) 3 3] w1 fun e w' => e = .returned (.int .i64 (0)) ∧ Below w1.heap.size w1 w'))
  (A4 : Hid (∀ (w1 : World) (B : Nat), Below w.heap.size w w1 → Cel w1 B [.bool n0, .string s0, .string d0, .bool n1, .string s1, .string d1, .bool n2, .string s2, .string d2, .bool n3, .string s3, .string d3, .bool n4, .string s4, .string d4, .bool n5, .string s5, .string d5, .bool n6, .string s6, .string d6, .bool n7, .string s7, .string d7] 39 → Calls Tryz.prog 21 #[.slice (some ⟨B, 0, none⟩) 4 4] w1 fun e w' => e = .returned (.int .i64 (0)) ∧ Below w1.heap.size w1 w'))
  (R1 : Hid (∀ w1, Below w.heap.size w w1 → Calls Tryz.prog 31 #[.agg #[.bool n0, .string s0, .string d0, .bool n1, .string s1, .string d1], .agg #[.bool n2, .string s2, .string d2, .bool n3, .string s3, .string d3], .agg #[.bool n6, .string s6, .string d6, .bool n7, .string s7, .string d7]] w1 fun e w' => e = .returned (.bool on) ∧ Below w1.heap.size w1 w'))
  (R2 : Hid (∀ w1, Below w.heap.size w w1 → Calls Tryz.prog 22 #[.agg #[.bool n0, .string s0, .string d0, .bool n1, .string s1, .string d1], .agg #[.bool n2, .string s2, .string d2, .bool n3, .string s3, .string d3], .agg #[.bool n4, .string s4, .string d4, .bool n5, .string s5, .string d5]] w1 fun e w' => e = .returned (.int .i64 (o)) ∧ Below w1.heap.size w1 w'))
  (R3 : Hid (∀ w1, Below w.heap.size w w1 → Calls Tryz.prog 32 #[.agg #[.bool n0, .string s0, .string d0, .bool n1, .string s1, .string d1], .agg #[.bool n2, .string s2, .string d2, .bool n3, .string s3, .string d3], .agg #[.bool n4, .string s4, .string d4, .bool n5, .string s5, .string d5], .agg #[.bool n6, .string s6, .string d6, .bool n7, .string s7, .string d7]] w1 fun e w' => e = .returned (.int .i64 (n)) ∧ Below w1.heap.size w1 w')) :
  Calls Tryz.prog 6 #[.agg #[.bool n0, .string s0, .string d0, .bool n1, .string s1, .string d1, .bool n2, .string s2, .string d2, .bool n3, .string s3, .string d3, .bool n4, .string s4, .string d4, .bool n5, .string s5, .string d5, .bool n6, .string s6, .string d6, .bool n7, .string s7, .string d7]] w fun e w' => e = .returned (.bool true) ∧ Below w.heap.size w w' := by
 go_enter Tryz.func6, Tryz.ntmps6
 go_wp2_with (first | (refine wpList_load_row rfl 41 _ rfl w.heap.size rfl 41 _ (0, 0) _ (heap_alloc_new w _) Tryz.underlying41 rfl (by kernel_rfl) ?_) | fail)
 go_wp2_with fail
 go_fit (HS.out _)
 rintro e w1 ⟨rfl, b1⟩
 obtain ⟨k, bb⟩ := al1 b1
 clear b1
 obtain ⟨c0, c1, c2, c3, c4, c5, c6, c7, c8, c9, c10, c11, c12, c13, c14, c15, c16, c17, c18, c19, c20, c21, c22, c23⟩ := c24 k
 go_wp2_with fail
 go_fit (N1.out _ bb)
 rintro e w2 ⟨rfl, b1⟩
 replace k := k.below b1
 replace bb := Below.after bb b1
 clear b1
 clear c0 c1 c2 c3 c4 c5 c6 c7 c8 c9 c10 c11 c12 c13 c14 c15 c16 c17 c18 c19 c20 c21 c22 c23
 obtain ⟨c0, c1, c2, c3, c4, c5, c6, c7, c8, c9, c10, c11, c12, c13, c14, c15, c16, c17, c18, c19, c20, c21, c22, c23⟩ := c24 k
 go_wp2_with fail
 go_fit (W1.out _ bb)
 rintro e w3 ⟨rfl, b1⟩
 replace k := k.below b1
 replace bb := Below.after bb b1
 clear b1
 clear c0 c1 c2 c3 c4 c5 c6 c7 c8 c9 c10 c11 c12 c13 c14 c15 c16 c17 c18 c19 c20 c21 c22 c23
 obtain ⟨c0, c1, c2, c3, c4, c5, c6, c7, c8, c9, c10, c11, c12, c13, c14, c15, c16, c17, c18, c19, c20, c21, c22, c23⟩ := c24 k
 go_wp2_with fail
 obtain ⟨w4, hw, kl, b1⟩ := mk1 w3 [.bool n0, .string s0, .string d0, .bool n1, .string s1, .string d1, .bool n2, .string s2, .string d2, .bool n3, .string s3, .string d3, .bool n6, .string s6, .string d6, .bool n7, .string s7, .string d7] 39
 rw [← hw]
 clear hw
 replace k := k.below b1
 replace bb := Below.after bb b1
 clear b1
 clear c0 c1 c2 c3 c4 c5 c6 c7 c8 c9 c10 c11 c12 c13 c14 c15 c16 c17 c18 c19 c20 c21 c22 c23
 go_fit (A3.out _ _ bb kl)
 rintro e w5 ⟨rfl, b1⟩
 replace k := k.below b1
 replace bb := Below.after bb b1
 clear b1 kl
 obtain ⟨c0, c1, c2, c3, c4, c5, c6, c7, c8, c9, c10, c11, c12, c13, c14, c15, c16, c17, c18, c19, c20, c21, c22, c23⟩ := c24 k
 go_wp2_with fail
 obtain ⟨w6, hw, kl, b1⟩ := mk1 w5 [.bool n0, .string s0, .string d0, .bool n1, .string s1, .string d1, .bool n2, .string s2, .string d2, .bool n3, .string s3, .string d3, .bool n4, .string s4, .string d4, .bool n5, .string s5, .string d5, .bool n6, .string s6, .string d6, .bool n7, .string s7, .string d7] 39
 rw [← hw]
 clear hw
 replace k := k.below b1
 replace bb := Below.after bb b1
 clear b1
 clear c0 c1 c2 c3 c4 c5 c6 c7 c8 c9 c10 c11 c12 c13 c14 c15 c16 c17 c18 c19 c20 c21 c22 c23
 go_fit (A4.out _ _ bb kl)
 rintro e w7 ⟨rfl, b1⟩
 replace k := k.below b1
 replace bb := Below.after bb b1
 clear b1 kl
 obtain ⟨c0, c1, c2, c3, c4, c5, c6, c7, c8, c9, c10, c11, c12, c13, c14, c15, c16, c17, c18, c19, c20, c21, c22, c23⟩ := c24 k
 go_wp2_with fail
 go_fit (R1.out _ bb)
 rintro e w8 ⟨rfl, b1⟩
 replace k := k.below b1
 replace bb := Below.after bb b1
 clear b1
 clear c0 c1 c2 c3 c4 c5 c6 c7 c8 c9 c10 c11 c12 c13 c14 c15 c16 c17 c18 c19 c20 c21 c22 c23
 obtain ⟨c0, c1, c2, c3, c4, c5, c6, c7, c8, c9, c10, c11, c12, c13, c14, c15, c16, c17, c18, c19, c20, c21, c22, c23⟩ := c24 k
 go_wp2_with fail
 go_fit (R2.out _ bb)
 rintro e w9 ⟨rfl, b1⟩
 replace k := k.below b1
 replace bb := Below.after bb b1
 clear b1
 clear c0 c1 c2 c3 c4 c5 c6 c7 c8 c9 c10 c11 c12 c13 c14 c15 c16 c17 c18 c19 c20 c21 c22 c23
 obtain ⟨c0, c1, c2, c3, c4, c5, c6, c7, c8, c9, c10, c11, c12, c13, c14, c15, c16, c17, c18, c19, c20, c21, c22, c23⟩ := c24 k
 go_wp2_with fail
 go_fit (R3.out _ bb)
 rintro e w10 ⟨rfl, b1⟩
 replace k := k.below b1
 replace bb := Below.after bb b1
 clear b1
 clear c0 c1 c2 c3 c4 c5 c6 c7 c8 c9 c10 c11 c12 c13 c14 c15 c16 c17 c18 c19 c20 c21 c22 c23
 go_wp2_with fail
 go_fit (HL.out _ bb)
 rintro e w11 ⟨rfl, b1⟩
 replace k := k.below b1
 replace bb := Below.after bb b1
 clear b1
 go_wp2
 go_ret
 exact ⟨rfl, bb⟩
end Go.Proofs.YtgihiaaodkkkbaaGreatDoor
namespace Go.Proofs.YtgihiaaodkkkbaaGreatDoor
open Go.RowKit

theorem within5_law (n0 n1 n2 n3 n4 n5 n6 n7 : Bool) (s0 d0 s1 d1 s2 d2 s3 d3 s4 d4 s5 d5 s6 d6 s7 d7 : ByteArray) (w : World) (hT : Tab w) :
  Calls Tryz.prog 6 #[.agg #[.bool n0, .string s0, .string d0, .bool n1, .string s1, .string d1, .bool n2, .string s2, .string d2, .bool n3, .string s3, .string d3, .bool n4, .string s4, .string d4, .bool n5, .string s5, .string d5, .bool n6, .string s6, .string d6, .bool n7, .string s7, .string d7]] w fun e w' => e = .returned (.bool true) ∧ Below w.heap.size w w' := by
 have HL : Hid (∀ w1, Below w.heap.size w w1 → Calls Tryz.prog 17 #[] w1 fun e w' => e = .returned (.bool true) ∧ Below w1.heap.size w1 w') := fun w1 b => live5_any w1 (hT.below b)
 cases hb : (sh5 s0 d0 && (sh5 s1 d1 && (sh5 s2 d2 && (sh5 s3 d3 && (sh5 s4 d4 && (sh5 s5 d5 && (sh5 s6 d6 && sh5 s7 d7)))))))
 ·exact within5_l n0 n1 n2 n3 n4 n5 n6 n7 s0 d0 s1 d1 s2 d2 s3 d3 s4 d4 s5 d5 s6 d6 s7 d7 w (fun w1 => by have := small5_any n0 n1 n2 n3 n4 n5 n6 n7 s0 d0 s1 d1 s2 d2 s3 d3 s4 d4 s5 d5 s6 d6 s7 d7 w1; rwa [hb] at this) HL
 have HS : Hid (∀ w1, Calls Tryz.prog 16 #[.agg #[.bool n0, .string s0, .string d0, .bool n1, .string s1, .string d1, .bool n2, .string s2, .string d2, .bool n3, .string s3, .string d3, .bool n4, .string s4, .string d4, .bool n5, .string s5, .string d5, .bool n6, .string s6, .string d6, .bool n7, .string s7, .string d7]] w1 fun e w' => e = .returned (.bool true) ∧ Below w1.heap.size w1 w') := fun w1 => by have := small5_any n0 n1 n2 n3 n4 n5 n6 n7 s0 d0 s1 d1 s2 d2 s3 d3 s4 d4 s5 d5 s6 d6 s7 d7 w1; rwa [hb] at this
 simp only [Bool.and_eq_true] at hb
 obtain ⟨h0, h1, h2, h3, h4, h5, h6, h7⟩ := hb
 have y0 : s0.size ≤ 60 ∧ d0.size ≤ 60 := of_decide_eq_true h0
 have z0 : s0.size ≤ 100 ∧ d0.size ≤ 100 := ⟨Nat.le_trans y0.1 (by omega), Nat.le_trans y0.2 (by omega)⟩
 have y1 : s1.size ≤ 60 ∧ d1.size ≤ 60 := of_decide_eq_true h1
 have z1 : s1.size ≤ 100 ∧ d1.size ≤ 100 := ⟨Nat.le_trans y1.1 (by omega), Nat.le_trans y1.2 (by omega)⟩
 have y2 : s2.size ≤ 60 ∧ d2.size ≤ 60 := of_decide_eq_true h2
 have z2 : s2.size ≤ 100 ∧ d2.size ≤ 100 := ⟨Nat.le_trans y2.1 (by omega), Nat.le_trans y2.2 (by omega)⟩
 have y3 : s3.size ≤ 60 ∧ d3.size ≤ 60 := of_decide_eq_true h3
 have z3 : s3.size ≤ 100 ∧ d3.size ≤ 100 := ⟨Nat.le_trans y3.1 (by omega), Nat.le_trans y3.2 (by omega)⟩
 have y4 : s4.size ≤ 60 ∧ d4.size ≤ 60 := of_decide_eq_true h4
 have z4 : s4.size ≤ 100 ∧ d4.size ≤ 100 := ⟨Nat.le_trans y4.1 (by omega), Nat.le_trans y4.2 (by omega)⟩
 have y5 : s5.size ≤ 60 ∧ d5.size ≤ 60 := of_decide_eq_true h5
 have z5 : s5.size ≤ 100 ∧ d5.size ≤ 100 := ⟨Nat.le_trans y5.1 (by omega), Nat.le_trans y5.2 (by omega)⟩
 have y6 : s6.size ≤ 60 ∧ d6.size ≤ 60 := of_decide_eq_true h6
 have z6 : s6.size ≤ 100 ∧ d6.size ≤ 100 := ⟨Nat.le_trans y6.1 (by omega), Nat.le_trans y6.2 (by omega)⟩
 have y7 : s7.size ≤ 60 ∧ d7.size ≤ 60 := of_decide_eq_true h7
 have z7 : s7.size ≤ 100 ∧ d7.size ≤ 100 := ⟨Nat.le_trans y7.1 (by omega), Nat.le_trans y7.2 (by omega)⟩
 clear h0 h1 h2 h3 h4 h5 h6 h7
 by_cases h3 : two (two (twoq n0 s0 d0 n1 s1 d1) (twoq n2 s2 d2 n3 s3 d3)) (twoq n6 s6 d6 n7 s7 d7) = 0
 case neg =>
  have h4 : ¬ two (two (two (twoq n0 s0 d0 n1 s1 d1) (twoq n2 s2 d2 n3 s3 d3)) (twoq n4 s4 d4 n5 s5 d5)) (twoq n6 s6 d6 n7 s7 d7) = 0 := fun h => h3 (two_zero.2 ⟨(two_zero.1 (two_zero.1 h).1).1, (two_zero.1 h).2⟩)
  exact within5_bad3 n0 n1 n2 n3 n4 n5 n6 n7 s0 d0 s1 d1 s2 d2 s3 d3 s4 d4 s5 d5 s6 d6 s7 d7 ((two (two (twoq n0 s0 d0 n1 s1 d1) (twoq n2 s2 d2 n3 s3 d3)) (twoq n6 s6 d6 n7 s7 d7) : Nat) : Int) ((two (two (two (twoq n0 s0 d0 n1 s1 d1) (twoq n2 s2 d2 n3 s3 d3)) (twoq n4 s4 d4 n5 s5 d5)) (twoq n6 s6 d6 n7 s7 d7) : Nat) : Int) w (by omega) (by omega) HS HL (fun w1 b => gOn_er n0 n1 n2 n3 n6 n7 s0 d0 s1 d1 s2 d2 s3 d3 s6 d6 s7 d7 w1 (hT.below b) (z0) (z1) (z2) (z3) (z6) (z7) h3) (fun w1 b => gWithin_er n0 n1 n2 n3 n4 n5 n6 n7 s0 d0 s1 d1 s2 d2 s3 d3 s4 d4 s5 d5 s6 d6 s7 d7 w1 (hT.below b) (z0) (z1) (z2) (z3) (z4) (z5) (z6) (z7) h4) (fun w1 B b h => asked3 B n0 n1 n2 n3 n6 n7 s0 d0 s1 d1 s2 d2 s3 d3 s6 d6 s7 d7 w1 h (z0) (z1) (z2) (z3) (z6) (z7)) (fun w1 B b h => asked4 B n0 n1 n2 n3 n4 n5 n6 n7 s0 d0 s1 d1 s2 d2 s3 d3 s4 d4 s5 d5 s6 d6 s7 d7 w1 h (z0) (z1) (z2) (z3) (z4) (z5) (z6) (z7))
 have h3' := h3
 rw [two_zero, two_zero] at h3
 obtain ⟨⟨tA, tB⟩, tD⟩ := h3
 have wA := twoq_zero.1 tA
 have o0 := (chkq_zero wA.1).1
 have o1 := (chkq_zero wA.2).1
 clear wA
 have wB := twoq_zero.1 tB
 have o2 := (chkq_zero wB.1).1
 have o3 := (chkq_zero wB.2).1
 clear wB
 have wD := twoq_zero.1 tD
 have o6 := (chkq_zero wD.1).1
 have o7 := (chkq_zero wD.2).1
 clear wD
 obtain ⟨r0, rfl, rfl, rfl⟩ := okq_form o0
 have B0 : Bq r0 60 := by have := (okQ_qI r0).bq y0.1 y0.2; rwa [qOf_qI] at this
 clear o0
 obtain ⟨r1, rfl, rfl, rfl⟩ := okq_form o1
 have B1 : Bq r1 60 := by have := (okQ_qI r1).bq y1.1 y1.2; rwa [qOf_qI] at this
 clear o1
 obtain ⟨r2, rfl, rfl, rfl⟩ := okq_form o2
 have B2 : Bq r2 60 := by have := (okQ_qI r2).bq y2.1 y2.2; rwa [qOf_qI] at this
 clear o2
 obtain ⟨r3, rfl, rfl, rfl⟩ := okq_form o3
 have B3 : Bq r3 60 := by have := (okQ_qI r3).bq y3.1 y3.2; rwa [qOf_qI] at this
 clear o3
 obtain ⟨r6, rfl, rfl, rfl⟩ := okq_form o6
 have B6 : Bq r6 60 := by have := (okQ_qI r6).bq y6.1 y6.2; rwa [qOf_qI] at this
 clear o6
 obtain ⟨r7, rfl, rfl, rfl⟩ := okq_form o7
 have B7 : Bq r7 60 := by have := (okQ_qI r7).bq y7.1 y7.2; rwa [qOf_qI] at this
 clear o7
 have hN : Hid (∀ w1, Below w.heap.size w w1 → Calls Tryz.prog 29 #[.agg #[.bool (nfZ r0.num), .string (sfZ r0.num), .string (strOf r0.den), .bool (nfZ r1.num), .string (sfZ r1.num), .string (strOf r1.den)], .agg #[.bool (nfZ r2.num), .string (sfZ r2.num), .string (strOf r2.den), .bool (nfZ r3.num), .string (sfZ r3.num), .string (strOf r3.den)], .agg #[.bool (nfZ r6.num), .string (sfZ r6.num), .string (strOf r6.den), .bool (nfZ r7.num), .string (sfZ r7.num), .string (strOf r7.den)]] w1 fun e w' => e = .returned (.tuple #[.bool (onB (Gm.cr r0 r1 r2 r3 r6 r7) (Gm.dt r0 r1 r2 r3 r6 r7)), .int .i64 0]) ∧ Below w1.heap.size w1 w') := fun w1 b => by
  have := gOn_an (nfZ r0.num) (nfZ r1.num) (nfZ r2.num) (nfZ r3.num) (nfZ r6.num) (nfZ r7.num) (sfZ r0.num) (strOf r0.den) (sfZ r1.num) (strOf r1.den) (sfZ r2.num) (strOf r2.den) (sfZ r3.num) (strOf r3.den) (sfZ r6.num) (strOf r6.den) (sfZ r7.num) (strOf r7.den) w1 (hT.below b) (z0) (z1) (z2) (z3) (z6) (z7) (two_zero.2 ⟨(two_zero.2 ⟨tA, tB⟩), tD⟩)
  simp only [qOf_one] at this
  exact this
 by_cases hC4 : (twoq n4 s4 d4 n5 s5 d5) = 0
 case neg =>
  have h4 : ¬ two (two (two (twoq (nfZ r0.num) (sfZ r0.num) (strOf r0.den) (nfZ r1.num) (sfZ r1.num) (strOf r1.den)) (twoq (nfZ r2.num) (sfZ r2.num) (strOf r2.den) (nfZ r3.num) (sfZ r3.num) (strOf r3.den))) (twoq n4 s4 d4 n5 s5 d5)) (twoq (nfZ r6.num) (sfZ r6.num) (strOf r6.den) (nfZ r7.num) (sfZ r7.num) (strOf r7.den)) = 0 := fun h => hC4 (two_zero.1 (two_zero.1 h).1).2
  exact within5_bad4 (nfZ r0.num) (nfZ r1.num) (nfZ r2.num) (nfZ r3.num) n4 n5 (nfZ r6.num) (nfZ r7.num) (sfZ r0.num) (strOf r0.den) (sfZ r1.num) (strOf r1.den) (sfZ r2.num) (strOf r2.den) (sfZ r3.num) (strOf r3.den) s4 d4 s5 d5 (sfZ r6.num) (strOf r6.den) (sfZ r7.num) (strOf r7.den) _ ((two (two (two (twoq (nfZ r0.num) (sfZ r0.num) (strOf r0.den) (nfZ r1.num) (sfZ r1.num) (strOf r1.den)) (twoq (nfZ r2.num) (sfZ r2.num) (strOf r2.den) (nfZ r3.num) (sfZ r3.num) (strOf r3.den))) (twoq n4 s4 d4 n5 s5 d5)) (twoq (nfZ r6.num) (sfZ r6.num) (strOf r6.den) (nfZ r7.num) (sfZ r7.num) (strOf r7.den)) : Nat) : Int) w (by omega) HS HL hN (fun w1 b => gWithin_er (nfZ r0.num) (nfZ r1.num) (nfZ r2.num) (nfZ r3.num) n4 n5 (nfZ r6.num) (nfZ r7.num) (sfZ r0.num) (strOf r0.den) (sfZ r1.num) (strOf r1.den) (sfZ r2.num) (strOf r2.den) (sfZ r3.num) (strOf r3.den) s4 d4 s5 d5 (sfZ r6.num) (strOf r6.den) (sfZ r7.num) (strOf r7.den) w1 (hT.below b) (z0) (z1) (z2) (z3) (z4) (z5) (z6) (z7) h4) (fun w1 B b h => by have := asked3 B (nfZ r0.num) (nfZ r1.num) (nfZ r2.num) (nfZ r3.num) (nfZ r6.num) (nfZ r7.num) (sfZ r0.num) (strOf r0.den) (sfZ r1.num) (strOf r1.den) (sfZ r2.num) (strOf r2.den) (sfZ r3.num) (strOf r3.den) (sfZ r6.num) (strOf r6.den) (sfZ r7.num) (strOf r7.den) w1 h (z0) (z1) (z2) (z3) (z6) (z7); rwa [h3'] at this) (fun w1 B b h => asked4 B (nfZ r0.num) (nfZ r1.num) (nfZ r2.num) (nfZ r3.num) n4 n5 (nfZ r6.num) (nfZ r7.num) (sfZ r0.num) (strOf r0.den) (sfZ r1.num) (strOf r1.den) (sfZ r2.num) (strOf r2.den) (sfZ r3.num) (strOf r3.den) s4 d4 s5 d5 (sfZ r6.num) (strOf r6.den) (sfZ r7.num) (strOf r7.den) w1 h (z0) (z1) (z2) (z3) (z4) (z5) (z6) (z7)) (fun w1 _ => ronI r0 r1 r2 r3 r6 r7 (K := 60) (by omega) B0 B1 B2 B3 B6 B7 w1)
 have tC := hC4
 have hE' : two (two (two (twoq (nfZ r0.num) (sfZ r0.num) (strOf r0.den) (nfZ r1.num) (sfZ r1.num) (strOf r1.den)) (twoq (nfZ r2.num) (sfZ r2.num) (strOf r2.den) (nfZ r3.num) (sfZ r3.num) (strOf r3.den))) (twoq n4 s4 d4 n5 s5 d5)) (twoq (nfZ r6.num) (sfZ r6.num) (strOf r6.den) (nfZ r7.num) (sfZ r7.num) (strOf r7.den)) = 0 := two_zero.2 ⟨two_zero.2 ⟨two_zero.2 ⟨tA, tB⟩, tC⟩, tD⟩
 have wC := twoq_zero.1 tC
 have o4 := (chkq_zero wC.1).1
 have o5 := (chkq_zero wC.2).1
 clear wC
 obtain ⟨r4, rfl, rfl, rfl⟩ := okq_form o4
 have B4 : Bq r4 60 := by have := (okQ_qI r4).bq y4.1 y4.2; rwa [qOf_qI] at this
 clear o4
 obtain ⟨r5, rfl, rfl, rfl⟩ := okq_form o5
 have B5 : Bq r5 60 := by have := (okQ_qI r5).bq y5.1 y5.2; rwa [qOf_qI] at this
 clear o5
 by_cases h0 : Gm.sg (Gm.cr r0 r1 r2 r3 r4 r5) = 0
 ·refine within5_flat (nfZ r0.num) (nfZ r1.num) (nfZ r2.num) (nfZ r3.num) (nfZ r4.num) (nfZ r5.num) (nfZ r6.num) (nfZ r7.num) (sfZ r0.num) (strOf r0.den) (sfZ r1.num) (strOf r1.den) (sfZ r2.num) (strOf r2.den) (sfZ r3.num) (strOf r3.den) (sfZ r4.num) (strOf r4.den) (sfZ r5.num) (strOf r5.den) (sfZ r6.num) (strOf r6.den) (sfZ r7.num) (strOf r7.den) _ w HS HL hN (fun w1 b => ?_) (fun w1 B b h => by have := asked3 B (nfZ r0.num) (nfZ r1.num) (nfZ r2.num) (nfZ r3.num) (nfZ r6.num) (nfZ r7.num) (sfZ r0.num) (strOf r0.den) (sfZ r1.num) (strOf r1.den) (sfZ r2.num) (strOf r2.den) (sfZ r3.num) (strOf r3.den) (sfZ r6.num) (strOf r6.den) (sfZ r7.num) (strOf r7.den) w1 h (z0) (z1) (z2) (z3) (z6) (z7); rwa [h3'] at this) (fun w1 B b h => by have := asked4 B (nfZ r0.num) (nfZ r1.num) (nfZ r2.num) (nfZ r3.num) (nfZ r4.num) (nfZ r5.num) (nfZ r6.num) (nfZ r7.num) (sfZ r0.num) (strOf r0.den) (sfZ r1.num) (strOf r1.den) (sfZ r2.num) (strOf r2.den) (sfZ r3.num) (strOf r3.den) (sfZ r4.num) (strOf r4.den) (sfZ r5.num) (strOf r5.den) (sfZ r6.num) (strOf r6.den) (sfZ r7.num) (strOf r7.den) w1 h (z0) (z1) (z2) (z3) (z4) (z5) (z6) (z7); rwa [hE'] at this) (fun w1 _ => ronI r0 r1 r2 r3 r6 r7 (K := 60) (by omega) B0 B1 B2 B3 B6 B7 w1) (fun w1 _ => by have := rorientI r0 r1 r2 r3 r4 r5 (K := 60) (by omega) B0 B1 B2 B3 B4 B5 w1; rwa [h0] at this)
  have := gWithin_an (nfZ r0.num) (nfZ r1.num) (nfZ r2.num) (nfZ r3.num) (nfZ r4.num) (nfZ r5.num) (nfZ r6.num) (nfZ r7.num) (sfZ r0.num) (strOf r0.den) (sfZ r1.num) (strOf r1.den) (sfZ r2.num) (strOf r2.den) (sfZ r3.num) (strOf r3.den) (sfZ r4.num) (strOf r4.den) (sfZ r5.num) (strOf r5.den) (sfZ r6.num) (strOf r6.den) (sfZ r7.num) (strOf r7.den) w1 (hT.below b) (z0) (z1) (z2) (z3) (z4) (z5) (z6) (z7) (two_zero.2 ⟨(two_zero.2 ⟨(two_zero.2 ⟨tA, tB⟩), tC⟩), tD⟩)
  simp only [qOf_one] at this
  rwa [if_pos h0] at this
 ·refine within5_ok (nfZ r0.num) (nfZ r1.num) (nfZ r2.num) (nfZ r3.num) (nfZ r4.num) (nfZ r5.num) (nfZ r6.num) (nfZ r7.num) (sfZ r0.num) (strOf r0.den) (sfZ r1.num) (strOf r1.den) (sfZ r2.num) (strOf r2.den) (sfZ r3.num) (strOf r3.den) (sfZ r4.num) (strOf r4.den) (sfZ r5.num) (strOf r5.den) (sfZ r6.num) (strOf r6.den) (sfZ r7.num) (strOf r7.den) _ _ (mn3 (Gm.sg (Gm.cr r0 r1 r2 r3 r4 r5) * Gm.sg (Gm.cr r0 r1 r2 r3 r6 r7)) (Gm.sg (Gm.cr r0 r1 r2 r3 r4 r5) * Gm.sg (Gm.cr r2 r3 r4 r5 r6 r7)) (Gm.sg (Gm.cr r0 r1 r2 r3 r4 r5) * Gm.sg (Gm.cr r4 r5 r0 r1 r6 r7))) w h0 HS HL hN (fun w1 b => ?_) (fun w1 B b h => by have := asked3 B (nfZ r0.num) (nfZ r1.num) (nfZ r2.num) (nfZ r3.num) (nfZ r6.num) (nfZ r7.num) (sfZ r0.num) (strOf r0.den) (sfZ r1.num) (strOf r1.den) (sfZ r2.num) (strOf r2.den) (sfZ r3.num) (strOf r3.den) (sfZ r6.num) (strOf r6.den) (sfZ r7.num) (strOf r7.den) w1 h (z0) (z1) (z2) (z3) (z6) (z7); rwa [h3'] at this) (fun w1 B b h => by have := asked4 B (nfZ r0.num) (nfZ r1.num) (nfZ r2.num) (nfZ r3.num) (nfZ r4.num) (nfZ r5.num) (nfZ r6.num) (nfZ r7.num) (sfZ r0.num) (strOf r0.den) (sfZ r1.num) (strOf r1.den) (sfZ r2.num) (strOf r2.den) (sfZ r3.num) (strOf r3.den) (sfZ r4.num) (strOf r4.den) (sfZ r5.num) (strOf r5.den) (sfZ r6.num) (strOf r6.den) (sfZ r7.num) (strOf r7.den) w1 h (z0) (z1) (z2) (z3) (z4) (z5) (z6) (z7); rwa [hE'] at this) (fun w1 _ => ronI r0 r1 r2 r3 r6 r7 (K := 60) (by omega) B0 B1 B2 B3 B6 B7 w1) (fun w1 _ => rorientI r0 r1 r2 r3 r4 r5 (K := 60) (by omega) B0 B1 B2 B3 B4 B5 w1) (fun w1 _ => rwithinI r0 r1 r2 r3 r4 r5 r6 r7 (K := 60) (by omega) B0 B1 B2 B3 B4 B5 B6 B7 w1)
  have := gWithin_an (nfZ r0.num) (nfZ r1.num) (nfZ r2.num) (nfZ r3.num) (nfZ r4.num) (nfZ r5.num) (nfZ r6.num) (nfZ r7.num) (sfZ r0.num) (strOf r0.den) (sfZ r1.num) (strOf r1.den) (sfZ r2.num) (strOf r2.den) (sfZ r3.num) (strOf r3.den) (sfZ r4.num) (strOf r4.den) (sfZ r5.num) (strOf r5.den) (sfZ r6.num) (strOf r6.den) (sfZ r7.num) (strOf r7.den) w1 (hT.below b) (z0) (z1) (z2) (z3) (z4) (z5) (z6) (z7) (two_zero.2 ⟨(two_zero.2 ⟨(two_zero.2 ⟨tA, tB⟩), tC⟩), tD⟩)
  simp only [qOf_one] at this
  rwa [if_neg h0] at this
end Go.Proofs.YtgihiaaodkkkbaaGreatDoor
