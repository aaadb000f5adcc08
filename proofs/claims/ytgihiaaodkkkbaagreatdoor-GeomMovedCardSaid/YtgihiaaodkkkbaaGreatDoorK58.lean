/-
  gussetlaw05: at, short, small.
  gussetlaw05: live.
-/
import Derived.Test.YtgihiaaodkkkbaaGreatDoorK39
import Derived.Test.YtgihiaaodkkkbaaGreatDoorK41
import Derived.Test.YtgihiaaodkkkbaaGreatDoorK55
namespace Go.Proofs.YtgihiaaodkkkbaaGreatDoor
open Go.RowKit

set_option maxRecDepth 100000 in
set_option maxHeartbeats 2000000 in
theorem lat5_any (x y : Int) (h1 : -1000 ≤ x) (h2 : x ≤ 1000) (h3 : -1000 ≤ y) (h4 : y ≤ 1000) (w : World) :
  Calls Tryz.prog 46 #[.int .i64 x, .int .i64 y] w fun e w' => e = .returned (.agg #[.bool (nfZ x), .string (sfZ x), .string ⟨#[1]⟩, .bool (nfZ y), .string (sfZ y), .string ⟨#[1]⟩]) ∧ Below w.heap.size w w' := by
 have H1 := shut (fun w => roq_any x h1 h2 w)
 have H2 := shut (fun w => roq_any y h3 h4 w)
 clear h1 h2 h3 h4
 go_enter Tryz.func46, Tryz.ntmps46
 go_wp2_with fail
 go_fit (H1.out _)
 rintro e w1 ⟨rfl, b1⟩
 obtain ⟨kr, bb⟩ := al1 b1
 clear b1
 go_wp2_with fail
 go_fit (H2.out _)
 rintro e w2 ⟨rfl, b1⟩
 replace kr := kr.below b1
 replace bb := Below.after bb b1
 clear b1
 have f0 := Cel.frozen kr 0
 have f1 := Cel.frozen kr 1
 have f2 := Cel.frozen kr 2
 have f3 := Cel.frozen kr 3
 have f4 := Cel.frozen kr 4
 have f5 := Cel.frozen kr 5
 have r0 := cel6_0 kr
 have r1 := cel6_1 kr
 have r2 := cel6_2 kr
 have r3 := cel6_3 kr
 have r4 := cel6_4 kr
 have r5 := cel6_5 kr
 go_wp2
 exact post_p (p := 4) (by kernel_rfl) rfl rfl (kr.set6 _ _ _ _ _ _) ⟨rfl, bset6 bb (Nat.le_refl _) _ _ _ _ _ _⟩
/-- Few bytes. -/
def sh5 (s d : ByteArray) : Bool := decide (s.size ≤ 60 ∧ d.size ≤ 60)
set_option maxRecDepth 100000 in
set_option maxHeartbeats 2000000 in
theorem short5_any (n : Bool) (s d : ByteArray) (w : World) :
  Calls Tryz.prog 45 #[.agg #[.bool n, .string s, .string d]] w fun e w' => e = .returned (.bool (sh5 s d)) ∧ Below w.heap.size w w' := by
 by_cases hs : s.size ≤ 60
 ·by_cases hd : d.size ≤ 60
  ·have e : Hid (sh5 s d = true) := decide_eq_true ⟨hs, hd⟩
   have i1 : (s.size : Int) ≤ 60 := by omega
   have i2 : (d.size : Int) ≤ 60 := by omega
   go_enter Tryz.func45, Tryz.ntmps45
   go_wp2
   go_ret
   exact ⟨by rw [e.out]; rfl, bel_al _ _⟩
  ·have e : Hid (sh5 s d = false) := decide_eq_false fun h => hd h.2
   have i1 : (s.size : Int) ≤ 60 := by omega
   have i2 : ¬ (d.size : Int) ≤ 60 := by omega
   go_enter Tryz.func45, Tryz.ntmps45
   go_wp2
   go_ret
   exact ⟨by rw [e.out]; rfl, bel_al _ _⟩
 ·have e : Hid (sh5 s d = false) := decide_eq_false fun h => hs h.1
  have i1 : ¬ (s.size : Int) ≤ 60 := by omega
  go_enter Tryz.func45, Tryz.ntmps45
  go_wp2
  go_ret
  exact ⟨by rw [e.out]; rfl, bel_al _ _⟩
theorem c24 {w : World} {g : Nat} {t : TypeId} {x0 x1 x2 x3 x4 x5 x6 x7 x8 x9 x10 x11 x12 x13 x14 x15 x16 x17 x18 x19 x20 x21 x22 x23 : Value} (h : Cel w g [x0, x1, x2, x3, x4, x5, x6, x7, x8, x9, x10, x11, x12, x13, x14, x15, x16, x17, x18, x19, x20, x21, x22, x23] t) : w.cell? ⟨g, 0, none⟩ = some x0 ∧ w.cell? ⟨g, 1, none⟩ = some x1 ∧ w.cell? ⟨g, 2, none⟩ = some x2 ∧ w.cell? ⟨g, 3, none⟩ = some x3 ∧ w.cell? ⟨g, 4, none⟩ = some x4 ∧ w.cell? ⟨g, 5, none⟩ = some x5 ∧ w.cell? ⟨g, 6, none⟩ = some x6 ∧ w.cell? ⟨g, 7, none⟩ = some x7 ∧ w.cell? ⟨g, 8, none⟩ = some x8 ∧ w.cell? ⟨g, 9, none⟩ = some x9 ∧ w.cell? ⟨g, 10, none⟩ = some x10 ∧ w.cell? ⟨g, 11, none⟩ = some x11 ∧ w.cell? ⟨g, 12, none⟩ = some x12 ∧ w.cell? ⟨g, 13, none⟩ = some x13 ∧ w.cell? ⟨g, 14, none⟩ = some x14 ∧ w.cell? ⟨g, 15, none⟩ = some x15 ∧ w.cell? ⟨g, 16, none⟩ = some x16 ∧ w.cell? ⟨g, 17, none⟩ = some x17 ∧ w.cell? ⟨g, 18, none⟩ = some x18 ∧ w.cell? ⟨g, 19, none⟩ = some x19 ∧ w.cell? ⟨g, 20, none⟩ = some x20 ∧ w.cell? ⟨g, 21, none⟩ = some x21 ∧ w.cell? ⟨g, 22, none⟩ = some x22 ∧ w.cell? ⟨g, 23, none⟩ = some x23 :=
 ⟨h.cell 0, h.cell 1, h.cell 2, h.cell 3, h.cell 4, h.cell 5, h.cell 6, h.cell 7, h.cell 8, h.cell 9, h.cell 10, h.cell 11, h.cell 12, h.cell 13, h.cell 14, h.cell 15, h.cell 16, h.cell 17, h.cell 18, h.cell 19, h.cell 20, h.cell 21, h.cell 22, h.cell 23⟩
set_option maxRecDepth 100000 in
set_option maxHeartbeats 8000000 in
theorem small5_walk (n0 n1 n2 n3 n4 n5 n6 n7 : Bool) (s0 d0 s1 d1 s2 d2 s3 d3 s4 d4 s5 d5 s6 d6 s7 d7 : ByteArray) (B0 B1 B2 B3 B4 B5 B6 B7 : Bool) (w : World)
  (H0 : Hid (∀ w1, Calls Tryz.prog 45 #[.agg #[.bool n0, .string s0, .string d0]] w1 fun e w' => e = .returned (.bool B0) ∧ Below w1.heap.size w1 w'))
  (H1 : Hid (∀ w1, Calls Tryz.prog 45 #[.agg #[.bool n1, .string s1, .string d1]] w1 fun e w' => e = .returned (.bool B1) ∧ Below w1.heap.size w1 w'))
  (H2 : Hid (∀ w1, Calls Tryz.prog 45 #[.agg #[.bool n2, .string s2, .string d2]] w1 fun e w' => e = .returned (.bool B2) ∧ Below w1.heap.size w1 w'))
  (H3 : Hid (∀ w1, Calls Tryz.prog 45 #[.agg #[.bool n3, .string s3, .string d3]] w1 fun e w' => e = .returned (.bool B3) ∧ Below w1.heap.size w1 w'))
  (H4 : Hid (∀ w1, Calls Tryz.prog 45 #[.agg #[.bool n4, .string s4, .string d4]] w1 fun e w' => e = .returned (.bool B4) ∧ Below w1.heap.size w1 w'))
  (H5 : Hid (∀ w1, Calls Tryz.prog 45 #[.agg #[.bool n5, .string s5, .string d5]] w1 fun e w' => e = .returned (.bool B5) ∧ Below w1.heap.size w1 w'))
  (H6 : Hid (∀ w1, Calls Tryz.prog 45 #[.agg #[.bool n6, .string s6, .string d6]] w1 fun e w' => e = .returned (.bool B6) ∧ Below w1.heap.size w1 w'))
  (H7 : Hid (∀ w1, Calls Tryz.prog 45 #[.agg #[.bool n7, .string s7, .string d7]] w1 fun e w' => e = .returned (.bool B7) ∧ Below w1.heap.size w1 w')) :
  Calls Tryz.prog 16 #[.agg #[.bool n0, .string s0, .string d0, .bool n1, .string s1, .string d1, .bool n2, .string s2, .string d2, .bool n3, .string s3, .string d3, .bool n4, .string s4, .string d4, .bool n5, .string s5, .string d5, .bool n6, .string s6, .string d6, .bool n7, .string s7, .string d7]] w fun e w' => e = .returned (.bool (B0 && (B1 && (B2 && (B3 && (B4 && (B5 && (B6 && B7)))))))) ∧ Below w.heap.size w w' := by
 go_enter Tryz.func16, Tryz.ntmps16
 go_wp2_with fail
 go_fit (H0.out _)
 rintro e w0 ⟨rfl, b1⟩
 obtain ⟨k, bb⟩ := al1 b1
 clear b1
 cases B0 with
 | false =>
  go_wp2
  go_ret
  exact ⟨by simp only [Bool.false_and]; rfl, bb⟩
 | true =>
 obtain ⟨c0, c1, c2, c3, c4, c5, c6, c7, c8, c9, c10, c11, c12, c13, c14, c15, c16, c17, c18, c19, c20, c21, c22, c23⟩ := c24 k
 go_wp2_with fail
 go_fit (H1.out _)
 rintro e w1 ⟨rfl, b1⟩
 replace k := k.below b1
 replace bb := Below.after bb b1
 clear b1
 clear c0 c1 c2 c3 c4 c5 c6 c7 c8 c9 c10 c11 c12 c13 c14 c15 c16 c17 c18 c19 c20 c21 c22 c23
 cases B1 with
 | false =>
  go_wp2
  go_ret
  exact ⟨by simp only [Bool.true_and, Bool.false_and]; rfl, bb⟩
 | true =>
 obtain ⟨c0, c1, c2, c3, c4, c5, c6, c7, c8, c9, c10, c11, c12, c13, c14, c15, c16, c17, c18, c19, c20, c21, c22, c23⟩ := c24 k
 go_wp2_with fail
 go_fit (H2.out _)
 rintro e w2 ⟨rfl, b1⟩
 replace k := k.below b1
 replace bb := Below.after bb b1
 clear b1
 clear c0 c1 c2 c3 c4 c5 c6 c7 c8 c9 c10 c11 c12 c13 c14 c15 c16 c17 c18 c19 c20 c21 c22 c23
 cases B2 with
 | false =>
  go_wp2
  go_ret
  exact ⟨by simp only [Bool.true_and, Bool.false_and]; rfl, bb⟩
 | true =>
 obtain ⟨c0, c1, c2, c3, c4, c5, c6, c7, c8, c9, c10, c11, c12, c13, c14, c15, c16, c17, c18, c19, c20, c21, c22, c23⟩ := c24 k
 go_wp2_with fail
 go_fit (H3.out _)
 rintro e w3 ⟨rfl, b1⟩
 replace k := k.below b1
 replace bb := Below.after bb b1
 clear b1
 clear c0 c1 c2 c3 c4 c5 c6 c7 c8 c9 c10 c11 c12 c13 c14 c15 c16 c17 c18 c19 c20 c21 c22 c23
 cases B3 with
 | false =>
  go_wp2
  go_ret
  exact ⟨by simp only [Bool.true_and, Bool.false_and]; rfl, bb⟩
 | true =>
 obtain ⟨c0, c1, c2, c3, c4, c5, c6, c7, c8, c9, c10, c11, c12, c13, c14, c15, c16, c17, c18, c19, c20, c21, c22, c23⟩ := c24 k
 go_wp2_with fail
 go_fit (H4.out _)
 rintro e w4 ⟨rfl, b1⟩
 replace k := k.below b1
 replace bb := Below.after bb b1
 clear b1
 clear c0 c1 c2 c3 c4 c5 c6 c7 c8 c9 c10 c11 c12 c13 c14 c15 c16 c17 c18 c19 c20 c21 c22 c23
 cases B4 with
 | false =>
  go_wp2
  go_ret
  exact ⟨by simp only [Bool.true_and, Bool.false_and]; rfl, bb⟩
 | true =>
 obtain ⟨c0, c1, c2, c3, c4, c5, c6, c7, c8, c9, c10, c11, c12, c13, c14, c15, c16, c17, c18, c19, c20, c21, c22, c23⟩ := c24 k
 go_wp2_with fail
 go_fit (H5.out _)
 rintro e w5 ⟨rfl, b1⟩
 replace k := k.below b1
 replace bb := Below.after bb b1
 clear b1
 clear c0 c1 c2 c3 c4 c5 c6 c7 c8 c9 c10 c11 c12 c13 c14 c15 c16 c17 c18 c19 c20 c21 c22 c23
 cases B5 with
 | false =>
  go_wp2
  go_ret
  exact ⟨by simp only [Bool.true_and, Bool.false_and]; rfl, bb⟩
 | true =>
 obtain ⟨c0, c1, c2, c3, c4, c5, c6, c7, c8, c9, c10, c11, c12, c13, c14, c15, c16, c17, c18, c19, c20, c21, c22, c23⟩ := c24 k
 go_wp2_with fail
 go_fit (H6.out _)
 rintro e w6 ⟨rfl, b1⟩
 replace k := k.below b1
 replace bb := Below.after bb b1
 clear b1
 clear c0 c1 c2 c3 c4 c5 c6 c7 c8 c9 c10 c11 c12 c13 c14 c15 c16 c17 c18 c19 c20 c21 c22 c23
 cases B6 with
 | false =>
  go_wp2
  go_ret
  exact ⟨by simp only [Bool.true_and, Bool.false_and]; rfl, bb⟩
 | true =>
 obtain ⟨c0, c1, c2, c3, c4, c5, c6, c7, c8, c9, c10, c11, c12, c13, c14, c15, c16, c17, c18, c19, c20, c21, c22, c23⟩ := c24 k
 go_wp2_with fail
 go_fit (H7.out _)
 rintro e w7 ⟨rfl, b1⟩
 replace k := k.below b1
 replace bb := Below.after bb b1
 clear b1
 clear c0 c1 c2 c3 c4 c5 c6 c7 c8 c9 c10 c11 c12 c13 c14 c15 c16 c17 c18 c19 c20 c21 c22 c23
 go_wp2
 go_ret
 exact ⟨by simp only [Bool.true_and]; rfl, bb⟩
theorem small5_any (n0 n1 n2 n3 n4 n5 n6 n7 : Bool) (s0 d0 s1 d1 s2 d2 s3 d3 s4 d4 s5 d5 s6 d6 s7 d7 : ByteArray) (w : World) :
  Calls Tryz.prog 16 #[.agg #[.bool n0, .string s0, .string d0, .bool n1, .string s1, .string d1, .bool n2, .string s2, .string d2, .bool n3, .string s3, .string d3, .bool n4, .string s4, .string d4, .bool n5, .string s5, .string d5, .bool n6, .string s6, .string d6, .bool n7, .string s7, .string d7]] w fun e w' => e = .returned (.bool (sh5 s0 d0 && (sh5 s1 d1 && (sh5 s2 d2 && (sh5 s3 d3 && (sh5 s4 d4 && (sh5 s5 d5 && (sh5 s6 d6 && sh5 s7 d7)))))))) ∧ Below w.heap.size w w' :=
 small5_walk n0 n1 n2 n3 n4 n5 n6 n7 s0 d0 s1 d1 s2 d2 s3 d3 s4 d4 s5 d5 s6 d6 s7 d7 _ _ _ _ _ _ _ _ w (fun w1 => short5_any n0 s0 d0 w1) (fun w1 => short5_any n1 s1 d1 w1) (fun w1 => short5_any n2 s2 d2 w1) (fun w1 => short5_any n3 s3 d3 w1) (fun w1 => short5_any n4 s4 d4 w1) (fun w1 => short5_any n5 s5 d5 w1) (fun w1 => short5_any n6 s6 d6 w1) (fun w1 => short5_any n7 s7 d7 w1)
end Go.Proofs.YtgihiaaodkkkbaaGreatDoor
namespace Go.Proofs.YtgihiaaodkkkbaaGreatDoor
open Go.RowKit

set_option maxRecDepth 100000 in
set_option maxHeartbeats 8000000 in
theorem live5_walk (n10 n11 n12 n13 n14 n15 n16 n17 n18 n19 n20 n21 n22 n23 : Bool) (s10 d10 s11 d11 s12 d12 s13 d13 s14 d14 s15 d15 s16 d16 s17 d17 s18 d18 s19 d19 s20 d20 s21 d21 s22 d22 s23 d23 : ByteArray) (w : World)
  (A00 : Hid (∀ w1, Calls Tryz.prog 46 #[.int .i64 0, .int .i64 0] w1 fun e w' => e = .returned (.agg #[.bool n10, .string s10, .string d10, .bool n11, .string s11, .string d11]) ∧ Below w1.heap.size w1 w'))
  (A20 : Hid (∀ w1, Calls Tryz.prog 46 #[.int .i64 2, .int .i64 0] w1 fun e w' => e = .returned (.agg #[.bool n12, .string s12, .string d12, .bool n13, .string s13, .string d13]) ∧ Below w1.heap.size w1 w'))
  (A02 : Hid (∀ w1, Calls Tryz.prog 46 #[.int .i64 0, .int .i64 2] w1 fun e w' => e = .returned (.agg #[.bool n14, .string s14, .string d14, .bool n15, .string s15, .string d15]) ∧ Below w1.heap.size w1 w'))
  (A11 : Hid (∀ w1, Calls Tryz.prog 46 #[.int .i64 1, .int .i64 1] w1 fun e w' => e = .returned (.agg #[.bool n16, .string s16, .string d16, .bool n17, .string s17, .string d17]) ∧ Below w1.heap.size w1 w'))
  (A22 : Hid (∀ w1, Calls Tryz.prog 46 #[.int .i64 2, .int .i64 2] w1 fun e w' => e = .returned (.agg #[.bool n18, .string s18, .string d18, .bool n19, .string s19, .string d19]) ∧ Below w1.heap.size w1 w'))
  (A10 : Hid (∀ w1, Calls Tryz.prog 46 #[.int .i64 1, .int .i64 0] w1 fun e w' => e = .returned (.agg #[.bool n20, .string s20, .string d20, .bool n21, .string s21, .string d21]) ∧ Below w1.heap.size w1 w'))
  (A01 : Hid (∀ w1, Calls Tryz.prog 46 #[.int .i64 0, .int .i64 1] w1 fun e w' => e = .returned (.agg #[.bool n22, .string s22, .string d22, .bool n23, .string s23, .string d23]) ∧ Below w1.heap.size w1 w'))
  (C1 : Hid (∀ w1, Below w.heap.size w w1 → Calls Tryz.prog 20 #[.agg #[.bool n10, .string s10, .string d10, .bool n11, .string s11, .string d11], .agg #[.bool n12, .string s12, .string d12, .bool n13, .string s13, .string d13], .agg #[.bool n14, .string s14, .string d14, .bool n15, .string s15, .string d15], .agg #[.bool n16, .string s16, .string d16, .bool n17, .string s17, .string d17]] w1 fun e w' => e = .returned (.tuple #[.int .i64 1, .int .i64 0]) ∧ Below w1.heap.size w1 w'))
  (C2 : Hid (∀ w1, Below w.heap.size w w1 → Calls Tryz.prog 25 #[.agg #[.bool n10, .string s10, .string d10, .bool n11, .string s11, .string d11], .agg #[.bool n18, .string s18, .string d18, .bool n19, .string s19, .string d19], .agg #[.bool n14, .string s14, .string d14, .bool n15, .string s15, .string d15], .agg #[.bool n12, .string s12, .string d12, .bool n13, .string s13, .string d13]] w1 fun e w' => e = .returned (.tuple #[.int .i64 1, .int .i64 0]) ∧ Below w1.heap.size w1 w'))
  (C3 : Hid (∀ w1, Below w.heap.size w w1 → Calls Tryz.prog 20 #[.agg #[.bool n10, .string s10, .string d10, .bool n11, .string s11, .string d11], .agg #[.bool n20, .string s20, .string d20, .bool n21, .string s21, .string d21], .agg #[.bool n12, .string s12, .string d12, .bool n13, .string s13, .string d13], .agg #[.bool n16, .string s16, .string d16, .bool n17, .string s17, .string d17]] w1 fun e w' => e = .returned (.tuple #[.int .i64 0, .int .i64 6]) ∧ Below w1.heap.size w1 w'))
  (C4 : Hid (∀ w1, Below w.heap.size w w1 → Calls Tryz.prog 18 #[.agg #[.bool n10, .string s10, .string d10, .bool n11, .string s11, .string d11], .agg #[.bool n20, .string s20, .string d20, .bool n21, .string s21, .string d21], .agg #[.bool n22, .string s22, .string d22, .bool n23, .string s23, .string d23]] w1 fun e w' => e = .returned (.tuple #[.int .i64 1, .int .i64 0]) ∧ Below w1.heap.size w1 w')) :
  Calls Tryz.prog 17 #[] w fun e w' => e = .returned (.bool true) ∧ Below w.heap.size w w' := by
 go_enter Tryz.func17, Tryz.ntmps17
 have bb := Below.refl w.heap.size w
 go_wp2_with fail
 go_fit (A00.out _)
 rintro e w1 ⟨rfl, b1⟩
 replace bb := Below.after bb b1
 clear b1
 go_wp2_with fail
 go_fit (A20.out _)
 rintro e w2 ⟨rfl, b1⟩
 replace bb := Below.after bb b1
 clear b1
 go_wp2_with fail
 go_fit (A02.out _)
 rintro e w3 ⟨rfl, b1⟩
 replace bb := Below.after bb b1
 clear b1
 go_wp2_with fail
 go_fit (A11.out _)
 rintro e w4 ⟨rfl, b1⟩
 replace bb := Below.after bb b1
 clear b1
 go_wp2_with fail
 go_fit (C1.out _ bb)
 rintro e w5 ⟨rfl, b1⟩
 replace bb := Below.after bb b1
 clear b1
 go_wp2_with fail
 go_fit (A00.out _)
 rintro e w6 ⟨rfl, b1⟩
 replace bb := Below.after bb b1
 clear b1
 go_wp2_with fail
 go_fit (A22.out _)
 rintro e w7 ⟨rfl, b1⟩
 replace bb := Below.after bb b1
 clear b1
 go_wp2_with fail
 go_fit (A02.out _)
 rintro e w8 ⟨rfl, b1⟩
 replace bb := Below.after bb b1
 clear b1
 go_wp2_with fail
 go_fit (A20.out _)
 rintro e w9 ⟨rfl, b1⟩
 replace bb := Below.after bb b1
 clear b1
 go_wp2_with fail
 go_fit (C2.out _ bb)
 rintro e w10 ⟨rfl, b1⟩
 replace bb := Below.after bb b1
 clear b1
 go_wp2_with fail
 go_fit (A00.out _)
 rintro e w11 ⟨rfl, b1⟩
 replace bb := Below.after bb b1
 clear b1
 go_wp2_with fail
 go_fit (A10.out _)
 rintro e w12 ⟨rfl, b1⟩
 replace bb := Below.after bb b1
 clear b1
 go_wp2_with fail
 go_fit (A20.out _)
 rintro e w13 ⟨rfl, b1⟩
 replace bb := Below.after bb b1
 clear b1
 go_wp2_with fail
 go_fit (A11.out _)
 rintro e w14 ⟨rfl, b1⟩
 replace bb := Below.after bb b1
 clear b1
 go_wp2_with fail
 go_fit (C3.out _ bb)
 rintro e w15 ⟨rfl, b1⟩
 replace bb := Below.after bb b1
 clear b1
 go_wp2_with fail
 go_fit (A00.out _)
 rintro e w16 ⟨rfl, b1⟩
 replace bb := Below.after bb b1
 clear b1
 go_wp2_with fail
 go_fit (A10.out _)
 rintro e w17 ⟨rfl, b1⟩
 replace bb := Below.after bb b1
 clear b1
 go_wp2_with fail
 go_fit (A01.out _)
 rintro e w18 ⟨rfl, b1⟩
 replace bb := Below.after bb b1
 clear b1
 go_wp2_with fail
 go_fit (C4.out _ bb)
 rintro e w19 ⟨rfl, b1⟩
 replace bb := Below.after bb b1
 clear b1
 go_wp2
 go_ret
 exact ⟨rfl, bb⟩
theorem sz5_int (z : Int) (h1 : -200 ≤ z) (h2 : z ≤ 200) : (sfZ z).size ≤ 100 ∧ (⟨#[1]⟩ : ByteArray).size ≤ 100 := by
 refine ⟨Nat.le_trans (Bd.size (k := 1) ?_) (by omega), by decide⟩
 unfold Bd
 simp
 omega
theorem live5_any (w : World) (hT : Tab w) : Calls Tryz.prog 17 #[] w fun e w' => e = .returned (.bool true) ∧ Below w.heap.size w w' := by
 refine live5_walk (nfZ 0) (nfZ 0) (nfZ 2) (nfZ 0) (nfZ 0) (nfZ 2) (nfZ 1) (nfZ 1) (nfZ 2) (nfZ 2) (nfZ 1) (nfZ 0) (nfZ 0) (nfZ 1) (sfZ 0) ⟨#[1]⟩ (sfZ 0) ⟨#[1]⟩ (sfZ 2) ⟨#[1]⟩ (sfZ 0) ⟨#[1]⟩ (sfZ 0) ⟨#[1]⟩ (sfZ 2) ⟨#[1]⟩ (sfZ 1) ⟨#[1]⟩ (sfZ 1) ⟨#[1]⟩ (sfZ 2) ⟨#[1]⟩ (sfZ 2) ⟨#[1]⟩ (sfZ 1) ⟨#[1]⟩ (sfZ 0) ⟨#[1]⟩ (sfZ 0) ⟨#[1]⟩ (sfZ 1) ⟨#[1]⟩ w ?_ ?_ ?_ ?_ ?_ ?_ ?_ ?_ ?_ ?_ ?_
 ·exact fun w1 => lat5_any 0 0 (by omega) (by omega) (by omega) (by omega) w1
 ·exact fun w1 => lat5_any 2 0 (by omega) (by omega) (by omega) (by omega) w1
 ·exact fun w1 => lat5_any 0 2 (by omega) (by omega) (by omega) (by omega) w1
 ·exact fun w1 => lat5_any 1 1 (by omega) (by omega) (by omega) (by omega) w1
 ·exact fun w1 => lat5_any 2 2 (by omega) (by omega) (by omega) (by omega) w1
 ·exact fun w1 => lat5_any 1 0 (by omega) (by omega) (by omega) (by omega) w1
 ·exact fun w1 => lat5_any 0 1 (by omega) (by omega) (by omega) (by omega) w1
 ·intro w1 b
  have := gCircle_an (nfZ 0) (nfZ 0) (nfZ 2) (nfZ 0) (nfZ 0) (nfZ 2) (nfZ 1) (nfZ 1) (sfZ 0) ⟨#[1]⟩ (sfZ 0) ⟨#[1]⟩ (sfZ 2) ⟨#[1]⟩ (sfZ 0) ⟨#[1]⟩ (sfZ 0) ⟨#[1]⟩ (sfZ 2) ⟨#[1]⟩ (sfZ 1) ⟨#[1]⟩ (sfZ 1) ⟨#[1]⟩ w1 (hT.below b) (sz5_int 0 (by omega) (by omega)) (sz5_int 0 (by omega) (by omega)) (sz5_int 2 (by omega) (by omega)) (sz5_int 0 (by omega) (by omega)) (sz5_int 0 (by omega) (by omega)) (sz5_int 2 (by omega) (by omega)) (sz5_int 1 (by omega) (by omega)) (sz5_int 1 (by omega) (by omega)) (two_zero.2 ⟨(two_zero.2 ⟨(two_zero.2 ⟨(twoq_zero.2 ⟨chk_int 0 (by omega) (by omega), chk_int 0 (by omega) (by omega)⟩), twoq_zero.2 ⟨chk_int 2 (by omega) (by omega), chk_int 0 (by omega) (by omega)⟩⟩), twoq_zero.2 ⟨chk_int 0 (by omega) (by omega), chk_int 2 (by omega) (by omega)⟩⟩), twoq_zero.2 ⟨chk_int 1 (by omega) (by omega), chk_int 1 (by omega) (by omega)⟩⟩)
  simp only [qOf_int] at this
  rw [if_neg (show ¬ Gm.sg (Gm.cr ((0 : Int) : Rat) ((0 : Int) : Rat) ((2 : Int) : Rat) ((0 : Int) : Rat) ((0 : Int) : Rat) ((2 : Int) : Rat)) = 0 by decide +kernel), show Gm.sg (Gm.cr ((0 : Int) : Rat) ((0 : Int) : Rat) ((2 : Int) : Rat) ((0 : Int) : Rat) ((0 : Int) : Rat) ((2 : Int) : Rat)) = 1 by decide +kernel, show Gm.sg (Gm.ci ((0 : Int) : Rat) ((0 : Int) : Rat) ((2 : Int) : Rat) ((0 : Int) : Rat) ((0 : Int) : Rat) ((2 : Int) : Rat) ((1 : Int) : Rat) ((1 : Int) : Rat)) = 1 by decide +kernel] at this
  exact this
 ·intro w1 b
  have := gMeet_an (nfZ 0) (nfZ 0) (nfZ 2) (nfZ 2) (nfZ 0) (nfZ 2) (nfZ 2) (nfZ 0) (sfZ 0) ⟨#[1]⟩ (sfZ 0) ⟨#[1]⟩ (sfZ 2) ⟨#[1]⟩ (sfZ 2) ⟨#[1]⟩ (sfZ 0) ⟨#[1]⟩ (sfZ 2) ⟨#[1]⟩ (sfZ 2) ⟨#[1]⟩ (sfZ 0) ⟨#[1]⟩ w1 (hT.below b) (sz5_int 0 (by omega) (by omega)) (sz5_int 0 (by omega) (by omega)) (sz5_int 2 (by omega) (by omega)) (sz5_int 2 (by omega) (by omega)) (sz5_int 0 (by omega) (by omega)) (sz5_int 2 (by omega) (by omega)) (sz5_int 2 (by omega) (by omega)) (sz5_int 0 (by omega) (by omega)) (two_zero.2 ⟨(two_zero.2 ⟨(two_zero.2 ⟨(twoq_zero.2 ⟨chk_int 0 (by omega) (by omega), chk_int 0 (by omega) (by omega)⟩), twoq_zero.2 ⟨chk_int 2 (by omega) (by omega), chk_int 2 (by omega) (by omega)⟩⟩), twoq_zero.2 ⟨chk_int 0 (by omega) (by omega), chk_int 2 (by omega) (by omega)⟩⟩), twoq_zero.2 ⟨chk_int 2 (by omega) (by omega), chk_int 0 (by omega) (by omega)⟩⟩)
  simp only [qOf_int] at this
  rw [show mt (Gm.sg (Gm.cr ((0 : Int) : Rat) ((0 : Int) : Rat) ((2 : Int) : Rat) ((2 : Int) : Rat) ((0 : Int) : Rat) ((2 : Int) : Rat))) (Gm.sg (Gm.cr ((0 : Int) : Rat) ((0 : Int) : Rat) ((2 : Int) : Rat) ((2 : Int) : Rat) ((2 : Int) : Rat) ((0 : Int) : Rat))) (Gm.sg (Gm.cr ((0 : Int) : Rat) ((2 : Int) : Rat) ((2 : Int) : Rat) ((0 : Int) : Rat) ((0 : Int) : Rat) ((0 : Int) : Rat))) (Gm.sg (Gm.cr ((0 : Int) : Rat) ((2 : Int) : Rat) ((2 : Int) : Rat) ((0 : Int) : Rat) ((2 : Int) : Rat) ((2 : Int) : Rat))) (-(Gm.sg (Gm.dt ((0 : Int) : Rat) ((0 : Int) : Rat) ((2 : Int) : Rat) ((2 : Int) : Rat) ((0 : Int) : Rat) ((2 : Int) : Rat)))) (-(Gm.sg (Gm.dt ((0 : Int) : Rat) ((0 : Int) : Rat) ((2 : Int) : Rat) ((2 : Int) : Rat) ((2 : Int) : Rat) ((0 : Int) : Rat)))) (-(Gm.sg (Gm.dt ((0 : Int) : Rat) ((2 : Int) : Rat) ((2 : Int) : Rat) ((0 : Int) : Rat) ((0 : Int) : Rat) ((0 : Int) : Rat)))) (-(Gm.sg (Gm.dt ((0 : Int) : Rat) ((2 : Int) : Rat) ((2 : Int) : Rat) ((0 : Int) : Rat) ((2 : Int) : Rat) ((2 : Int) : Rat)))) = 1 by decide +kernel] at this
  exact this
 ·intro w1 b
  have := gCircle_an (nfZ 0) (nfZ 0) (nfZ 1) (nfZ 0) (nfZ 2) (nfZ 0) (nfZ 1) (nfZ 1) (sfZ 0) ⟨#[1]⟩ (sfZ 0) ⟨#[1]⟩ (sfZ 1) ⟨#[1]⟩ (sfZ 0) ⟨#[1]⟩ (sfZ 2) ⟨#[1]⟩ (sfZ 0) ⟨#[1]⟩ (sfZ 1) ⟨#[1]⟩ (sfZ 1) ⟨#[1]⟩ w1 (hT.below b) (sz5_int 0 (by omega) (by omega)) (sz5_int 0 (by omega) (by omega)) (sz5_int 1 (by omega) (by omega)) (sz5_int 0 (by omega) (by omega)) (sz5_int 2 (by omega) (by omega)) (sz5_int 0 (by omega) (by omega)) (sz5_int 1 (by omega) (by omega)) (sz5_int 1 (by omega) (by omega)) (two_zero.2 ⟨(two_zero.2 ⟨(two_zero.2 ⟨(twoq_zero.2 ⟨chk_int 0 (by omega) (by omega), chk_int 0 (by omega) (by omega)⟩), twoq_zero.2 ⟨chk_int 1 (by omega) (by omega), chk_int 0 (by omega) (by omega)⟩⟩), twoq_zero.2 ⟨chk_int 2 (by omega) (by omega), chk_int 0 (by omega) (by omega)⟩⟩), twoq_zero.2 ⟨chk_int 1 (by omega) (by omega), chk_int 1 (by omega) (by omega)⟩⟩)
  simp only [qOf_int] at this
  rw [if_pos (show Gm.sg (Gm.cr ((0 : Int) : Rat) ((0 : Int) : Rat) ((1 : Int) : Rat) ((0 : Int) : Rat) ((2 : Int) : Rat) ((0 : Int) : Rat)) = 0 by decide +kernel)] at this
  exact this
 ·intro w1 b
  have := gOrient_an (nfZ 0) (nfZ 0) (nfZ 1) (nfZ 0) (nfZ 0) (nfZ 1) (sfZ 0) ⟨#[1]⟩ (sfZ 0) ⟨#[1]⟩ (sfZ 1) ⟨#[1]⟩ (sfZ 0) ⟨#[1]⟩ (sfZ 0) ⟨#[1]⟩ (sfZ 1) ⟨#[1]⟩ w1 (hT.below b) (sz5_int 0 (by omega) (by omega)) (sz5_int 0 (by omega) (by omega)) (sz5_int 1 (by omega) (by omega)) (sz5_int 0 (by omega) (by omega)) (sz5_int 0 (by omega) (by omega)) (sz5_int 1 (by omega) (by omega)) (two_zero.2 ⟨(two_zero.2 ⟨(twoq_zero.2 ⟨chk_int 0 (by omega) (by omega), chk_int 0 (by omega) (by omega)⟩), twoq_zero.2 ⟨chk_int 1 (by omega) (by omega), chk_int 0 (by omega) (by omega)⟩⟩), twoq_zero.2 ⟨chk_int 0 (by omega) (by omega), chk_int 1 (by omega) (by omega)⟩⟩)
  simp only [qOf_int] at this
  rw [show Gm.sg (Gm.cr ((0 : Int) : Rat) ((0 : Int) : Rat) ((1 : Int) : Rat) ((0 : Int) : Rat) ((0 : Int) : Rat) ((1 : Int) : Rat)) = 1 by decide +kernel] at this
  exact this
end Go.Proofs.YtgihiaaodkkkbaaGreatDoor
