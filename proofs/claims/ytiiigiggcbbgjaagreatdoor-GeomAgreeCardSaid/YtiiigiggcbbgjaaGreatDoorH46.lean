/-
  gussetlaw04: VecScales, of any point and number.
  Points compared.
  Rational numbers in their one form: how long sums and products get; the reference's calls over them.
  gussetlaw05: at, short, small.
  Package span: how three points turn.
  Package span: where a fourth point lies.
  Package span: points that may be asked; how they turn, and where one lies.
-/
import Derived.Test.YtiiigiggcbbgjaaGreatDoorH43
import Derived.Test.YtiiigiggcbbgjaaGreatDoorH45
set_option maxRecDepth 100000
set_option maxHeartbeats 8000000
namespace Go.Proofs.YtiiigiggcbbgjaaGreatDoor
open Go.RowKit Go.Shelf
theorem rchk4_any (n0 n1 : Bool) (s0 d0 s1 d1 : ByteArray) (w : World) (z0 : s0.size ≤ 8000) (y0 : d0.size ≤ 8000) (z1 : s1.size ≤ 8000) (y1 : d1.size ≤ 8000) :
  Calls Tryz.prog 42 #[.agg #[.bool n0, .string s0, .string d0, .bool n1, .string s1, .string d1]] w (Re w (.int .i64 (twoq n0 s0 d0 n1 s1 d1 : Nat))) :=
 rchk4_walk n0 n1 s0 d0 s1 d1 _ w (fun w1 => bothq_any n0 n1 s0 d0 s1 d1 w1 z0 y0 z1 y1)
open Go.RowKit
theorem bytes_eq {a b : ByteArray} (h : a.toList = b.toList) : a = b := toList_inj (by rw [h]; exact BEq.rfl)
theorem run_peq (n0 n1 n2 n3 : Bool) (s0 d0 s1 d1 s2 d2 s3 d3 : ByteArray) (w : World) (hne : ¬ (n0 = n2 ∧ s0 = s2 ∧ d0 = d2 ∧ n1 = n3 ∧ s1 = s3 ∧ d1 = d3)) : (binOp .eql 28 (.agg #[.bool n0, .string s0, .string d0, .bool n1, .string s1, .string d1]) (.agg #[.bool n2, .string s2, .string d2, .bool n3, .string s3, .string d3])).run Tryz.prog w = .ok (.bool false) w := by
 go_simp
 intro a b c d e f
 exact hne ⟨a, bytes_eq b, bytes_eq c, d, bytes_eq e, bytes_eq f⟩
end Go.Proofs.YtiiigiggcbbgjaaGreatDoor
namespace Go.Proofs.YtiiigiggcbbgjaaGreatDoor
open Go.RowKit Go.Shelf
theorem rtimesI (x y : Rat) {K : Nat} (hK : K ≤ 4000) (bx : Bq x K) (bY : Bq y K) (w : World) :
  Calls Tryz.prog 69 #[.agg #[.bool (nfZ (x).num), .string (sfZ (x).num), .string (strOf (x).den)], .agg #[.bool (nfZ (y).num), .string (sfZ (y).num), .string (strOf (y).den)]] w (Re w (.agg #[.bool (nfZ (x * y).num), .string (sfZ (x * y).num), .string (strOf (x * y).den)])) := by
 have zx := bx.2.size
 have zy := bY.2.size
 have := rtimesq_any (nfZ x.num) (nfZ y.num) (sfZ x.num) (strOf x.den) (sfZ y.num) (strOf y.den) w (okQ_qI x) (okQ_qI y) hK bx.1.size (by simpa using zx) bY.1.size (by simpa using zy)
 rw [show qOf (nfZ x.num) (sfZ x.num) (strOf x.den) = x from qOf_qI x, show qOf (nfZ y.num) (sfZ y.num) (strOf y.den) = y from qOf_qI y] at this
 exact this
theorem rsumI (x y : Rat) {K : Nat} (hK : K ≤ 4000) (bx : Bq x K) (bY : Bq y K) (w : World) :
  Calls Tryz.prog 66 #[.agg #[.bool (nfZ (x).num), .string (sfZ (x).num), .string (strOf (x).den)], .agg #[.bool (nfZ (y).num), .string (sfZ (y).num), .string (strOf (y).den)]] w (Re w (.agg #[.bool (nfZ (x + y).num), .string (sfZ (x + y).num), .string (strOf (x + y).den)])) := by
 have zx := bx.2.size
 have zy := bY.2.size
 have := rsumq_any (nfZ x.num) (nfZ y.num) (sfZ x.num) (strOf x.den) (sfZ y.num) (strOf y.den) w (okQ_qI x) (okQ_qI y) hK bx.1.size (by simpa using zx) bY.1.size (by simpa using zy)
 rw [show qOf (nfZ x.num) (sfZ x.num) (strOf x.den) = x from qOf_qI x, show qOf (nfZ y.num) (sfZ y.num) (strOf y.den) = y from qOf_qI y] at this
 exact this
theorem rlessI (x y : Rat) {K : Nat} (hK : K ≤ 4000) (bx : Bq x K) (bY : Bq y K) (w : World) :
  Calls Tryz.prog 68 #[.agg #[.bool (nfZ (x).num), .string (sfZ (x).num), .string (strOf (x).den)], .agg #[.bool (nfZ (y).num), .string (sfZ (y).num), .string (strOf (y).den)]] w (Re w (.agg #[.bool (nfZ (x - y).num), .string (sfZ (x - y).num), .string (strOf (x - y).den)])) := by
 have zx := bx.2.size
 have zy := bY.2.size
 have := rlessq_any (nfZ x.num) (nfZ y.num) (sfZ x.num) (strOf x.den) (sfZ y.num) (strOf y.den) w (okQ_qI x) (okQ_qI y) hK bx.1.size (by simpa using zx) bY.1.size (by simpa using zy)
 rw [show qOf (nfZ x.num) (sfZ x.num) (strOf x.den) = x from qOf_qI x, show qOf (nfZ y.num) (sfZ y.num) (strOf y.den) = y from qOf_qI y] at this
 exact this
open Go.RowKit
theorem lat5_any (x y : Int) (h1 : -1000 ≤ x) (h2 : x ≤ 1000) (h3 : -1000 ≤ y) (h4 : y ≤ 1000) (w : World) :
  Calls Tryz.prog 43 #[.int .i64 x, .int .i64 y] w (Re w (.agg #[.bool (nfZ x), .string (sfZ x), .string ⟨#[1]⟩, .bool (nfZ y), .string (sfZ y), .string ⟨#[1]⟩])) := by
 have H1 := shut (fun w => roq_any x h1 h2 w)
 have H2 := shut (fun w => roq_any y h3 h4 w)
 clear h1 h2 h3 h4
 go_enter Tryz.func43, Tryz.ntmps43
 go_wp2_with fail
 go_fit (H1.out _)
 rintro e w1 ⟨rfl, b1⟩
 obtain ⟨kr, bb⟩ := al1 b1
 clear b1
 go_wp2_with fail
 go_fit (H2.out _)
 rintro e w2 ⟨rfl, b1⟩
 replace kr := kr.below b1
 replace bb := Below.after bb b1
 clear b1
 have f0 := Cel.frozen kr 0
 have f1 := Cel.frozen kr 1
 have f2 := Cel.frozen kr 2
 have f3 := Cel.frozen kr 3
 have f4 := Cel.frozen kr 4
 have f5 := Cel.frozen kr 5
 obtain ⟨r0, r1, r2, r3, r4, r5⟩ := xk6 kr
 go_wp2
 exact post_p (p := 4) (by kernel_rfl) rfl rfl (kr.set6 _ _ _ _ _ _) ⟨rfl, bset6 bb (Nat.le_refl _) _ _ _ _ _ _⟩
def sh5 (s d : ByteArray) : Bool := decide (s.size ≤ 60 ∧ d.size ≤ 60)
theorem short5_any (n : Bool) (s d : ByteArray) (w : World) :
  Calls Tryz.prog 40 #[.agg #[.bool n, .string s, .string d]] w (Re w (.bool (sh5 s d))) := by
 by_cases hs : s.size ≤ 60
 ·by_cases hd : d.size ≤ 60
  ·have e : Hid (sh5 s d = true) := decide_eq_true ⟨hs, hd⟩
   have i1 : (s.size : Int) ≤ 60 := by omega
   have i2 : (d.size : Int) ≤ 60 := by omega
   go_enter Tryz.func40, Tryz.ntmps40
   go_wp2
   go_ret
   exact ⟨by rw [e.out]; rfl, bel_al _ _⟩
  ·have e : Hid (sh5 s d = false) := decide_eq_false fun h => hd h.2
   have i1 : (s.size : Int) ≤ 60 := by omega
   have i2 : ¬ (d.size : Int) ≤ 60 := by omega
   go_enter Tryz.func40, Tryz.ntmps40
   go_wp2
   go_ret
   exact ⟨by rw [e.out]; rfl, bel_al _ _⟩
 ·have e : Hid (sh5 s d = false) := decide_eq_false fun h => hs h.1
  have i1 : ¬ (s.size : Int) ≤ 60 := by omega
  go_enter Tryz.func40, Tryz.ntmps40
  go_wp2
  go_ret
  exact ⟨by rw [e.out]; rfl, bel_al _ _⟩
theorem c24 {w : World} {g : Nat} {t : TypeId} {x0 x1 x2 x3 x4 x5 x6 x7 x8 x9 x10 x11 x12 x13 x14 x15 x16 x17 x18 x19 x20 x21 x22 x23 : Value} (h : Cel w g [x0, x1, x2, x3, x4, x5, x6, x7, x8, x9, x10, x11, x12, x13, x14, x15, x16, x17, x18, x19, x20, x21, x22, x23] t) : xc24 w g x0 x1 x2 x3 x4 x5 x6 x7 x8 x9 x10 x11 x12 x13 x14 x15 x16 x17 x18 x19 x20 x21 x22 x23 :=
 ⟨h.cell 0, h.cell 1, h.cell 2, h.cell 3, h.cell 4, h.cell 5, h.cell 6, h.cell 7, h.cell 8, h.cell 9, h.cell 10, h.cell 11, h.cell 12, h.cell 13, h.cell 14, h.cell 15, h.cell 16, h.cell 17, h.cell 18, h.cell 19, h.cell 20, h.cell 21, h.cell 22, h.cell 23⟩
theorem small5_walk (n0 n1 n2 n3 n4 n5 n6 n7 : Bool) (s0 d0 s1 d1 s2 d2 s3 d3 s4 d4 s5 d5 s6 d6 s7 d7 : ByteArray) (B0 B1 B2 B3 B4 B5 B6 B7 : Bool) (w : World)
  (H0 : Hid (∀ w1, Calls Tryz.prog 40 #[.agg #[.bool n0, .string s0, .string d0]] w1 (Re w1 (.bool B0))))
  (H1 : Hid (∀ w1, Calls Tryz.prog 40 #[.agg #[.bool n1, .string s1, .string d1]] w1 (Re w1 (.bool B1))))
  (H2 : Hid (∀ w1, Calls Tryz.prog 40 #[.agg #[.bool n2, .string s2, .string d2]] w1 (Re w1 (.bool B2))))
  (H3 : Hid (∀ w1, Calls Tryz.prog 40 #[.agg #[.bool n3, .string s3, .string d3]] w1 (Re w1 (.bool B3))))
  (H4 : Hid (∀ w1, Calls Tryz.prog 40 #[.agg #[.bool n4, .string s4, .string d4]] w1 (Re w1 (.bool B4))))
  (H5 : Hid (∀ w1, Calls Tryz.prog 40 #[.agg #[.bool n5, .string s5, .string d5]] w1 (Re w1 (.bool B5))))
  (H6 : Hid (∀ w1, Calls Tryz.prog 40 #[.agg #[.bool n6, .string s6, .string d6]] w1 (Re w1 (.bool B6))))
  (H7 : Hid (∀ w1, Calls Tryz.prog 40 #[.agg #[.bool n7, .string s7, .string d7]] w1 (Re w1 (.bool B7)))) :
  Calls Tryz.prog 8 #[.agg #[.bool n0, .string s0, .string d0, .bool n1, .string s1, .string d1, .bool n2, .string s2, .string d2, .bool n3, .string s3, .string d3, .bool n4, .string s4, .string d4, .bool n5, .string s5, .string d5, .bool n6, .string s6, .string d6, .bool n7, .string s7, .string d7]] w (Re w (.bool (B0 && (B1 && (B2 && (B3 && (B4 && (B5 && (B6 && B7))))))))) := by
 go_enter Tryz.func8, Tryz.ntmps8
 go_wp2_with fail
 go_fit (H0.out _)
 rintro e w0 ⟨rfl, b1⟩
 obtain ⟨k, bb⟩ := al1 b1
 clear b1
 cases B0 with
 | false =>
  go_wp2
  go_ret
  exact ⟨by simp only [Bool.false_and]; rfl, bb⟩
 | true =>
 obtain ⟨c0, c1, c2, c3, c4, c5, c6, c7, c8, c9, c10, c11, c12, c13, c14, c15, c16, c17, c18, c19, c20, c21, c22, c23⟩ := c24 k
 go_wp2_with fail
 go_fit (H1.out _)
 rintro e w1 ⟨rfl, b1⟩
 replace k := k.below b1
 replace bb := Below.after bb b1
 clear b1
 clear c0 c1 c2 c3 c4 c5 c6 c7 c8 c9 c10 c11 c12 c13 c14 c15 c16 c17 c18 c19 c20 c21 c22 c23
 cases B1 with
 | false =>
  go_wp2
  go_ret
  exact ⟨by simp only [Bool.true_and, Bool.false_and]; rfl, bb⟩
 | true =>
 obtain ⟨c0, c1, c2, c3, c4, c5, c6, c7, c8, c9, c10, c11, c12, c13, c14, c15, c16, c17, c18, c19, c20, c21, c22, c23⟩ := c24 k
 go_wp2_with fail
 go_fit (H2.out _)
 rintro e w2 ⟨rfl, b1⟩
 replace k := k.below b1
 replace bb := Below.after bb b1
 clear b1
 clear c0 c1 c2 c3 c4 c5 c6 c7 c8 c9 c10 c11 c12 c13 c14 c15 c16 c17 c18 c19 c20 c21 c22 c23
 cases B2 with
 | false =>
  go_wp2
  go_ret
  exact ⟨by simp only [Bool.true_and, Bool.false_and]; rfl, bb⟩
 | true =>
 obtain ⟨c0, c1, c2, c3, c4, c5, c6, c7, c8, c9, c10, c11, c12, c13, c14, c15, c16, c17, c18, c19, c20, c21, c22, c23⟩ := c24 k
 go_wp2_with fail
 go_fit (H3.out _)
 rintro e w3 ⟨rfl, b1⟩
 replace k := k.below b1
 replace bb := Below.after bb b1
 clear b1
 clear c0 c1 c2 c3 c4 c5 c6 c7 c8 c9 c10 c11 c12 c13 c14 c15 c16 c17 c18 c19 c20 c21 c22 c23
 cases B3 with
 | false =>
  go_wp2
  go_ret
  exact ⟨by simp only [Bool.true_and, Bool.false_and]; rfl, bb⟩
 | true =>
 obtain ⟨c0, c1, c2, c3, c4, c5, c6, c7, c8, c9, c10, c11, c12, c13, c14, c15, c16, c17, c18, c19, c20, c21, c22, c23⟩ := c24 k
 go_wp2_with fail
 go_fit (H4.out _)
 rintro e w4 ⟨rfl, b1⟩
 replace k := k.below b1
 replace bb := Below.after bb b1
 clear b1
 clear c0 c1 c2 c3 c4 c5 c6 c7 c8 c9 c10 c11 c12 c13 c14 c15 c16 c17 c18 c19 c20 c21 c22 c23
 cases B4 with
 | false =>
  go_wp2
  go_ret
  exact ⟨by simp only [Bool.true_and, Bool.false_and]; rfl, bb⟩
 | true =>
 obtain ⟨c0, c1, c2, c3, c4, c5, c6, c7, c8, c9, c10, c11, c12, c13, c14, c15, c16, c17, c18, c19, c20, c21, c22, c23⟩ := c24 k
 go_wp2_with fail
 go_fit (H5.out _)
 rintro e w5 ⟨rfl, b1⟩
 replace k := k.below b1
 replace bb := Below.after bb b1
 clear b1
 clear c0 c1 c2 c3 c4 c5 c6 c7 c8 c9 c10 c11 c12 c13 c14 c15 c16 c17 c18 c19 c20 c21 c22 c23
 cases B5 with
 | false =>
  go_wp2
  go_ret
  exact ⟨by simp only [Bool.true_and, Bool.false_and]; rfl, bb⟩
 | true =>
 obtain ⟨c0, c1, c2, c3, c4, c5, c6, c7, c8, c9, c10, c11, c12, c13, c14, c15, c16, c17, c18, c19, c20, c21, c22, c23⟩ := c24 k
 go_wp2_with fail
 go_fit (H6.out _)
 rintro e w6 ⟨rfl, b1⟩
 replace k := k.below b1
 replace bb := Below.after bb b1
 clear b1
 clear c0 c1 c2 c3 c4 c5 c6 c7 c8 c9 c10 c11 c12 c13 c14 c15 c16 c17 c18 c19 c20 c21 c22 c23
 cases B6 with
 | false =>
  go_wp2
  go_ret
  exact ⟨by simp only [Bool.true_and, Bool.false_and]; rfl, bb⟩
 | true =>
 obtain ⟨c0, c1, c2, c3, c4, c5, c6, c7, c8, c9, c10, c11, c12, c13, c14, c15, c16, c17, c18, c19, c20, c21, c22, c23⟩ := c24 k
 go_wp2_with fail
 go_fit (H7.out _)
 rintro e w7 ⟨rfl, b1⟩
 replace k := k.below b1
 replace bb := Below.after bb b1
 clear b1
 clear c0 c1 c2 c3 c4 c5 c6 c7 c8 c9 c10 c11 c12 c13 c14 c15 c16 c17 c18 c19 c20 c21 c22 c23
 go_wp2
 go_ret
 exact ⟨by simp only [Bool.true_and]; rfl, bb⟩
theorem small5_any (n0 n1 n2 n3 n4 n5 n6 n7 : Bool) (s0 d0 s1 d1 s2 d2 s3 d3 s4 d4 s5 d5 s6 d6 s7 d7 : ByteArray) (w : World) :
  Calls Tryz.prog 8 #[.agg #[.bool n0, .string s0, .string d0, .bool n1, .string s1, .string d1, .bool n2, .string s2, .string d2, .bool n3, .string s3, .string d3, .bool n4, .string s4, .string d4, .bool n5, .string s5, .string d5, .bool n6, .string s6, .string d6, .bool n7, .string s7, .string d7]] w (Re w (.bool (sh5 s0 d0 && (sh5 s1 d1 && (sh5 s2 d2 && (sh5 s3 d3 && (sh5 s4 d4 && (sh5 s5 d5 && (sh5 s6 d6 && sh5 s7 d7))))))))) :=
 small5_walk n0 n1 n2 n3 n4 n5 n6 n7 s0 d0 s1 d1 s2 d2 s3 d3 s4 d4 s5 d5 s6 d6 s7 d7 _ _ _ _ _ _ _ _ w (fun w1 => short5_any n0 s0 d0 w1) (fun w1 => short5_any n1 s1 d1 w1) (fun w1 => short5_any n2 s2 d2 w1) (fun w1 => short5_any n3 s3 d3 w1) (fun w1 => short5_any n4 s4 d4 w1) (fun w1 => short5_any n5 s5 d5 w1) (fun w1 => short5_any n6 s6 d6 w1) (fun w1 => short5_any n7 s7 d7 w1)
open Go.RowKit
theorem turn_walk (n0 n1 n2 n3 n4 n5 : Bool) (s0 d0 s1 d1 s2 d2 s3 d3 s4 d4 s5 d5 : ByteArray) (x y x' y' : Rat) (w : World)
  (H1 : Hid (∀ w1, Calls Tryz.prog 70 #[.agg #[.bool n0, .string s0, .string d0, .bool n1, .string s1, .string d1], .agg #[.bool n2, .string s2, .string d2, .bool n3, .string s3, .string d3]] w1 fun e w' => ∃ m0 a0 l0 c0 m1 a1 l1 c1 a2 l2 c2 X Y U, e = .returned (.agg #[.bool m0, .slice a0 l0 c0, .bool m1, .slice a1 l1 c1, .bool false, .slice a2 l2 c2]) ∧ NV w' m0 (.slice a0 l0 c0) X 53 ∧ NV w' m1 (.slice a1 l1 c1) Y 53 ∧ NV w' false (.slice a2 l2 c2) U 52 ∧ Gm.Way X Y U x y ∧ Below w1.heap.size w1 w'))
  (H2 : Hid (∀ w1, Calls Tryz.prog 70 #[.agg #[.bool n0, .string s0, .string d0, .bool n1, .string s1, .string d1], .agg #[.bool n4, .string s4, .string d4, .bool n5, .string s5, .string d5]] w1 fun e w' => ∃ m0 a0 l0 c0 m1 a1 l1 c1 a2 l2 c2 X Y U, e = .returned (.agg #[.bool m0, .slice a0 l0 c0, .bool m1, .slice a1 l1 c1, .bool false, .slice a2 l2 c2]) ∧ NV w' m0 (.slice a0 l0 c0) X 53 ∧ NV w' m1 (.slice a1 l1 c1) Y 53 ∧ NV w' false (.slice a2 l2 c2) U 52 ∧ Gm.Way X Y U x' y' ∧ Below w1.heap.size w1 w')) :
  Calls Tryz.prog 46 #[.agg #[.bool n0, .string s0, .string d0, .bool n1, .string s1, .string d1], .agg #[.bool n2, .string s2, .string d2, .bool n3, .string s3, .string d3], .agg #[.bool n4, .string s4, .string d4, .bool n5, .string s5, .string d5]] w (Re w (.int .i64 (Gm.sg (x * y' - y * x')))) := by
 go_enter Tryz.func46, Tryz.ntmps46
 go_wp2_with fail
 obtain ⟨w0, hw, ka, kb, kc, bb⟩ := mk3 w [.bool n0, .string s0, .string d0, .bool n1, .string s1, .string d1] [.bool n2, .string s2, .string d2, .bool n3, .string s3, .string d3] [.bool n4, .string s4, .string d4, .bool n5, .string s5, .string d5] 28 28 28
 rw [← hw]
 clear hw
 have mkS : Hid (∀ w', Cel w' (w.heap.size) [.bool n0, .string s0, .string d0, .bool n1, .string s1, .string d1] 28 → Cel w' (w.heap.size + 1) [.bool n2, .string s2, .string d2, .bool n3, .string s3, .string d3] 28 → Cel w' (w.heap.size + 1 + 1) [.bool n4, .string s4, .string d4, .bool n5, .string s5, .string d5] 28 → (xc6 w' w.heap.size (.bool n0) (.string s0) (.string d0) (.bool n1) (.string s1) (.string d1) ∧ xc6 w' (w.heap.size + 1) (.bool n2) (.string s2) (.string d2) (.bool n3) (.string s3) (.string d3) ∧ xc6 w' (w.heap.size + 1 + 1) (.bool n4) (.string s4) (.string d4) (.bool n5) (.string s5) (.string d5))) := fun w' ha hb hc => ⟨xk6 ha, xk6 hb, xk6 hc⟩
 go_region_held3 (fun w' => xc6 w' w.heap.size (.bool n0) (.string s0) (.string d0) (.bool n1) (.string s1) (.string d1) ∧ xc6 w' (w.heap.size + 1) (.bool n2) (.string s2) (.string d2) (.bool n3) (.string s3) (.string d3) ∧ xc6 w' (w.heap.size + 1 + 1) (.bool n4) (.string s4) (.string d4) (.bool n5) (.string s5) (.string d5)) (first | with_reducible exact mkS.out _ ka kb kc | exact mkS.out _ ka kb kc) (first | (go_at_call 70; go_fit (H1.out _); rintro e wn ⟨m0, a0, l0, c0, m1, a1, l1, c1, a2, l2, c2, X, Y, U, rfl, nv0, nv1, nv2, hw0, bn⟩; replace ka := ka.below (un bn); replace kb := kb.below (un bn); replace kc := kc.below (un bn); (try replace nv3 := nv3.below (un bn)); (try replace nv4 := nv4.below (un bn)); (try replace nv6 := nv6.below (un bn)); replace bb := Below.after bb (un bn)) | (go_at_call 70; go_fit (H2.out _); rintro e wn ⟨m3, a3, l3, c3, m4, a4, l4, c4, a5, l5, c5, X', Y', U', rfl, nv3, nv4, nv5, hw1, bn⟩; replace ka := ka.below (un bn); replace kb := kb.below (un bn); replace kc := kc.below (un bn); (try replace nv0 := nv0.below (un bn)); (try replace nv1 := nv1.below (un bn)); (try replace nv6 := nv6.below (un bn)); replace bb := Below.after bb (un bn)) | (go_at_call 77; go_fit (scross_any _ _ _ _ _ _ _ _ _ _ _ _ _ _ _ _ _ _ _ _ _ _ _ _ X Y X' Y' 53 _ (by omega) ?_ ?_ ?_ ?_); (first | exact nv0 | exact nv0.drew); (first | exact nv1 | exact nv1.drew); (first | exact nv3 | exact nv3.drew); (first | exact nv4 | exact nv4.drew); rintro e wn ⟨m6, v6, rfl, nv6, bn⟩; obtain ⟨a6, l6, c6, rfl⟩ := nv6.slice; replace ka := ka.below (un bn); replace kb := kb.below (un bn); replace kc := kc.below (un bn); (try replace nv0 := nv0.below (un bn)); (try replace nv1 := nv1.below (un bn)); (try replace nv3 := nv3.below (un bn)); (try replace nv4 := nv4.below (un bn)); replace bb := Below.after bb (un bn)) | (go_at_call 72; go_fit (nsign_any _ _ (X * Y' - Y * X') (53 + 53 + 1) _ ?_); (first | exact nv6 | exact nv6.drew); rintro e wn ⟨rfl, bn⟩; replace ka := ka.below (un bn); replace kb := kb.below (un bn); replace kc := kc.below (un bn); (try replace nv0 := nv0.below (un bn)); (try replace nv1 := nv1.below (un bn)); (try replace nv3 := nv3.below (un bn)); (try replace nv4 := nv4.below (un bn)); (try replace nv6 := nv6.below (un bn)); replace bb := Below.after bb (un bn)))
 rw [Gm.cross_sign hw0 hw1]
 go_wp2
 go_ret
 exact ⟨rfl, bb⟩
theorem load_s {w : World} {g : Nat} {x0 x1 x2 x3 x4 x5 : Value} (h : Cel w g [x0, x1, x2, x3, x4, x5] 74) : (loadVar 74 ⟨g, 0, none⟩).run Tryz.prog w = .ok (.agg #[x0, x1, x2, x3, x4, x5]) w :=
 run_loadVar_row w g 74 74 #[x0, x1, x2, x3, x4, x5] (0, 0) _ h Tryz.underlying74 rfl (by kernel_rfl)
theorem post_sn {fn : Func} {p q : Tmp} {R : Ending → World → Prop} {a : Act} {w : World} {g g' : Nat} {x0 x1 x2 x3 x4 x5 x' y' : Value} (h : fn.results = #[.cell p 74, .cell q 72]) (hp : a.tmps.getD p undef = .pointer (some ⟨g, 0, none⟩)) (hq : a.tmps.getD q undef = .pointer (some ⟨g', 0, none⟩)) (hd : a.defers = [])
  (hc : Cel w g [x0, x1, x2, x3, x4, x5] 74) (hc' : Cel w g' [x', y'] 72) (hR : R (.returned (.tuple #[.agg #[x0, x1, x2, x3, x4, x5], .agg #[x', y']])) w) : bodyPost Tryz.prog fn R .ret a w := by
 refine ⟨hd, .tuple #[.agg #[x0, x1, x2, x3, x4, x5], .agg #[x', y']], ?_, hR⟩
 have hp' : a.tmps[p]?.getD undef = .pointer (some ⟨g, 0, none⟩) := by simpa using hp
 have hq' : a.tmps[q]?.getD undef = .pointer (some ⟨g', 0, none⟩) := by simpa using hq
 simp only [results, h]
 simp [Sem.run_bind, Result.andThen, hp', hq', asAddr, load_s hc, load_n hc']
theorem lifted_any (m0 m1 m2 : Bool) (a0 a1 a2 : Option Addr) (l0 c0 l1 c1 l2 c2 : Nat) (X Y U : Int) (w : World) (nv0 : NV w m0 (.slice a0 l0 c0) X 53) (nv1 : NV w m1 (.slice a1 l1 c1) Y 53) (nv2 : NV w m2 (.slice a2 l2 c2) U 52) :
  Calls Tryz.prog 91 #[.agg #[.bool m0, .slice a0 l0 c0, .bool m1, .slice a1 l1 c1, .bool m2, .slice a2 l2 c2]] w fun e w' => ∃ m a l c m' a' l' c' m'' a'' l'' c'', e = .returned (.tuple #[.agg #[.bool m, .slice a l c, .bool m', .slice a' l' c', .bool false, .slice none 0 0], .agg #[.bool m'', .slice a'' l'' c'']]) ∧ NV w' m (.slice a l c) (X * U) 105 ∧ NV w' m' (.slice a' l' c') (Y * U) 105 ∧ NV w' m'' (.slice a'' l'' c'') (X * X + Y * Y) 107 ∧ Below w.heap.size w w' := by
 go_enter Tryz.func91, Tryz.ntmps91
 go_wp2_with fail
 obtain ⟨w0, hw, ka, kr, ks, bb⟩ := mk3 w [.bool m0, .slice a0 l0 c0, .bool m1, .slice a1 l1 c1, .bool m2, .slice a2 l2 c2] [.bool false, .slice none 0 0, .bool false, .slice none 0 0, .bool false, .slice none 0 0] [.bool false, .slice none 0 0] 74 74 72
 rw [← hw]
 clear hw
 have tr := kr.lt
 have ts := ks.lt
 replace nv0 := nv0.below bb
 replace nv1 := nv1.below bb
 replace nv2 := nv2.below bb
 have mkS : Hid (∀ w', Cel w' (w.heap.size) [.bool m0, .slice a0 l0 c0, .bool m1, .slice a1 l1 c1, .bool m2, .slice a2 l2 c2] 74 → (xc6 w' w.heap.size (.bool m0) (.slice a0 l0 c0) (.bool m1) (.slice a1 l1 c1) (.bool m2) (.slice a2 l2 c2))) := fun w' ha => (xk6 ha)
 have qar : w.heap.size ≠ w.heap.size + 1 := by omega
 have qas : w.heap.size ≠ w.heap.size + 1 + 1 := by omega
 go_region_held3 (fun w' => xc6 w' w.heap.size (.bool m0) (.slice a0 l0 c0) (.bool m1) (.slice a1 l1 c1) (.bool m2) (.slice a2 l2 c2)) (first | with_reducible exact mkS.out _ ka | with_reducible exact mkS.out _ (Cel.other (Cel.other (Cel.other (Cel.other (Cel.other (Cel.other ka qar 0 _) qar 1 _) qar 2 _) qar 3 _) qar 4 _) qar 5 _) | with_reducible exact mkS.out _ (Cel.other (Cel.other (Cel.other (Cel.other (Cel.other (Cel.other (Cel.other (Cel.other ka qar 0 _) qar 1 _) qar 2 _) qar 3 _) qar 4 _) qar 5 _) qas 0 _) qas 1 _) | exact mkS.out _ ka) (first | (go_at_call 74; go_fit (ntimes_any _ _ _ _ X U 53 52 _ (by omega) (by omega) ?_ ?_); (first | exact nv0 | exact nv0.drew); (first | exact nv2 | exact nv2.drew); rintro e wn ⟨m6, v6, rfl, nv6, -, bn⟩; obtain ⟨a6, l6, c6, rfl⟩ := nv6.slice; replace ka := ka.below (un bn); replace kr := kr.below (un bn); replace ks := ks.below (un bn); (try replace nv0 := nv0.below (un bn)); (try replace nv1 := nv1.below (un bn)); (try replace nv2 := nv2.below (un bn)); (try replace nv7 := nv7.below (un bn)); (try replace nv8 := nv8.below (un bn)); replace bb := Below.after bb (un bn)) | (go_at_call 74; go_fit (ntimes_any _ _ _ _ Y U 53 52 _ (by omega) (by omega) ?_ ?_); (first | exact nv1 | exact nv1.drew); (first | exact nv2 | exact nv2.drew); rintro e wn ⟨m7, v7, rfl, nv7, -, bn⟩; obtain ⟨a7, l7, c7, rfl⟩ := nv7.slice; replace ka := ka.below (un bn); replace kr := kr.below (un bn); replace ks := ks.below (un bn); (try replace nv0 := nv0.below (un bn)); (try replace nv1 := nv1.below (un bn)); (try replace nv2 := nv2.below (un bn)); (try replace nv6 := nv6.below (un bn)); (try replace nv8 := nv8.below (un bn)); replace bb := Below.after bb (un bn)) | (go_at_call 76; go_fit (ssquare_any _ _ _ _ _ _ _ _ _ _ _ _ X Y 53 _ (by omega) ?_ ?_); (first | exact nv0 | exact nv0.drew); (first | exact nv1 | exact nv1.drew); rintro e wn ⟨m8, v8, rfl, nv8, bn⟩; obtain ⟨a8, l8, c8, rfl⟩ := nv8.slice; replace ka := ka.below (un bn); replace kr := kr.below (un bn); replace ks := ks.below (un bn); (try replace nv0 := nv0.below (un bn)); (try replace nv1 := nv1.below (un bn)); (try replace nv2 := nv2.below (un bn)); (try replace nv6 := nv6.below (un bn)); (try replace nv7 := nv7.below (un bn)); replace bb := Below.after bb (un bn); have er0 := cel6_0 kr; have fr0 := Cel.frozen kr 0; have er1 := cel6_1 kr; have fr1 := Cel.frozen kr 1; have er2 := cel6_2 kr; have fr2 := Cel.frozen kr 2; have er3 := cel6_3 kr; have fr3 := Cel.frozen kr 3; have er4 := cel6_4 kr; have fr4 := Cel.frozen kr 4; have er5 := cel6_5 kr; have fr5 := Cel.frozen kr 5; have es0 := cel2_0 ks; have fs0 := Cel.frozen ks 0; have es1 := cel2_1 ks; have fs1 := Cel.frozen ks 1))
 replace nv6 := shut nv6
 replace nv7 := shut nv7
 replace nv8 := shut nv8
 go_wp2
 exact post_sn (p := 2) (q := 3) (by kernel_rfl) rfl rfl rfl (Cel.other (Cel.other ((((((kr.set 0 _).set 1 _).set 2 _).set 3 _).set 4 _).set 5 _) (by omega) _ _) (by omega) _ _) (((Cel.other (Cel.other (Cel.other (Cel.other (Cel.other (Cel.other ks (by omega) _ _) (by omega) _ _) (by omega) _ _) (by omega) _ _) (by omega) _ _) (by omega) _ _).set 0 _).set 1 _) ⟨_, _, _, _, _, _, _, _, _, _, _, _, rfl, (nv6.out.set6 kr _ _ _ _ _ _).set2 (Cel.other (Cel.other (Cel.other (Cel.other (Cel.other (Cel.other ks (by omega) _ _) (by omega) _ _) (by omega) _ _) (by omega) _ _) (by omega) _ _) (by omega) _ _) _ _, (nv7.out.set6 kr _ _ _ _ _ _).set2 (Cel.other (Cel.other (Cel.other (Cel.other (Cel.other (Cel.other ks (by omega) _ _) (by omega) _ _) (by omega) _ _) (by omega) _ _) (by omega) _ _) (by omega) _ _) _ _, (nv8.out.set6 kr _ _ _ _ _ _).set2 (Cel.other (Cel.other (Cel.other (Cel.other (Cel.other (Cel.other ks (by omega) _ _) (by omega) _ _) (by omega) _ _) (by omega) _ _) (by omega) _ _) (by omega) _ _) _ _, bset (bset (bset (bset (bset (bset (bset (bset bb (by omega) 0 _) (by omega) 1 _) (by omega) 2 _) (by omega) 3 _) (by omega) 4 _) (by omega) 5 _) (by omega) 0 _) (by omega) 1 _⟩
open Go.RowKit
theorem circle_walk (n0 n1 n2 n3 n4 n5 n6 n7 : Bool) (s0 d0 s1 d1 s2 d2 s3 d3 s4 d4 s5 d5 s6 d6 s7 d7 : ByteArray) (ra rb rc rd re rf : Rat) (w : World)
  (H1 : Hid (∀ w1, Calls Tryz.prog 70 #[.agg #[.bool n6, .string s6, .string d6, .bool n7, .string s7, .string d7], .agg #[.bool n0, .string s0, .string d0, .bool n1, .string s1, .string d1]] w1 fun e w' => ∃ m0 a0 l0 c0 m1 a1 l1 c1 a2 l2 c2 X Y U, e = .returned (.agg #[.bool m0, .slice a0 l0 c0, .bool m1, .slice a1 l1 c1, .bool false, .slice a2 l2 c2]) ∧ NV w' m0 (.slice a0 l0 c0) X 53 ∧ NV w' m1 (.slice a1 l1 c1) Y 53 ∧ NV w' false (.slice a2 l2 c2) U 52 ∧ Gm.Way X Y U ra rb ∧ Below w1.heap.size w1 w'))
  (H2 : Hid (∀ w1, Calls Tryz.prog 70 #[.agg #[.bool n6, .string s6, .string d6, .bool n7, .string s7, .string d7], .agg #[.bool n2, .string s2, .string d2, .bool n3, .string s3, .string d3]] w1 fun e w' => ∃ m0 a0 l0 c0 m1 a1 l1 c1 a2 l2 c2 X Y U, e = .returned (.agg #[.bool m0, .slice a0 l0 c0, .bool m1, .slice a1 l1 c1, .bool false, .slice a2 l2 c2]) ∧ NV w' m0 (.slice a0 l0 c0) X 53 ∧ NV w' m1 (.slice a1 l1 c1) Y 53 ∧ NV w' false (.slice a2 l2 c2) U 52 ∧ Gm.Way X Y U rc rd ∧ Below w1.heap.size w1 w'))
  (H3 : Hid (∀ w1, Calls Tryz.prog 70 #[.agg #[.bool n6, .string s6, .string d6, .bool n7, .string s7, .string d7], .agg #[.bool n4, .string s4, .string d4, .bool n5, .string s5, .string d5]] w1 fun e w' => ∃ m0 a0 l0 c0 m1 a1 l1 c1 a2 l2 c2 X Y U, e = .returned (.agg #[.bool m0, .slice a0 l0 c0, .bool m1, .slice a1 l1 c1, .bool false, .slice a2 l2 c2]) ∧ NV w' m0 (.slice a0 l0 c0) X 53 ∧ NV w' m1 (.slice a1 l1 c1) Y 53 ∧ NV w' false (.slice a2 l2 c2) U 52 ∧ Gm.Way X Y U re rf ∧ Below w1.heap.size w1 w')) :
  Calls Tryz.prog 47 #[.agg #[.bool n0, .string s0, .string d0, .bool n1, .string s1, .string d1], .agg #[.bool n2, .string s2, .string d2, .bool n3, .string s3, .string d3], .agg #[.bool n4, .string s4, .string d4, .bool n5, .string s5, .string d5], .agg #[.bool n6, .string s6, .string d6, .bool n7, .string s7, .string d7]] w fun e' w' => e' = .returned (.int .i64 (Gm.sg (Gm.lf ra rb rc rd re rf))) ∧ Below w.heap.size w w' := by
 go_enter Tryz.func47, Tryz.ntmps47
 go_wp2_with fail
 obtain ⟨w0, hw, ka, kb, kc, kd, bb⟩ := mk4 w [.bool n0, .string s0, .string d0, .bool n1, .string s1, .string d1] [.bool n2, .string s2, .string d2, .bool n3, .string s3, .string d3] [.bool n4, .string s4, .string d4, .bool n5, .string s5, .string d5] [.bool n6, .string s6, .string d6, .bool n7, .string s7, .string d7] 28 28 28 28
 rw [← hw]
 clear hw
 go_fit (H1.out _)
 rintro e' x0 ⟨m10, a10, l10, c10, m11, a11, l11, c11, a12, l12, c12, A, B, U, rfl, nv10, nv11, nv12, hw0, b1⟩
 replace kb := kb.below b1
 replace kc := kc.below b1
 replace kd := kd.below b1
 replace bb := Below.after bb b1
 clear b1
 go_wp2_with fail
 go_fit (lifted_any _ _ _ _ _ _ _ _ _ _ _ _ A B U _ nv10 nv11 nv12)
 rintro e' y0 ⟨m13, a13, l13, c13, m14, a14, l14, c14, m15, a15, l15, c15, rfl, nv13, nv14, nv15, b1⟩
 replace kb := kb.below b1
 replace kc := kc.below b1
 replace kd := kd.below b1
 replace bb := Below.after bb b1
 clear b1 nv10 nv11 nv12
 obtain ⟨zd0, zd1, zd2, zd3, zd4, zd5⟩ := xk6 ((kd.alloc (.cells #[.bool m13, .slice a13 l13 c13, .bool m14, .slice a14 l14 c14, .bool false, .slice none 0 0] 74)).alloc (.cells #[.bool m15, .slice a15 l15 c15] 72))
 obtain ⟨zb0, zb1, zb2, zb3, zb4, zb5⟩ := xk6 ((kb.alloc (.cells #[.bool m13, .slice a13 l13 c13, .bool m14, .slice a14 l14 c14, .bool false, .slice none 0 0] 74)).alloc (.cells #[.bool m15, .slice a15 l15 c15] 72))
 go_wp2_with fail
 obtain ⟨v0, hw, ks0, kn0, b1⟩ := mk2 y0 [.bool m13, .slice a13 l13 c13, .bool m14, .slice a14 l14 c14, .bool false, .slice none 0 0] [.bool m15, .slice a15 l15 c15] 74 72
 rw [← hw]
 clear hw zd0 zd1 zd2 zd3 zd4 zd5 zb0 zb1 zb2 zb3 zb4 zb5
 replace kb := kb.below b1
 replace kc := kc.below b1
 replace kd := kd.below b1
 replace nv13 := nv13.below b1
 replace nv14 := nv14.below b1
 replace nv15 := nv15.below b1
 replace bb := Below.after bb b1
 clear b1
 go_fit (H2.out _)
 rintro e' x1 ⟨m20, a20, l20, c20, m21, a21, l21, c21, a22, l22, c22, C, D, V, rfl, nv20, nv21, nv22, hw1, b1⟩
 replace kb := kb.below b1
 replace kc := kc.below b1
 replace kd := kd.below b1
 replace ks0 := ks0.below b1
 replace kn0 := kn0.below b1
 replace nv13 := nv13.below b1
 replace nv14 := nv14.below b1
 replace nv15 := nv15.below b1
 replace bb := Below.after bb b1
 clear b1
 go_wp2_with fail
 go_fit (lifted_any _ _ _ _ _ _ _ _ _ _ _ _ C D V _ nv20 nv21 nv22)
 rintro e' y1 ⟨m23, a23, l23, c23, m24, a24, l24, c24, m25, a25, l25, c25, rfl, nv23, nv24, nv25, b1⟩
 replace kb := kb.below b1
 replace kc := kc.below b1
 replace kd := kd.below b1
 replace ks0 := ks0.below b1
 replace kn0 := kn0.below b1
 replace nv13 := nv13.below b1
 replace nv14 := nv14.below b1
 replace nv15 := nv15.below b1
 replace bb := Below.after bb b1
 clear b1 nv20 nv21 nv22
 obtain ⟨zd0, zd1, zd2, zd3, zd4, zd5⟩ := xk6 ((kd.alloc (.cells #[.bool m23, .slice a23 l23 c23, .bool m24, .slice a24 l24 c24, .bool false, .slice none 0 0] 74)).alloc (.cells #[.bool m25, .slice a25 l25 c25] 72))
 obtain ⟨zc0, zc1, zc2, zc3, zc4, zc5⟩ := xk6 ((kc.alloc (.cells #[.bool m23, .slice a23 l23 c23, .bool m24, .slice a24 l24 c24, .bool false, .slice none 0 0] 74)).alloc (.cells #[.bool m25, .slice a25 l25 c25] 72))
 go_wp2_with fail
 obtain ⟨v1, hw, ks1, kn1, b1⟩ := mk2 y1 [.bool m23, .slice a23 l23 c23, .bool m24, .slice a24 l24 c24, .bool false, .slice none 0 0] [.bool m25, .slice a25 l25 c25] 74 72
 rw [← hw]
 clear hw zd0 zd1 zd2 zd3 zd4 zd5 zc0 zc1 zc2 zc3 zc4 zc5
 replace kb := kb.below b1
 replace kc := kc.below b1
 replace kd := kd.below b1
 replace ks0 := ks0.below b1
 replace kn0 := kn0.below b1
 replace nv13 := nv13.below b1
 replace nv14 := nv14.below b1
 replace nv15 := nv15.below b1
 replace nv23 := nv23.below b1
 replace nv24 := nv24.below b1
 replace nv25 := nv25.below b1
 replace bb := Below.after bb b1
 clear b1
 go_fit (H3.out _)
 rintro e' x2 ⟨m30, a30, l30, c30, m31, a31, l31, c31, a32, l32, c32, E, F, W, rfl, nv30, nv31, nv32, hw2, b1⟩
 replace kb := kb.below b1
 replace kc := kc.below b1
 replace kd := kd.below b1
 replace ks0 := ks0.below b1
 replace kn0 := kn0.below b1
 replace ks1 := ks1.below b1
 replace kn1 := kn1.below b1
 replace nv13 := nv13.below b1
 replace nv14 := nv14.below b1
 replace nv15 := nv15.below b1
 replace nv23 := nv23.below b1
 replace nv24 := nv24.below b1
 replace nv25 := nv25.below b1
 replace bb := Below.after bb b1
 clear b1
 go_wp2_with fail
 go_fit (lifted_any _ _ _ _ _ _ _ _ _ _ _ _ E F W _ nv30 nv31 nv32)
 rintro e' y2 ⟨m33, a33, l33, c33, m34, a34, l34, c34, m35, a35, l35, c35, rfl, nv33, nv34, nv35, b1⟩
 replace kb := kb.below b1
 replace kc := kc.below b1
 replace kd := kd.below b1
 replace ks0 := ks0.below b1
 replace kn0 := kn0.below b1
 replace ks1 := ks1.below b1
 replace kn1 := kn1.below b1
 replace nv13 := nv13.below b1
 replace nv14 := nv14.below b1
 replace nv15 := nv15.below b1
 replace nv23 := nv23.below b1
 replace nv24 := nv24.below b1
 replace nv25 := nv25.below b1
 replace bb := Below.after bb b1
 clear b1 nv30 nv31 nv32
 go_wp2_with fail
 obtain ⟨v2, hw, ks2, kn2, b1⟩ := mk2 y2 [.bool m33, .slice a33 l33 c33, .bool m34, .slice a34 l34 c34, .bool false, .slice none 0 0] [.bool m35, .slice a35 l35 c35] 74 72
 rw [← hw]
 clear hw
 replace kb := kb.below b1
 replace kc := kc.below b1
 replace kd := kd.below b1
 replace ks0 := ks0.below b1
 replace kn0 := kn0.below b1
 replace ks1 := ks1.below b1
 replace kn1 := kn1.below b1
 replace nv13 := nv13.below b1
 replace nv14 := nv14.below b1
 replace nv15 := nv15.below b1
 replace nv23 := nv23.below b1
 replace nv24 := nv24.below b1
 replace nv25 := nv25.below b1
 replace nv33 := nv33.below b1
 replace nv34 := nv34.below b1
 replace nv35 := nv35.below b1
 replace bb := Below.after bb b1
 clear b1
 have mk : Hid (∀ w', SB v2 w' → xc6 w' y0.heap.size (.bool m13) (.slice a13 l13 c13) (.bool m14) (.slice a14 l14 c14) (.bool false) (.slice none 0 0) ∧ xc2 w' (y0.heap.size + 1) (.bool m15) (.slice a15 l15 c15) ∧ xc6 w' y1.heap.size (.bool m23) (.slice a23 l23 c23) (.bool m24) (.slice a24 l24 c24) (.bool false) (.slice none 0 0) ∧ xc2 w' (y1.heap.size + 1) (.bool m25) (.slice a25 l25 c25) ∧ xc6 w' y2.heap.size (.bool m33) (.slice a33 l33 c33) (.bool m34) (.slice a34 l34 c34) (.bool false) (.slice none 0 0) ∧ xc2 w' (y2.heap.size + 1) (.bool m35) (.slice a35 l35 c35)) := fun w' h => ⟨xk6 (ks0.below h), xk2 (kn0.below h), xk6 (ks1.below h), xk2 (kn1.below h), xk6 (ks2.below h), xk2 (kn2.below h)⟩
 go_cut [15] from 37 to 53 (fun v wx => ∃ gc m48 a48 l48 c48, v = .pointer (some ⟨gc, 0, none⟩) ∧ v2.heap.size ≤ gc ∧ Cel wx gc [.bool m48, .slice a48 l48 c48] 72 ∧ NV wx m48 (.slice a48 l48 c48) ((A * A + B * B) * ((C * V) * (F * W) - (D * V) * (E * W)) + (C * C + D * D) * ((E * W) * (B * U) - (F * W) * (A * U)) + (E * E + F * F) * ((A * U) * (D * V) - (B * U) * (C * V))) ((107 + (105 + 105 + 1)) + 1 + 1) ∧ Below v2.heap.size v2 wx)
 case first =>
  clear H1 H2 H3
  refine wp_region_held_drew (S := SB v2) (by kernel_rfl) (bdrew _) (fun bc => ?_)
  refine WA.start (n := 19) (by kernel_rfl) ?_
  refine WA.tl 0 rfl ?_
  refine WA.tl 1 rfl ?_
  refine WA.tl 2 rfl ?_
  refine WA.tl 5 rfl ?_
  refine WA.tl 6 rfl ?_
  refine WA.tl 7 rfl ?_
  refine WA.tl 11 rfl ?_
  refine WA.tl 12 rfl ?_
  refine WA.tl 13 rfl ?_
  refine WA.gen (i := 17) (s := 15) undef (Pt v2 [.bool false, .slice none 0 0] 72) (fun b x hz => ?_)
  simp only [Act.put, List.setIfInBounds_toArray, List.set_cons_zero, List.set_cons_succ]
  revert b x
  refine WA.one 19 14567 3 17 rfl rfl bc ?_
  clear bc
  intro b x w' hz bx bc K hK
  clear bx
  simp only [List.getElem_toArray, List.getElem_cons_succ, List.getElem_cons_zero]
  go_simp
  go_fit (scross_any _ _ _ _ _ _ _ _ _ _ _ _ _ _ _ _ _ _ _ _ _ _ _ _ (C * V) (D * V) (E * W) (F * W) 105 _ (by omega) (nv23.below bc) (nv24.below bc) (nv33.below bc) (nv34.below bc))
  rintro e wn ⟨m41, v41, rfl, nv41, bn⟩
  obtain ⟨a41, l41, c41, rfl⟩ := nv41.slice
  replace bc := Below.after bc bn
  try go_wp2_with fail
  refine hK.out _ _ bc (fun _ => ?_)
  replace hz := fun h => (hz h).below bn
  clear hK K bn
  revert b x
  refine WA.one 19 14575 4 17 rfl rfl bc ?_
  clear bc
  intro b x w' hz bx bc K hK
  replace nv41 := nv41.below bx
  clear bx
  simp only [List.getElem_toArray, List.getElem_cons_succ, List.getElem_cons_zero]
  go_simp
  go_fit (ntimes_any _ _ _ _ (A * A + B * B) ((C * V) * (F * W) - (D * V) * (E * W)) 107 (105 + 105 + 1) _ (by omega) (by omega) (nv15.below bc) nv41)
  rintro e wn ⟨m42, v42, rfl, nv42, -, bn⟩
  obtain ⟨a42, l42, c42, rfl⟩ := nv42.slice
  replace bc := Below.after bc bn
  try go_wp2_with fail
  refine hK.out _ _ bc (fun _ => ?_)
  replace hz := fun h => (hz h).below bn
  clear hK K bn nv41
  revert b x
  refine WA.one 19 14591 8 17 rfl rfl bc ?_
  clear bc
  intro b x w' hz bx bc K hK
  replace nv42 := nv42.below bx
  clear bx
  simp only [List.getElem_toArray, List.getElem_cons_succ, List.getElem_cons_zero]
  go_simp
  go_fit (scross_any _ _ _ _ _ _ _ _ _ _ _ _ _ _ _ _ _ _ _ _ _ _ _ _ (E * W) (F * W) (A * U) (B * U) 105 _ (by omega) (nv33.below bc) (nv34.below bc) (nv13.below bc) (nv14.below bc))
  rintro e wn ⟨m43, v43, rfl, nv43, bn⟩
  obtain ⟨a43, l43, c43, rfl⟩ := nv43.slice
  replace bc := Below.after bc bn
  try go_wp2_with fail
  refine hK.out _ _ bc (fun _ => ?_)
  replace hz := fun h => (hz h).below bn
  replace nv42 := nv42.below bn
  clear hK K bn
  revert b x
  refine WA.one 19 14847 9 17 rfl rfl bc ?_
  clear bc
  intro b x w' hz bx bc K hK
  replace nv42 := nv42.below bx
  replace nv43 := nv43.below bx
  clear bx
  simp only [List.getElem_toArray, List.getElem_cons_succ, List.getElem_cons_zero]
  go_simp
  go_fit (ntimes_any _ _ _ _ (C * C + D * D) ((E * W) * (B * U) - (F * W) * (A * U)) 107 (105 + 105 + 1) _ (by omega) (by omega) (nv25.below bc) nv43)
  rintro e wn ⟨m44, v44, rfl, nv44, -, bn⟩
  obtain ⟨a44, l44, c44, rfl⟩ := nv44.slice
  replace bc := Below.after bc bn
  try go_wp2_with fail
  refine hK.out _ _ bc (fun _ => ?_)
  replace hz := fun h => (hz h).below bn
  replace nv42 := nv42.below bn
  clear hK K bn nv43
  revert b x
  refine WA.one 19 15359 10 17 rfl rfl bc ?_
  clear bc
  intro b x w' hz bx bc K hK
  replace nv42 := nv42.below bx
  replace nv44 := nv44.below bx
  clear bx
  simp only [List.getElem_toArray, List.getElem_cons_succ, List.getElem_cons_zero]
  go_simp
  go_fit (nplus_any _ _ _ _ ((A * A + B * B) * ((C * V) * (F * W) - (D * V) * (E * W))) ((C * C + D * D) * ((E * W) * (B * U) - (F * W) * (A * U))) (107 + (105 + 105 + 1)) _ (by omega) nv42 nv44)
  rintro e wn ⟨m45, v45, rfl, nv45, bn⟩
  obtain ⟨a45, l45, c45, rfl⟩ := nv45.slice
  replace bc := Below.after bc bn
  try go_wp2_with fail
  refine hK.out _ _ bc (fun _ => ?_)
  replace hz := fun h => (hz h).below bn
  clear hK K bn nv42 nv44
  revert b x
  refine WA.one 19 16383 14 17 rfl rfl bc ?_
  clear bc
  intro b x w' hz bx bc K hK
  replace nv45 := nv45.below bx
  clear bx
  simp only [List.getElem_toArray, List.getElem_cons_succ, List.getElem_cons_zero]
  go_simp
  go_fit (scross_any _ _ _ _ _ _ _ _ _ _ _ _ _ _ _ _ _ _ _ _ _ _ _ _ (A * U) (B * U) (C * V) (D * V) 105 _ (by omega) (nv13.below bc) (nv14.below bc) (nv23.below bc) (nv24.below bc))
  rintro e wn ⟨m46, v46, rfl, nv46, bn⟩
  obtain ⟨a46, l46, c46, rfl⟩ := nv46.slice
  replace bc := Below.after bc bn
  try go_wp2_with fail
  refine hK.out _ _ bc (fun _ => ?_)
  replace hz := fun h => (hz h).below bn
  replace nv45 := nv45.below bn
  clear hK K bn
  revert b x
  refine WA.one 19 32767 15 17 rfl rfl bc ?_
  clear bc
  intro b x w' hz bx bc K hK
  replace nv45 := nv45.below bx
  replace nv46 := nv46.below bx
  clear bx
  simp only [List.getElem_toArray, List.getElem_cons_succ, List.getElem_cons_zero]
  go_simp
  go_fit (ntimes_any _ _ _ _ (E * E + F * F) ((A * U) * (D * V) - (B * U) * (C * V)) 107 (105 + 105 + 1) _ (by omega) (by omega) (nv35.below bc) nv46)
  rintro e wn ⟨m47, v47, rfl, nv47, -, bn⟩
  obtain ⟨a47, l47, c47, rfl⟩ := nv47.slice
  replace bc := Below.after bc bn
  try go_wp2_with fail
  refine hK.out _ _ bc (fun _ => ?_)
  replace hz := fun h => (hz h).below bn
  replace nv45 := nv45.below bn
  clear hK K bn nv46
  revert b x
  refine WA.one 19 65535 16 17 rfl rfl bc ?_
  clear bc
  intro b x w' hz bx bc K hK
  replace nv45 := nv45.below bx
  replace nv47 := nv47.below bx
  clear bx
  simp only [List.getElem_toArray, List.getElem_cons_succ, List.getElem_cons_zero]
  go_simp
  go_fit (nplus_any _ _ _ _ ((A * A + B * B) * ((C * V) * (F * W) - (D * V) * (E * W)) + (C * C + D * D) * ((E * W) * (B * U) - (F * W) * (A * U))) ((E * E + F * F) * ((A * U) * (D * V) - (B * U) * (C * V))) ((107 + (105 + 105 + 1)) + 1) _ (by omega) nv45 (nv47.mono (by omega)))
  rintro e wn ⟨m48, v48, rfl, nv48, bn⟩
  obtain ⟨a48, l48, c48, rfl⟩ := nv48.slice
  replace bc := Below.after bc bn
  try go_wp2_with fail
  refine hK.out _ _ bc (fun _ => ?_)
  replace hz := fun h => (hz h).below bn
  clear hK K bn nv45 nv47
  revert b x
  refine WA.fin 17 rfl bc ?_
  clear bc
  intro x w' hz bx bc
  replace nv48 := nv48.below bx
  obtain ⟨g0, rfl, h0, k0⟩ := hz
  clear bx
  obtain ⟨e0, e1⟩ := xk2 k0
  have f0 := Cel.frozen k0 0
  have f1 := Cel.frozen k0 1
  refine WA.call 18 rfl (fun K hK => ?_)
  simp only [List.getElem_toArray, List.getElem_cons_succ, List.getElem_cons_zero]
  go_simp
  try go_wp2_with fail
  clear e0 f0 e1 f1
  replace bc := (bset (bset bc h0 0 (.bool m48)) h0 1 (.slice a48 l48 c48))
  refine hK.out _ _ bc (fun _ => ?_)
  clear hK K
  replace nv48 := nv48.set2 k0 (.bool m48) (.slice a48 l48 c48)
  replace k0 := (Cel.set (Cel.set k0 0 (.bool m48)) 1 (.slice a48 l48 c48))
  refine WA.done (by kernel_rfl) ?_
  go_wp2_with fail
  go_meet
  exact ⟨_, m48, a48, l48, c48, rfl, h0, k0, nv48, bc⟩
 case rest =>
 obtain ⟨gx, m48, a48, l48, c48, rfl, lx, kx, nv48, b1⟩ := hcut
 clear mk; have sz := b1.size
 replace ks0 := ks0.below b1
 replace kn0 := kn0.below b1
 replace ks1 := ks1.below b1
 replace kn1 := kn1.below b1
 replace ks2 := ks2.below b1
 replace kn2 := kn2.below b1
 replace bb := Below.after bb b1
 clear b1
 have tx := kx.lt
 obtain ⟨co0, co1⟩ := xk2 kx
 go_wp2_with fail
 go_fit (nsign_any _ _ ((A * A + B * B) * ((C * V) * (F * W) - (D * V) * (E * W)) + (C * C + D * D) * ((E * W) * (B * U) - (F * W) * (A * U)) + (E * E + F * F) * ((A * U) * (D * V) - (B * U) * (C * V))) ((107 + (105 + 105 + 1)) + 1 + 1) _ nv48)
 rintro e' wz ⟨rfl, b1⟩
 replace bb := Below.after bb b1
 rw [Gm.lift_sign hw0 hw1 hw2]
 go_wp2
 go_ret
 exact ⟨rfl, bb⟩
open Go.RowKit
theorem rdpt_3 {w : World} {B : Nat} {t : TypeId} {n0 n1 n2 n3 n4 n5 : Bool} {s0 d0 s1 d1 s2 d2 s3 d3 s4 d4 s5 d5 : ByteArray} (h : Cel w B [.bool n0, .string s0, .string d0, .bool n1, .string s1, .string d1, .bool n2, .string s2, .string d2, .bool n3, .string s3, .string d3, .bool n4, .string s4, .string d4, .bool n5, .string s5, .string d5] t) : RdPt w (some ⟨B, 0, none⟩) 3 (f4 n0 n2 n4 n4) (f4 s0 s2 s4 s4) (f4 d0 d2 d4 d4) (f4 n1 n3 n5 n5) (f4 s1 s3 s5 s5) (f4 d1 d3 d5 d5) := by
 intro j hj
 refine ⟨B, 0, rfl, ?_⟩
 match j, hj with
 | 0, _ => exact ⟨h.cell 0, h.cell 1, h.cell 2, h.cell 3, h.cell 4, h.cell 5⟩
 | 1, _ => exact ⟨h.cell 6, h.cell 7, h.cell 8, h.cell 9, h.cell 10, h.cell 11⟩
 | 2, _ => exact ⟨h.cell 12, h.cell 13, h.cell 14, h.cell 15, h.cell 16, h.cell 17⟩
theorem rdpt_4 {w : World} {B : Nat} {t : TypeId} {n0 n1 n2 n3 n4 n5 n6 n7 : Bool} {s0 d0 s1 d1 s2 d2 s3 d3 s4 d4 s5 d5 s6 d6 s7 d7 : ByteArray} (h : Cel w B [.bool n0, .string s0, .string d0, .bool n1, .string s1, .string d1, .bool n2, .string s2, .string d2, .bool n3, .string s3, .string d3, .bool n4, .string s4, .string d4, .bool n5, .string s5, .string d5, .bool n6, .string s6, .string d6, .bool n7, .string s7, .string d7] t) : RdPt w (some ⟨B, 0, none⟩) 4 (f4 n0 n2 n4 n6) (f4 s0 s2 s4 s6) (f4 d0 d2 d4 d6) (f4 n1 n3 n5 n7) (f4 s1 s3 s5 s7) (f4 d1 d3 d5 d7) := by
 intro j hj
 refine ⟨B, 0, rfl, ?_⟩
 match j, hj with
 | 0, _ => exact ⟨h.cell 0, h.cell 1, h.cell 2, h.cell 3, h.cell 4, h.cell 5⟩
 | 1, _ => exact ⟨h.cell 6, h.cell 7, h.cell 8, h.cell 9, h.cell 10, h.cell 11⟩
 | 2, _ => exact ⟨h.cell 12, h.cell 13, h.cell 14, h.cell 15, h.cell 16, h.cell 17⟩
 | 3, _ => exact ⟨h.cell 18, h.cell 19, h.cell 20, h.cell 21, h.cell 22, h.cell 23⟩
theorem scheck3 (B : Nat) (n0 n1 n2 n3 n4 n5 : Bool) (s0 d0 s1 d1 s2 d2 s3 d3 s4 d4 s5 d5 : ByteArray) (w : World) (hT : Tab w) (h : Cel w B [.bool n0, .string s0, .string d0, .bool n1, .string s1, .string d1, .bool n2, .string s2, .string d2, .bool n3, .string s3, .string d3, .bool n4, .string s4, .string d4, .bool n5, .string s5, .string d5] 28) (z0 : s0.size ≤ 100 ∧ d0.size ≤ 100) (z1 : s1.size ≤ 100 ∧ d1.size ≤ 100) (z2 : s2.size ≤ 100 ∧ d2.size ≤ 100) (z3 : s3.size ≤ 100 ∧ d3.size ≤ 100) (z4 : s4.size ≤ 100 ∧ d4.size ≤ 100) (z5 : s5.size ≤ 100 ∧ d5.size ≤ 100) :
  Calls Tryz.prog 45 #[.slice (some ⟨B, 0, none⟩) 3 3] w fun e w' => e = .returned (.int .i64 (twoc (twoc (twoq n0 s0 d0 n1 s1 d1) (twoq n2 s2 d2 n3 s3 d3)) (twoq n4 s4 d4 n5 s5 d5) : Nat)) ∧ Below w.heap.size w w' := by
 refine scheck_walk (some ⟨B, 0, none⟩) 3 3 _ _ _ _ _ _ (f4 (twoq n0 s0 d0 n1 s1 d1) (twoq n2 s2 d2 n3 s3 d3) (twoq n4 s4 d4 n5 s5 d5) 0) w (by omega) (rdpt_3 h) (fun j hj => ?_) (fun j w1 hj b => ?_)
 ·match j, hj with
  | 0, _ => exact ⟨z0.1, z0.2, z1.1, z1.2⟩
  | 1, _ => exact ⟨z2.1, z2.2, z3.1, z3.2⟩
  | 2, _ => exact ⟨z4.1, z4.2, z5.1, z5.2⟩
 ·match j, hj with
  | 0, _ => exact vCheck_any n0 n1 s0 d0 s1 d1 w1 (hT.below b)
  | 1, _ => exact vCheck_any n2 n3 s2 d2 s3 d3 w1 (hT.below b)
  | 2, _ => exact vCheck_any n4 n5 s4 d4 s5 d5 w1 (hT.below b)
theorem scheck4 (B : Nat) (n0 n1 n2 n3 n4 n5 n6 n7 : Bool) (s0 d0 s1 d1 s2 d2 s3 d3 s4 d4 s5 d5 s6 d6 s7 d7 : ByteArray) (w : World) (hT : Tab w) (h : Cel w B [.bool n0, .string s0, .string d0, .bool n1, .string s1, .string d1, .bool n2, .string s2, .string d2, .bool n3, .string s3, .string d3, .bool n4, .string s4, .string d4, .bool n5, .string s5, .string d5, .bool n6, .string s6, .string d6, .bool n7, .string s7, .string d7] 28) (z0 : s0.size ≤ 100 ∧ d0.size ≤ 100) (z1 : s1.size ≤ 100 ∧ d1.size ≤ 100) (z2 : s2.size ≤ 100 ∧ d2.size ≤ 100) (z3 : s3.size ≤ 100 ∧ d3.size ≤ 100) (z4 : s4.size ≤ 100 ∧ d4.size ≤ 100) (z5 : s5.size ≤ 100 ∧ d5.size ≤ 100) (z6 : s6.size ≤ 100 ∧ d6.size ≤ 100) (z7 : s7.size ≤ 100 ∧ d7.size ≤ 100) :
  Calls Tryz.prog 45 #[.slice (some ⟨B, 0, none⟩) 4 4] w fun e w' => e = .returned (.int .i64 (twoc (twoc (twoc (twoq n0 s0 d0 n1 s1 d1) (twoq n2 s2 d2 n3 s3 d3)) (twoq n4 s4 d4 n5 s5 d5)) (twoq n6 s6 d6 n7 s7 d7) : Nat)) ∧ Below w.heap.size w w' := by
 refine scheck_walk (some ⟨B, 0, none⟩) 4 4 _ _ _ _ _ _ (f4 (twoq n0 s0 d0 n1 s1 d1) (twoq n2 s2 d2 n3 s3 d3) (twoq n4 s4 d4 n5 s5 d5) (twoq n6 s6 d6 n7 s7 d7)) w (by omega) (rdpt_4 h) (fun j hj => ?_) (fun j w1 hj b => ?_)
 ·match j, hj with
  | 0, _ => exact ⟨z0.1, z0.2, z1.1, z1.2⟩
  | 1, _ => exact ⟨z2.1, z2.2, z3.1, z3.2⟩
  | 2, _ => exact ⟨z4.1, z4.2, z5.1, z5.2⟩
  | 3, _ => exact ⟨z6.1, z6.2, z7.1, z7.2⟩
 ·match j, hj with
  | 0, _ => exact vCheck_any n0 n1 s0 d0 s1 d1 w1 (hT.below b)
  | 1, _ => exact vCheck_any n2 n3 s2 d2 s3 d3 w1 (hT.below b)
  | 2, _ => exact vCheck_any n4 n5 s4 d4 s5 d5 w1 (hT.below b)
  | 3, _ => exact vCheck_any n6 n7 s6 d6 s7 d7 w1 (hT.below b)
theorem sturn_any (n0 n1 n2 n3 n4 n5 : Bool) (s0 d0 s1 d1 s2 d2 s3 d3 s4 d4 s5 d5 : ByteArray) (w : World) (o0 : OkQ n0 s0 d0) (o1 : OkQ n1 s1 d1) (o2 : OkQ n2 s2 d2) (o3 : OkQ n3 s3 d3) (o4 : OkQ n4 s4 d4) (o5 : OkQ n5 s5 d5) (z0 : s0.size ≤ 100 ∧ d0.size ≤ 100) (z1 : s1.size ≤ 100 ∧ d1.size ≤ 100) (z2 : s2.size ≤ 100 ∧ d2.size ≤ 100) (z3 : s3.size ≤ 100 ∧ d3.size ≤ 100) (z4 : s4.size ≤ 100 ∧ d4.size ≤ 100) (z5 : s5.size ≤ 100 ∧ d5.size ≤ 100) :
  Calls Tryz.prog 46 #[.agg #[.bool n0, .string s0, .string d0, .bool n1, .string s1, .string d1], .agg #[.bool n2, .string s2, .string d2, .bool n3, .string s3, .string d3], .agg #[.bool n4, .string s4, .string d4, .bool n5, .string s5, .string d5]] w fun e w' => e = .returned (.int .i64 (Gm.sg (Gm.cr (qOf n0 s0 d0) (qOf n1 s1 d1) (qOf n2 s2 d2) (qOf n3 s3 d3) (qOf n4 s4 d4) (qOf n5 s5 d5)))) ∧ Below w.heap.size w w' :=
 turn_walk n0 n1 n2 n3 n4 n5 s0 d0 s1 d1 s2 d2 s3 d3 s4 d4 s5 d5 _ _ _ _ w (fun w1 => sof_any n0 n1 n2 n3 s0 d0 s1 d1 s2 d2 s3 d3 w1 o0 o1 o2 o3 z0 z1 z2 z3) (fun w1 => sof_any n0 n1 n4 n5 s0 d0 s1 d1 s4 d4 s5 d5 w1 o0 o1 o4 o5 z0 z1 z4 z5)
theorem scircle_any (n0 n1 n2 n3 n4 n5 n6 n7 : Bool) (s0 d0 s1 d1 s2 d2 s3 d3 s4 d4 s5 d5 s6 d6 s7 d7 : ByteArray) (w : World) (o0 : OkQ n0 s0 d0) (o1 : OkQ n1 s1 d1) (o2 : OkQ n2 s2 d2) (o3 : OkQ n3 s3 d3) (o4 : OkQ n4 s4 d4) (o5 : OkQ n5 s5 d5) (o6 : OkQ n6 s6 d6) (o7 : OkQ n7 s7 d7) (z0 : s0.size ≤ 100 ∧ d0.size ≤ 100) (z1 : s1.size ≤ 100 ∧ d1.size ≤ 100) (z2 : s2.size ≤ 100 ∧ d2.size ≤ 100) (z3 : s3.size ≤ 100 ∧ d3.size ≤ 100) (z4 : s4.size ≤ 100 ∧ d4.size ≤ 100) (z5 : s5.size ≤ 100 ∧ d5.size ≤ 100) (z6 : s6.size ≤ 100 ∧ d6.size ≤ 100) (z7 : s7.size ≤ 100 ∧ d7.size ≤ 100) :
  Calls Tryz.prog 47 #[.agg #[.bool n0, .string s0, .string d0, .bool n1, .string s1, .string d1], .agg #[.bool n2, .string s2, .string d2, .bool n3, .string s3, .string d3], .agg #[.bool n4, .string s4, .string d4, .bool n5, .string s5, .string d5], .agg #[.bool n6, .string s6, .string d6, .bool n7, .string s7, .string d7]] w fun e w' => e = .returned (.int .i64 (Gm.sg (Gm.ci (qOf n0 s0 d0) (qOf n1 s1 d1) (qOf n2 s2 d2) (qOf n3 s3 d3) (qOf n4 s4 d4) (qOf n5 s5 d5) (qOf n6 s6 d6) (qOf n7 s7 d7)))) ∧ Below w.heap.size w w' :=
 circle_walk n0 n1 n2 n3 n4 n5 n6 n7 s0 d0 s1 d1 s2 d2 s3 d3 s4 d4 s5 d5 s6 d6 s7 d7 _ _ _ _ _ _ w (fun w1 => sof_any n6 n7 n0 n1 s6 d6 s7 d7 s0 d0 s1 d1 w1 o6 o7 o0 o1 z6 z7 z0 z1) (fun w1 => sof_any n6 n7 n2 n3 s6 d6 s7 d7 s2 d2 s3 d3 w1 o6 o7 o2 o3 z6 z7 z2 z3) (fun w1 => sof_any n6 n7 n4 n5 s6 d6 s7 d7 s4 d4 s5 d5 w1 o6 o7 o4 o5 z6 z7 z4 z5)
theorem sg_small (r : Rat) : Gm.sg r = 0 ∨ Gm.sg r = 1 ∨ Gm.sg r = -1 := by
 rcases Gm.sg_cases r with h | h | h
 ·exact Or.inl h.2
 ·exact Or.inr (Or.inl h.2)
 ·exact Or.inr (Or.inr h.2)
theorem about_walk (n0 n1 n2 n3 n4 n5 : Bool) (s0 d0 s1 d1 s2 d2 s3 d3 s4 d4 s5 d5 : ByteArray) (x y x' y' : Rat) (w : World)
  (H1 : Hid (∀ w1, Calls Tryz.prog 70 #[.agg #[.bool n4, .string s4, .string d4, .bool n5, .string s5, .string d5], .agg #[.bool n0, .string s0, .string d0, .bool n1, .string s1, .string d1]] w1 fun e w' => ∃ m0 a0 l0 c0 m1 a1 l1 c1 a2 l2 c2 X Y U, e = .returned (.agg #[.bool m0, .slice a0 l0 c0, .bool m1, .slice a1 l1 c1, .bool false, .slice a2 l2 c2]) ∧ NV w' m0 (.slice a0 l0 c0) X 53 ∧ NV w' m1 (.slice a1 l1 c1) Y 53 ∧ NV w' false (.slice a2 l2 c2) U 52 ∧ Gm.Way X Y U x y ∧ Below w1.heap.size w1 w'))
  (H2 : Hid (∀ w1, Calls Tryz.prog 70 #[.agg #[.bool n4, .string s4, .string d4, .bool n5, .string s5, .string d5], .agg #[.bool n2, .string s2, .string d2, .bool n3, .string s3, .string d3]] w1 fun e w' => ∃ m0 a0 l0 c0 m1 a1 l1 c1 a2 l2 c2 X Y U, e = .returned (.agg #[.bool m0, .slice a0 l0 c0, .bool m1, .slice a1 l1 c1, .bool false, .slice a2 l2 c2]) ∧ NV w' m0 (.slice a0 l0 c0) X 53 ∧ NV w' m1 (.slice a1 l1 c1) Y 53 ∧ NV w' false (.slice a2 l2 c2) U 52 ∧ Gm.Way X Y U x' y' ∧ Below w1.heap.size w1 w')) :
  Calls Tryz.prog 55 #[.agg #[.bool n0, .string s0, .string d0, .bool n1, .string s1, .string d1], .agg #[.bool n2, .string s2, .string d2, .bool n3, .string s3, .string d3], .agg #[.bool n4, .string s4, .string d4, .bool n5, .string s5, .string d5]] w fun e w' => e = .returned (.int .i64 (-(Gm.sg (x * x' + y * y')))) ∧ Below w.heap.size w w' := by
 go_enter Tryz.func55, Tryz.ntmps55
 go_wp2_with fail
 obtain ⟨w0, hw, ka, kb, kc, bb⟩ := mk3 w [.bool n0, .string s0, .string d0, .bool n1, .string s1, .string d1] [.bool n2, .string s2, .string d2, .bool n3, .string s3, .string d3] [.bool n4, .string s4, .string d4, .bool n5, .string s5, .string d5] 28 28 28
 rw [← hw]
 clear hw
 have hs := sg_small (x * x' + y * y')
 have hwr : IntKind.i64.wrap (-(Gm.sg (x * x' + y * y'))) = -(Gm.sg (x * x' + y * y')) := by rw [IntKind.wrap_i64]; omega
 clear hs
 generalize hG : Gm.sg (x * x' + y * y') = G at *
 replace hG := shut hG
 have mkS : Hid (∀ w', Cel w' (w.heap.size) [.bool n0, .string s0, .string d0, .bool n1, .string s1, .string d1] 28 → Cel w' (w.heap.size + 1) [.bool n2, .string s2, .string d2, .bool n3, .string s3, .string d3] 28 → Cel w' (w.heap.size + 1 + 1) [.bool n4, .string s4, .string d4, .bool n5, .string s5, .string d5] 28 → (xc6 w' w.heap.size (.bool n0) (.string s0) (.string d0) (.bool n1) (.string s1) (.string d1) ∧ xc6 w' (w.heap.size + 1) (.bool n2) (.string s2) (.string d2) (.bool n3) (.string s3) (.string d3) ∧ xc6 w' (w.heap.size + 1 + 1) (.bool n4) (.string s4) (.string d4) (.bool n5) (.string s5) (.string d5))) := fun w' ha hb hc => ⟨xk6 ha, xk6 hb, xk6 hc⟩
 go_region_held3 (fun w' => xc6 w' w.heap.size (.bool n0) (.string s0) (.string d0) (.bool n1) (.string s1) (.string d1) ∧ xc6 w' (w.heap.size + 1) (.bool n2) (.string s2) (.string d2) (.bool n3) (.string s3) (.string d3) ∧ xc6 w' (w.heap.size + 1 + 1) (.bool n4) (.string s4) (.string d4) (.bool n5) (.string s5) (.string d5)) (first | with_reducible exact mkS.out _ ka kb kc | exact mkS.out _ ka kb kc) (first | (go_at_call 70; go_fit (H1.out _); rintro e wn ⟨m0, a0, l0, c0, m1, a1, l1, c1, a2, l2, c2, X, Y, U, rfl, nv0, nv1, nv2, hw0, bn⟩; replace ka := ka.below (un bn); replace kb := kb.below (un bn); replace kc := kc.below (un bn); (try replace nv3 := nv3.below (un bn)); (try replace nv4 := nv4.below (un bn)); (try replace nv6 := nv6.below (un bn)); replace bb := Below.after bb (un bn)) | (go_at_call 70; go_fit (H2.out _); rintro e wn ⟨m3, a3, l3, c3, m4, a4, l4, c4, a5, l5, c5, X', Y', U', rfl, nv3, nv4, nv5, hw1, bn⟩; replace ka := ka.below (un bn); replace kb := kb.below (un bn); replace kc := kc.below (un bn); (try replace nv0 := nv0.below (un bn)); (try replace nv1 := nv1.below (un bn)); (try replace nv6 := nv6.below (un bn)); replace bb := Below.after bb (un bn)) | (go_at_call 71; go_fit (sdot_any _ _ _ _ _ _ _ _ _ _ _ _ _ _ _ _ _ _ _ _ _ _ _ _ X Y X' Y' 53 _ (by omega) ?_ ?_ ?_ ?_); (first | exact nv0 | exact nv0.drew); (first | exact nv1 | exact nv1.drew); (first | exact nv3 | exact nv3.drew); (first | exact nv4 | exact nv4.drew); rintro e wn ⟨m6, v6, rfl, nv6, bn⟩; obtain ⟨a6, l6, c6, rfl⟩ := nv6.slice; replace ka := ka.below (un bn); replace kb := kb.below (un bn); replace kc := kc.below (un bn); (try replace nv0 := nv0.below (un bn)); (try replace nv1 := nv1.below (un bn)); (try replace nv3 := nv3.below (un bn)); (try replace nv4 := nv4.below (un bn)); replace bb := Below.after bb (un bn)) | (go_at_call 72; go_fit (nsign_any _ _ (X * X' + Y * Y') (53 + 53 + 1) _ ?_); (first | exact nv6 | exact nv6.drew); rintro e wn ⟨rfl, bn⟩; rw [Gm.dot_sign hw0 hw1, hG.out]; replace ka := ka.below (un bn); replace kb := kb.below (un bn); replace kc := kc.below (un bn); (try replace nv0 := nv0.below (un bn)); (try replace nv1 := nv1.below (un bn)); (try replace nv3 := nv3.below (un bn)); (try replace nv4 := nv4.below (un bn)); (try replace nv6 := nv6.below (un bn)); replace bb := Below.after bb (un bn)))
 go_wp2
 go_ret
 exact ⟨by rw [hG.out]; rfl, bb⟩
theorem about_any (n0 n1 n2 n3 n4 n5 : Bool) (s0 d0 s1 d1 s2 d2 s3 d3 s4 d4 s5 d5 : ByteArray) (w : World) (o0 : OkQ n0 s0 d0) (o1 : OkQ n1 s1 d1) (o2 : OkQ n2 s2 d2) (o3 : OkQ n3 s3 d3) (o4 : OkQ n4 s4 d4) (o5 : OkQ n5 s5 d5) (z0 : s0.size ≤ 100 ∧ d0.size ≤ 100) (z1 : s1.size ≤ 100 ∧ d1.size ≤ 100) (z2 : s2.size ≤ 100 ∧ d2.size ≤ 100) (z3 : s3.size ≤ 100 ∧ d3.size ≤ 100) (z4 : s4.size ≤ 100 ∧ d4.size ≤ 100) (z5 : s5.size ≤ 100 ∧ d5.size ≤ 100) :
  Calls Tryz.prog 55 #[.agg #[.bool n0, .string s0, .string d0, .bool n1, .string s1, .string d1], .agg #[.bool n2, .string s2, .string d2, .bool n3, .string s3, .string d3], .agg #[.bool n4, .string s4, .string d4, .bool n5, .string s5, .string d5]] w fun e w' => e = .returned (.int .i64 (-(Gm.sg (Gm.dt (qOf n0 s0 d0) (qOf n1 s1 d1) (qOf n2 s2 d2) (qOf n3 s3 d3) (qOf n4 s4 d4) (qOf n5 s5 d5))))) ∧ Below w.heap.size w w' :=
 about_walk n0 n1 n2 n3 n4 n5 s0 d0 s1 d1 s2 d2 s3 d3 s4 d4 s5 d5 _ _ _ _ w (fun w1 => sof_any n4 n5 n0 n1 s4 d4 s5 d5 s0 d0 s1 d1 w1 o4 o5 o0 o1 z4 z5 z0 z1) (fun w1 => sof_any n4 n5 n2 n3 s4 d4 s5 d5 s2 d2 s3 d3 w1 o4 o5 o2 o3 z4 z5 z2 z3)
end Go.Proofs.YtiiigiggcbbgjaaGreatDoor
