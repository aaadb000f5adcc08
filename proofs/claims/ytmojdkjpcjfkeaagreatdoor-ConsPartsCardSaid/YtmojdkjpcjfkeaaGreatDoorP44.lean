/-
  gussetlaw06: at, short, small.
  gussetref04: Check, Scale; gussetlaw04: VecScales, walked.
  gussetlaw04: VecScales, of any point and number.
  gussetref05: Asked; signs and products of rational numbers in their one form.
  gussetref06: Asked; gussetref05: Asked of one point.
  Rational numbers in their one form: how long sums and products get; the reference's calls over them.
  Package geom, walked.
  gussetlaw06: ConsParts, walked.
  gussetlaw06: ConsParts, walked.
-/
import Derived.Test.YtmojdkjpcjfkeaaGreatDoorP41
import Derived.Test.YtmojdkjpcjfkeaaGreatDoorP42
import Derived.Test.YtmojdkjpcjfkeaaGreatDoorP43
set_option maxRecDepth 100000
set_option maxHeartbeats 16000000
namespace Go.Proofs.YtmojdkjpcjfkeaaGreatDoor
open Go.RowKit
theorem lat6_any (x y : Int) (h1 : -1000 ≤ x) (h2 : x ≤ 1000) (h3 : -1000 ≤ y) (h4 : y ≤ 1000) (w : World) :
  Calls Tryz.prog 54 #[.int .i64 x, .int .i64 y] w (Re w (.agg #[.bool (nfZ x), .string (sfZ x), .string ⟨#[1]⟩, .bool (nfZ y), .string (sfZ y), .string ⟨#[1]⟩])) := by
 have H1 := shut (fun w => roq_any x h1 h2 w)
 have H2 := shut (fun w => roq_any y h3 h4 w)
 clear h1 h2 h3 h4
 go_enter Tryz.func54, Tryz.ntmps54
 go_wp2_with fail
 go_fit (H1.out _)
 rintro e w1 ⟨rfl, b1⟩
 obtain ⟨kr, bb⟩ := al1 b1
 clear b1
 go_wp2_with fail
 go_fit (H2.out _)
 rintro e w2 ⟨rfl, b1⟩
 replace kr := kr.below b1
 replace bb := Below.after bb b1
 clear b1
 have f0 := Cel.frozen kr 0
 have f1 := Cel.frozen kr 1
 have f2 := Cel.frozen kr 2
 have f3 := Cel.frozen kr 3
 have f4 := Cel.frozen kr 4
 have f5 := Cel.frozen kr 5
 obtain ⟨r0, r1, r2, r3, r4, r5⟩ := xk6 kr
 go_wp2
 exact post_p (p := 4) (by kernel_rfl) rfl rfl (kr.set6 _ _ _ _ _ _) ⟨rfl, bset6 bb (Nat.le_refl _) _ _ _ _ _ _⟩
def sh6 (s d : ByteArray) : Bool := decide (s.size ≤ 60 ∧ d.size ≤ 60)
theorem short6_any (n : Bool) (s d : ByteArray) (w : World) :
  Calls Tryz.prog 34 #[.agg #[.bool n, .string s, .string d]] w (Re w (.bool (sh6 s d))) := by
 by_cases hs : s.size ≤ 60
 ·by_cases hd : d.size ≤ 60
  ·have e : Hid (sh6 s d = true) := decide_eq_true ⟨hs, hd⟩
   have i1 : (s.size : Int) ≤ 60 := by omega
   have i2 : (d.size : Int) ≤ 60 := by omega
   go_enter Tryz.func34, Tryz.ntmps34
   go_wp2
   go_ret
   exact ⟨by rw [e.out]; rfl, bel_al _ _⟩
  ·have e : Hid (sh6 s d = false) := decide_eq_false fun h => hd h.2
   have i1 : (s.size : Int) ≤ 60 := by omega
   have i2 : ¬ (d.size : Int) ≤ 60 := by omega
   go_enter Tryz.func34, Tryz.ntmps34
   go_wp2
   go_ret
   exact ⟨by rw [e.out]; rfl, bel_al _ _⟩
 ·have e : Hid (sh6 s d = false) := decide_eq_false fun h => hs h.1
  have i1 : ¬ (s.size : Int) ≤ 60 := by omega
  go_enter Tryz.func34, Tryz.ntmps34
  go_wp2
  go_ret
  exact ⟨by rw [e.out]; rfl, bel_al _ _⟩
theorem c18 {w : World} {g : Nat} {t : TypeId} {x0 x1 x2 x3 x4 x5 x6 x7 x8 x9 x10 x11 x12 x13 x14 x15 x16 x17 : Value} (h : Cel w g [x0, x1, x2, x3, x4, x5, x6, x7, x8, x9, x10, x11, x12, x13, x14, x15, x16, x17] t) : w.cell? ⟨g, 0, none⟩ = some x0 ∧ w.cell? ⟨g, 1, none⟩ = some x1 ∧ w.cell? ⟨g, 2, none⟩ = some x2 ∧ w.cell? ⟨g, 3, none⟩ = some x3 ∧ w.cell? ⟨g, 4, none⟩ = some x4 ∧ w.cell? ⟨g, 5, none⟩ = some x5 ∧ w.cell? ⟨g, 6, none⟩ = some x6 ∧ w.cell? ⟨g, 7, none⟩ = some x7 ∧ w.cell? ⟨g, 8, none⟩ = some x8 ∧ w.cell? ⟨g, 9, none⟩ = some x9 ∧ w.cell? ⟨g, 10, none⟩ = some x10 ∧ w.cell? ⟨g, 11, none⟩ = some x11 ∧ w.cell? ⟨g, 12, none⟩ = some x12 ∧ w.cell? ⟨g, 13, none⟩ = some x13 ∧ w.cell? ⟨g, 14, none⟩ = some x14 ∧ w.cell? ⟨g, 15, none⟩ = some x15 ∧ w.cell? ⟨g, 16, none⟩ = some x16 ∧ w.cell? ⟨g, 17, none⟩ = some x17 :=
 ⟨h.cell 0, h.cell 1, h.cell 2, h.cell 3, h.cell 4, h.cell 5, h.cell 6, h.cell 7, h.cell 8, h.cell 9, h.cell 10, h.cell 11, h.cell 12, h.cell 13, h.cell 14, h.cell 15, h.cell 16, h.cell 17⟩
theorem small6_walk (n0 n1 n2 n3 n4 n5 : Bool) (s0 d0 s1 d1 s2 d2 s3 d3 s4 d4 s5 d5 : ByteArray) (B0 B1 B2 B3 B4 B5 : Bool) (w : World)
  (H0 : Hid (∀ w1, Calls Tryz.prog 34 #[.agg #[.bool n0, .string s0, .string d0]] w1 (Re w1 (.bool B0))))
  (H1 : Hid (∀ w1, Calls Tryz.prog 34 #[.agg #[.bool n1, .string s1, .string d1]] w1 (Re w1 (.bool B1))))
  (H2 : Hid (∀ w1, Calls Tryz.prog 34 #[.agg #[.bool n2, .string s2, .string d2]] w1 (Re w1 (.bool B2))))
  (H3 : Hid (∀ w1, Calls Tryz.prog 34 #[.agg #[.bool n3, .string s3, .string d3]] w1 (Re w1 (.bool B3))))
  (H4 : Hid (∀ w1, Calls Tryz.prog 34 #[.agg #[.bool n4, .string s4, .string d4]] w1 (Re w1 (.bool B4))))
  (H5 : Hid (∀ w1, Calls Tryz.prog 34 #[.agg #[.bool n5, .string s5, .string d5]] w1 (Re w1 (.bool B5)))) :
  Calls Tryz.prog 16 #[.agg #[.bool n0, .string s0, .string d0, .bool n1, .string s1, .string d1, .bool n2, .string s2, .string d2, .bool n3, .string s3, .string d3, .bool n4, .string s4, .string d4, .bool n5, .string s5, .string d5]] w (Re w (.bool (B0 && (B1 && (B2 && (B3 && (B4 && B5))))))) := by
 go_enter Tryz.func16, Tryz.ntmps16
 go_wp2_with fail
 go_fit (H0.out _)
 rintro e w0 ⟨rfl, b1⟩
 obtain ⟨k, bb⟩ := al1 b1
 clear b1
 cases B0 with
 | false =>
  go_wp2
  go_ret
  exact ⟨by simp only [Bool.false_and]; rfl, bb⟩
 | true =>
 obtain ⟨c0, c1, c2, c3, c4, c5, c6, c7, c8, c9, c10, c11, c12, c13, c14, c15, c16, c17⟩ := c18 k
 go_wp2_with fail
 go_fit (H1.out _)
 rintro e w1 ⟨rfl, b1⟩
 replace k := k.below b1
 replace bb := Below.after bb b1
 clear b1
 clear c0 c1 c2 c3 c4 c5 c6 c7 c8 c9 c10 c11 c12 c13 c14 c15 c16 c17
 cases B1 with
 | false =>
  go_wp2
  go_ret
  exact ⟨by simp only [Bool.true_and, Bool.false_and]; rfl, bb⟩
 | true =>
 obtain ⟨c0, c1, c2, c3, c4, c5, c6, c7, c8, c9, c10, c11, c12, c13, c14, c15, c16, c17⟩ := c18 k
 go_wp2_with fail
 go_fit (H2.out _)
 rintro e w2 ⟨rfl, b1⟩
 replace k := k.below b1
 replace bb := Below.after bb b1
 clear b1
 clear c0 c1 c2 c3 c4 c5 c6 c7 c8 c9 c10 c11 c12 c13 c14 c15 c16 c17
 cases B2 with
 | false =>
  go_wp2
  go_ret
  exact ⟨by simp only [Bool.true_and, Bool.false_and]; rfl, bb⟩
 | true =>
 obtain ⟨c0, c1, c2, c3, c4, c5, c6, c7, c8, c9, c10, c11, c12, c13, c14, c15, c16, c17⟩ := c18 k
 go_wp2_with fail
 go_fit (H3.out _)
 rintro e w3 ⟨rfl, b1⟩
 replace k := k.below b1
 replace bb := Below.after bb b1
 clear b1
 clear c0 c1 c2 c3 c4 c5 c6 c7 c8 c9 c10 c11 c12 c13 c14 c15 c16 c17
 cases B3 with
 | false =>
  go_wp2
  go_ret
  exact ⟨by simp only [Bool.true_and, Bool.false_and]; rfl, bb⟩
 | true =>
 obtain ⟨c0, c1, c2, c3, c4, c5, c6, c7, c8, c9, c10, c11, c12, c13, c14, c15, c16, c17⟩ := c18 k
 go_wp2_with fail
 go_fit (H4.out _)
 rintro e w4 ⟨rfl, b1⟩
 replace k := k.below b1
 replace bb := Below.after bb b1
 clear b1
 clear c0 c1 c2 c3 c4 c5 c6 c7 c8 c9 c10 c11 c12 c13 c14 c15 c16 c17
 cases B4 with
 | false =>
  go_wp2
  go_ret
  exact ⟨by simp only [Bool.true_and, Bool.false_and]; rfl, bb⟩
 | true =>
 obtain ⟨c0, c1, c2, c3, c4, c5, c6, c7, c8, c9, c10, c11, c12, c13, c14, c15, c16, c17⟩ := c18 k
 go_wp2_with fail
 go_fit (H5.out _)
 rintro e w5 ⟨rfl, b1⟩
 replace k := k.below b1
 replace bb := Below.after bb b1
 clear b1
 clear c0 c1 c2 c3 c4 c5 c6 c7 c8 c9 c10 c11 c12 c13 c14 c15 c16 c17
 go_wp2
 go_ret
 exact ⟨by simp only [Bool.true_and]; rfl, bb⟩
theorem small6_any (n0 n1 n2 n3 n4 n5 : Bool) (s0 d0 s1 d1 s2 d2 s3 d3 s4 d4 s5 d5 : ByteArray) (w : World) :
  Calls Tryz.prog 16 #[.agg #[.bool n0, .string s0, .string d0, .bool n1, .string s1, .string d1, .bool n2, .string s2, .string d2, .bool n3, .string s3, .string d3, .bool n4, .string s4, .string d4, .bool n5, .string s5, .string d5]] w (Re w (.bool (sh6 s0 d0 && (sh6 s1 d1 && (sh6 s2 d2 && (sh6 s3 d3 && (sh6 s4 d4 && sh6 s5 d5))))))) :=
 small6_walk n0 n1 n2 n3 n4 n5 s0 d0 s1 d1 s2 d2 s3 d3 s4 d4 s5 d5 _ _ _ _ _ _ w (fun w1 => short6_any n0 s0 d0 w1) (fun w1 => short6_any n1 s1 d1 w1) (fun w1 => short6_any n2 s2 d2 w1) (fun w1 => short6_any n3 s3 d3 w1) (fun w1 => short6_any n4 s4 d4 w1) (fun w1 => short6_any n5 s5 d5 w1)
end Go.Proofs.YtmojdkjpcjfkeaaGreatDoor
namespace Go.Proofs.YtmojdkjpcjfkeaaGreatDoor
open Go.RowKit Go.Shelf
theorem rchk4_walk (n0 n1 : Bool) (s0 d0 s1 d1 : ByteArray) (E : Int) (w : World)
  (H1 : Hid (∀ w1, Calls Tryz.prog 95 #[.agg #[.bool n0, .string s0, .string d0], .agg #[.bool n1, .string s1, .string d1]] w1 (Re w1 (.int .i64 E)))) :
  Calls Tryz.prog 48 #[.agg #[.bool n0, .string s0, .string d0, .bool n1, .string s1, .string d1]] w (Re w (.int .i64 E)) := by
 go_enter Tryz.func48, Tryz.ntmps48
 go_wp2_with fail
 go_fit (H1.out _)
 rintro e w1 ⟨rfl, b1⟩
 obtain ⟨ka, b1⟩ := al1 b1
 have sz := b1.size
 have bb := b1
 clear b1
 have ta := ka.lt
 go_wp2
 go_ret
 exact ⟨rfl, bb⟩
end Go.Proofs.YtmojdkjpcjfkeaaGreatDoor
namespace Go.Proofs.YtmojdkjpcjfkeaaGreatDoor
open Go.RowKit Go.Shelf
theorem rchk4_any (n0 n1 : Bool) (s0 d0 s1 d1 : ByteArray) (w : World) (z0 : s0.size ≤ 8000) (y0 : d0.size ≤ 8000) (z1 : s1.size ≤ 8000) (y1 : d1.size ≤ 8000) :
  Calls Tryz.prog 48 #[.agg #[.bool n0, .string s0, .string d0, .bool n1, .string s1, .string d1]] w (Re w (.int .i64 (twoq n0 s0 d0 n1 s1 d1 : Nat))) :=
 rchk4_walk n0 n1 s0 d0 s1 d1 _ w (fun w1 => bothq_any n0 n1 s0 d0 s1 d1 w1 z0 y0 z1 y1)
open Go.RowKit
theorem rlong_no (n : Bool) (s d : ByteArray) (w : World) (z : s.size ≤ 100 ∧ d.size ≤ 100) :
  Calls Tryz.prog 47 #[.agg #[.bool n, .string s, .string d]] w (Re w (.bool false)) := by
 have i0 : ¬ (100 : Int) < s.size := by omega
 have i1 : ¬ (100 : Int) < d.size := by omega
 go_enter Tryz.func47, Tryz.ntmps47
 go_wp2
 go_ret
 exact ⟨rfl, bel_al _ _⟩
theorem asked_walk (a : Option Addr) (n cap : Nat) (N N' : Nat → Bool) (S D S' D' : Nat → ByteArray) (c : Nat → Nat) (w : World) (hn : n ≤ 1000000) (h : RdPt w a n N S D N' S' D')
  (HZ : Hid (∀ k, k < n → (S k).size ≤ 100 ∧ (D k).size ≤ 100 ∧ (S' k).size ≤ 100 ∧ (D' k).size ≤ 100))
  (HC : Hid (∀ (k : Nat) (w1 : World), k < n → Calls Tryz.prog 48 #[.agg #[.bool (N k), .string (S k), .string (D k), .bool (N' k), .string (S' k), .string (D' k)]] w1 (Re w1 (.int .i64 (c k : Nat))))) :
  Calls Tryz.prog 13 #[.slice a n cap] w (Re w (.int .i64 (firstE c n : Nat))) := by
 replace h := shut h
 go_enter Tryz.func13, Tryz.ntmps13
 go_wp2
 go_loopw [3] (fun i wr => Below w.heap.size w wr ∧ ∃ k : Nat, k ≤ n ∧ i = .int .i64 k ∧ firstE c k = 0) (fun i _ => n - (intOf i).toNat)
 case atStart => exact ⟨Below.refl _ _, 0, by omega, rfl, rfl⟩
 case round =>
  obtain ⟨bb, k, hk, rfl, hz⟩ := hrel
  by_cases hkn : k < n
  ·obtain ⟨b, off, rfl, h0, h1, h2, h3, h4, h5⟩ := h.out.below bb k hkn
   go_wp2_with fail
   go_fit (rlong_no _ _ _ _ ⟨(HZ.out k hkn).1, (HZ.out k hkn).2.1⟩)
   rintro e w1 ⟨rfl, b1⟩
   replace bb := Below.after bb b1
   replace h0 := cell_below h0 b1
   replace h1 := cell_below h1 b1
   replace h2 := cell_below h2 b1
   replace h3 := cell_below h3 b1
   replace h4 := cell_below h4 b1
   replace h5 := cell_below h5 b1
   clear b1
   go_wp2_with fail
   go_fit (rlong_no _ _ _ _ ⟨(HZ.out k hkn).2.2.1, (HZ.out k hkn).2.2.2⟩)
   rintro e w2 ⟨rfl, b1⟩
   replace bb := Below.after bb b1
   replace h0 := cell_below h0 b1
   replace h1 := cell_below h1 b1
   replace h2 := cell_below h2 b1
   replace h3 := cell_below h3 b1
   replace h4 := cell_below h4 b1
   replace h5 := cell_below h5 b1
   clear b1
   go_wp2_with fail
   go_fit (HC.out k _ hkn)
   rintro e w3 ⟨rfl, b1⟩
   replace bb := Below.after bb b1
   clear b1 h0 h1 h2 h3 h4 h5
   by_cases hc : c k = 0
   ·have hs : firstE c (k + 1) = 0 := by unfold firstE; rw [if_pos hz, hc]
    replace hs := shut hs
    replace hz := shut hz
    rw [hc]
    go_wp2
    exact ⟨⟨bb, k + 1, by omega, by go_num, hs.out⟩, by simp [intOf]; omega⟩
   ·have hs := firstE_stop hz hc n hkn
    replace hs := shut hs
    replace hz := shut hz
    go_wp2
    go_ret
    exact ⟨by rw [hs.out]; rfl, bb⟩
  ·obtain rfl : k = n := by omega
   replace hz := shut hz
   go_wp2
   go_ret
   exact ⟨by rw [hz.out]; rfl, bb⟩
theorem asked3 (B : Nat) (n0 n1 n2 n3 n4 n5 : Bool) (s0 d0 s1 d1 s2 d2 s3 d3 s4 d4 s5 d5 : ByteArray) (w : World) (h : Cel w B [.bool n0, .string s0, .string d0, .bool n1, .string s1, .string d1, .bool n2, .string s2, .string d2, .bool n3, .string s3, .string d3, .bool n4, .string s4, .string d4, .bool n5, .string s5, .string d5] 28) (z0 : s0.size ≤ 100 ∧ d0.size ≤ 100) (z1 : s1.size ≤ 100 ∧ d1.size ≤ 100) (z2 : s2.size ≤ 100 ∧ d2.size ≤ 100) (z3 : s3.size ≤ 100 ∧ d3.size ≤ 100) (z4 : s4.size ≤ 100 ∧ d4.size ≤ 100) (z5 : s5.size ≤ 100 ∧ d5.size ≤ 100) :
  Calls Tryz.prog 13 #[.slice (some ⟨B, 0, none⟩) 3 3] w (Re w (.int .i64 (two (two (twoq n0 s0 d0 n1 s1 d1) (twoq n2 s2 d2 n3 s3 d3)) (twoq n4 s4 d4 n5 s5 d5) : Nat))) := by
 refine asked_walk (some ⟨B, 0, none⟩) 3 3 _ _ _ _ _ _ (f4 (twoq n0 s0 d0 n1 s1 d1) (twoq n2 s2 d2 n3 s3 d3) (twoq n4 s4 d4 n5 s5 d5) 0) w (by omega) (rdpt_3 h) (fun j hj => ?_) (fun j w1 hj => ?_)
 ·match j, hj with
  | 0, _ => exact ⟨z0.1, z0.2, z1.1, z1.2⟩
  | 1, _ => exact ⟨z2.1, z2.2, z3.1, z3.2⟩
  | 2, _ => exact ⟨z4.1, z4.2, z5.1, z5.2⟩
 ·match j, hj with
  | 0, _ => exact rchk4_any n0 n1 s0 d0 s1 d1 w1 (by omega) (by omega) (by omega) (by omega)
  | 1, _ => exact rchk4_any n2 n3 s2 d2 s3 d3 w1 (by omega) (by omega) (by omega) (by omega)
  | 2, _ => exact rchk4_any n4 n5 s4 d4 s5 d5 w1 (by omega) (by omega) (by omega) (by omega)
open Go.RowKit
theorem rdpt_1 {w : World} {B : Nat} {t : TypeId} {n0 n1 : Bool} {s0 d0 s1 d1 : ByteArray} (h : Cel w B [.bool n0, .string s0, .string d0, .bool n1, .string s1, .string d1] t) : RdPt w (some ⟨B, 0, none⟩) 1 (fun _ => n0) (fun _ => s0) (fun _ => d0) (fun _ => n1) (fun _ => s1) (fun _ => d1) := by
 intro j hj
 refine ⟨B, 0, rfl, ?_⟩
 match j, hj with
 | 0, _ => exact ⟨h.cell 0, h.cell 1, h.cell 2, h.cell 3, h.cell 4, h.cell 5⟩
theorem first1 (c : Nat) : firstE (fun _ => c) 1 = c := by
 unfold firstE
 simp [firstE]
theorem asked1 (B : Nat) (n0 n1 : Bool) (s0 d0 s1 d1 : ByteArray) (w : World) (h : Cel w B [.bool n0, .string s0, .string d0, .bool n1, .string s1, .string d1] 28) (z0 : s0.size ≤ 100 ∧ d0.size ≤ 100) (z1 : s1.size ≤ 100 ∧ d1.size ≤ 100) :
  Calls Tryz.prog 13 #[.slice (some ⟨B, 0, none⟩) 1 1] w (Re w (.int .i64 (twoq n0 s0 d0 n1 s1 d1 : Nat))) := by
 have := asked_walk (some ⟨B, 0, none⟩) 1 1 _ _ _ _ _ _ (fun _ => twoq n0 s0 d0 n1 s1 d1) w (by omega) (rdpt_1 h) (fun j hj => ⟨z0.1, z0.2, z1.1, z1.2⟩) (fun j w1 hj => rchk4_any n0 n1 s0 d0 s1 d1 w1 (by omega) (by omega) (by omega) (by omega))
 rwa [show firstE (fun _ => twoq n0 s0 d0 n1 s1 d1) 1 = twoq n0 s0 d0 n1 s1 d1 from first1 _] at this
theorem asked6_walk (n0 n1 n2 n3 n4 n5 : Bool) (s0 d0 s1 d1 s2 d2 s3 d3 s4 d4 s5 d5 : ByteArray) (E : Int) (w : World)
  (HA : Hid (∀ (w1 : World) (B : Nat), Below w.heap.size w w1 → Cel w1 B [.bool n0, .string s0, .string d0, .bool n1, .string s1, .string d1, .bool n2, .string s2, .string d2, .bool n3, .string s3, .string d3, .bool n4, .string s4, .string d4, .bool n5, .string s5, .string d5] 28 → Calls Tryz.prog 13 #[.slice (some ⟨B, 0, none⟩) 3 3] w1 (Re w1 (.int .i64 E)))) :
  Calls Tryz.prog 19 #[.agg #[.bool n0, .string s0, .string d0, .bool n1, .string s1, .string d1], .agg #[.bool n2, .string s2, .string d2, .bool n3, .string s3, .string d3], .agg #[.bool n4, .string s4, .string d4, .bool n5, .string s5, .string d5]] w (Re w (.int .i64 E)) := by
 go_enter Tryz.func19, Tryz.ntmps19
 go_wp2_with fail
 obtain ⟨w0, hw, ka, kb, kc, kl, bb⟩ := mk4 w [.bool n0, .string s0, .string d0, .bool n1, .string s1, .string d1] [.bool n2, .string s2, .string d2, .bool n3, .string s3, .string d3] [.bool n4, .string s4, .string d4, .bool n5, .string s5, .string d5] [.bool n0, .string s0, .string d0, .bool n1, .string s1, .string d1, .bool n2, .string s2, .string d2, .bool n3, .string s3, .string d3, .bool n4, .string s4, .string d4, .bool n5, .string s5, .string d5] 28 28 28 28
 rw [← hw]
 clear hw
 go_fit (HA.out _ _ bb kl)
 rintro e w1 ⟨rfl, b1⟩
 replace bb := Below.after bb b1
 clear b1 ka kb kc kl
 go_wp2
 go_ret
 exact ⟨rfl, bb⟩
theorem asked6_any (n0 n1 n2 n3 n4 n5 : Bool) (s0 d0 s1 d1 s2 d2 s3 d3 s4 d4 s5 d5 : ByteArray) (w : World) (z0 : s0.size ≤ 100 ∧ d0.size ≤ 100) (z1 : s1.size ≤ 100 ∧ d1.size ≤ 100) (z2 : s2.size ≤ 100 ∧ d2.size ≤ 100) (z3 : s3.size ≤ 100 ∧ d3.size ≤ 100) (z4 : s4.size ≤ 100 ∧ d4.size ≤ 100) (z5 : s5.size ≤ 100 ∧ d5.size ≤ 100) :
  Calls Tryz.prog 19 #[.agg #[.bool n0, .string s0, .string d0, .bool n1, .string s1, .string d1], .agg #[.bool n2, .string s2, .string d2, .bool n3, .string s3, .string d3], .agg #[.bool n4, .string s4, .string d4, .bool n5, .string s5, .string d5]] w (Re w (.int .i64 (two (two (twoq n0 s0 d0 n1 s1 d1) (twoq n2 s2 d2 n3 s3 d3)) (twoq n4 s4 d4 n5 s5 d5) : Nat))) :=
 asked6_walk n0 n1 n2 n3 n4 n5 s0 d0 s1 d1 s2 d2 s3 d3 s4 d4 s5 d5 _ w (fun w1 B _ h => asked3 B n0 n1 n2 n3 n4 n5 s0 d0 s1 d1 s2 d2 s3 d3 s4 d4 s5 d5 w1 h z0 z1 z2 z3 z4 z5)
theorem canon {n : Bool} {s d : ByteArray} {K : Nat} (h : chkq n s d = 0) (z : s.size ≤ K ∧ d.size ≤ K) : ∃ x : Rat, Bq x K ∧ n = nfZ x.num ∧ s = sfZ x.num ∧ d = strOf x.den := by
 have o := (chkq_zero h).1
 obtain ⟨e1, e2, e3⟩ := o.parts
 refine ⟨qOf n s d, ⟨?_, ?_⟩, e1.symm, e2.symm, e3.symm⟩
 ·rw [o.low.1]; exact bd_zOf z.1
 ·rw [o.low.2]
  have := bd_zOf (n := false) z.2
  simpa [zOf] using this
end Go.Proofs.YtmojdkjpcjfkeaaGreatDoor
namespace Go.Proofs.YtmojdkjpcjfkeaaGreatDoor
open Go.RowKit Go.Shelf
theorem rsumI (x y : Rat) {K : Nat} (hK : K ≤ 4000) (bx : Bq x K) (bY : Bq y K) (w : World) :
  Calls Tryz.prog 35 #[.agg #[.bool (nfZ (x).num), .string (sfZ (x).num), .string (strOf (x).den)], .agg #[.bool (nfZ (y).num), .string (sfZ (y).num), .string (strOf (y).den)]] w (Re w (.agg #[.bool (nfZ (x + y).num), .string (sfZ (x + y).num), .string (strOf (x + y).den)])) := by
 have zx := bx.2.size
 have zy := bY.2.size
 have := rsumq_any (nfZ x.num) (nfZ y.num) (sfZ x.num) (strOf x.den) (sfZ y.num) (strOf y.den) w (okQ_qI x) (okQ_qI y) hK bx.1.size (by simpa using zx) bY.1.size (by simpa using zy)
 rw [show qOf (nfZ x.num) (sfZ x.num) (strOf x.den) = x from qOf_qI x, show qOf (nfZ y.num) (sfZ y.num) (strOf y.den) = y from qOf_qI y] at this
 exact this
open Go.RowKit
theorem mk5 (w : World) (c0 c1 c2 c3 c4 : List Value) (t0 t1 t2 t3 t4 : TypeId) : ∃ w', w' = ((((w.alloc (.cells c0.toArray t0)).alloc (.cells c1.toArray t1)).alloc (.cells c2.toArray t2)).alloc (.cells c3.toArray t3)).alloc (.cells c4.toArray t4) ∧ Cel w' w.heap.size c0 t0 ∧ Cel w' (w.heap.size + 1) c1 t1 ∧ Cel w' (w.heap.size + 1 + 1) c2 t2 ∧ Cel w' (w.heap.size + 1 + 1 + 1) c3 t3 ∧ Cel w' (w.heap.size + 1 + 1 + 1 + 1) c4 t4 ∧ Below w.heap.size w w' := by
 obtain ⟨v, hv, k0, k1, k2, k3, b⟩ := mk4 w c0 c1 c2 c3 t0 t1 t2 t3
 obtain ⟨u, hu, k4, b'⟩ := mk1 v c4 t4
 have hs : v.heap.size = w.heap.size + 1 + 1 + 1 + 1 := by rw [hv]; simp
 refine ⟨u, by rw [hu, hv], k0.below b', k1.below b', k2.below b', k3.below b', by rw [← hs]; exact k4, Below.after b b'⟩
open Go.RowKit
theorem parts6_ok (n0 n1 n2 n3 n4 n5 n6 n7 : Bool) (s0 d0 s1 d1 s2 d2 s3 d3 s4 d4 s5 d5 s6 d6 s7 d7 : ByteArray) (eN fN gN hN tN : Bool) (eS eD fS fD gS gD hS hD tS tD : ByteArray) (w : World)
  (HS : Hid (∀ w1, Calls Tryz.prog 16 #[.agg #[.bool n0, .string s0, .string d0, .bool n1, .string s1, .string d1, .bool n2, .string s2, .string d2, .bool n3, .string s3, .string d3, .bool n4, .string s4, .string d4, .bool n5, .string s5, .string d5]] w1 (Re w1 (.bool true))))
  (HX : Hid (∀ w1, Calls Tryz.prog 34 #[.agg #[.bool n6, .string s6, .string d6]] w1 (Re w1 (.bool true))))
  (HY : Hid (∀ w1, Calls Tryz.prog 34 #[.agg #[.bool n7, .string s7, .string d7]] w1 (Re w1 (.bool true))))
  (HA : Hid (∀ w1, Below w.heap.size w w1 → Calls Tryz.prog 19 #[.agg #[.bool n0, .string s0, .string d0, .bool n1, .string s1, .string d1], .agg #[.bool n2, .string s2, .string d2, .bool n3, .string s3, .string d3], .agg #[.bool n4, .string s4, .string d4, .bool n5, .string s5, .string d5]] w1 (Re w1 (.int .i64 (0)))))
  (HP : Hid (∀ (w1 : World) (B : Nat), Below w.heap.size w w1 → Cel w1 B [.bool n6, .string s6, .string d6, .bool n7, .string s7, .string d7] 28 → Calls Tryz.prog 13 #[.slice (some ⟨B, 0, none⟩) 1 1] w1 (Re w1 (.int .i64 (0)))))
  (HL : Hid (∀ w1, Below w.heap.size w w1 → Calls Tryz.prog 17 #[] w1 (Re w1 (.bool true))))
  (R1 : Hid (∀ w1, Below w.heap.size w w1 → Calls Tryz.prog 22 #[.agg #[.bool n0, .string s0, .string d0, .bool n1, .string s1, .string d1], .agg #[.bool n2, .string s2, .string d2, .bool n3, .string s3, .string d3], .agg #[.bool n4, .string s4, .string d4, .bool n5, .string s5, .string d5]] w1 (Re w1 (.tuple #[.agg #[.bool eN, .string eS, .string eD], .int .i64 0]))))
  (R2 : Hid (∀ w1, Below w.heap.size w w1 → Calls Tryz.prog 22 #[.agg #[.bool n0, .string s0, .string d0, .bool n1, .string s1, .string d1], .agg #[.bool n2, .string s2, .string d2, .bool n3, .string s3, .string d3], .agg #[.bool n6, .string s6, .string d6, .bool n7, .string s7, .string d7]] w1 (Re w1 (.tuple #[.agg #[.bool fN, .string fS, .string fD], .int .i64 0]))))
  (R3 : Hid (∀ w1, Below w.heap.size w w1 → Calls Tryz.prog 22 #[.agg #[.bool n2, .string s2, .string d2, .bool n3, .string s3, .string d3], .agg #[.bool n4, .string s4, .string d4, .bool n5, .string s5, .string d5], .agg #[.bool n6, .string s6, .string d6, .bool n7, .string s7, .string d7]] w1 (Re w1 (.tuple #[.agg #[.bool gN, .string gS, .string gD], .int .i64 0]))))
  (R4 : Hid (∀ w1, Below w.heap.size w w1 → Calls Tryz.prog 22 #[.agg #[.bool n4, .string s4, .string d4, .bool n5, .string s5, .string d5], .agg #[.bool n0, .string s0, .string d0, .bool n1, .string s1, .string d1], .agg #[.bool n6, .string s6, .string d6, .bool n7, .string s7, .string d7]] w1 (Re w1 (.tuple #[.agg #[.bool hN, .string hS, .string hD], .int .i64 0]))))
  (S1 : Hid (∀ w1, Below w.heap.size w w1 → Calls Tryz.prog 35 #[.agg #[.bool gN, .string gS, .string gD], .agg #[.bool hN, .string hS, .string hD]] w1 (Re w1 (.agg #[.bool tN, .string tS, .string tD]))))
  (S2 : Hid (∀ w1, Below w.heap.size w w1 → Calls Tryz.prog 35 #[.agg #[.bool fN, .string fS, .string fD], .agg #[.bool tN, .string tS, .string tD]] w1 (Re w1 (.agg #[.bool eN, .string eS, .string eD])))) :
  Calls Tryz.prog 8 #[.agg #[.bool n0, .string s0, .string d0, .bool n1, .string s1, .string d1, .bool n2, .string s2, .string d2, .bool n3, .string s3, .string d3, .bool n4, .string s4, .string d4, .bool n5, .string s5, .string d5], .agg #[.bool n6, .string s6, .string d6, .bool n7, .string s7, .string d7]] w (Re w (.bool true)) := by
 go_enter Tryz.func8, Tryz.ntmps8
 go_wp2_with (first | (refine wpList_load_row rfl 44 _ rfl w.heap.size rfl 44 _ (0, 0) _ ((Cel.new w [.bool n0, .string s0, .string d0, .bool n1, .string s1, .string d1, .bool n2, .string s2, .string d2, .bool n3, .string s3, .string d3, .bool n4, .string s4, .string d4, .bool n5, .string s5, .string d5] 44).alloc _) Tryz.underlying44 rfl (by kernel_rfl) ?_) | fail)
 go_wp2_with fail
 go_fit (HS.out _)
 rintro e w1 ⟨rfl, b1⟩
 obtain ⟨kt, kp, bb⟩ := al2 b1
 clear b1
 obtain ⟨q0, q1, q2, q3, q4, q5⟩ := xk6 kp
 go_wp2_with fail
 go_fit (HX.out _)
 rintro e w2 ⟨rfl, b1⟩
 replace kt := kt.below b1
 replace kp := kp.below b1
 replace bb := Below.after bb b1
 clear b1
 clear q0 q1 q2 q3 q4 q5
 obtain ⟨q0, q1, q2, q3, q4, q5⟩ := xk6 kp
 go_wp2_with fail
 go_fit (HY.out _)
 rintro e w3 ⟨rfl, b1⟩
 replace kt := kt.below b1
 replace kp := kp.below b1
 replace bb := Below.after bb b1
 clear b1
 clear q0 q1 q2 q3 q4 q5
 obtain ⟨c0, c1, c2, c3, c4, c5, c6, c7, c8, c9, c10, c11, c12, c13, c14, c15, c16, c17⟩ := c18 kt
 go_wp2_with fail
 go_fit (HA.out _ bb)
 rintro e w4 ⟨rfl, b1⟩
 replace kt := kt.below b1
 replace kp := kp.below b1
 replace bb := Below.after bb b1
 clear b1
 clear c0 c1 c2 c3 c4 c5 c6 c7 c8 c9 c10 c11 c12 c13 c14 c15 c16 c17
 obtain ⟨q0, q1, q2, q3, q4, q5⟩ := xk6 kp
 go_wp2_with fail
 obtain ⟨w5, hw, kl, b1⟩ := mk1 w4 [.bool n6, .string s6, .string d6, .bool n7, .string s7, .string d7] 28
 rw [← hw]
 clear hw
 replace kt := kt.below b1
 replace kp := kp.below b1
 replace bb := Below.after bb b1
 clear b1
 clear q0 q1 q2 q3 q4 q5
 go_fit (HP.out _ _ bb kl)
 rintro e w6 ⟨rfl, b1⟩
 replace kt := kt.below b1
 replace kp := kp.below b1
 replace bb := Below.after bb b1
 clear b1
 clear kl
 obtain ⟨c0, c1, c2, c3, c4, c5, c6, c7, c8, c9, c10, c11, c12, c13, c14, c15, c16, c17⟩ := c18 kt
 go_wp2_with fail
 go_fit (R1.out _ bb)
 rintro e w7 ⟨rfl, b1⟩
 replace kt := kt.below b1
 replace kp := kp.below b1
 replace bb := Below.after bb b1
 clear b1
 clear c0 c1 c2 c3 c4 c5 c6 c7 c8 c9 c10 c11 c12 c13 c14 c15 c16 c17
 obtain ⟨c0, c1, c2, c3, c4, c5, c6, c7, c8, c9, c10, c11, c12, c13, c14, c15, c16, c17⟩ := c18 (kt.alloc (.cells #[.bool eN, .string eS, .string eD] 26))
 obtain ⟨q0, q1, q2, q3, q4, q5⟩ := xk6 (kp.alloc (.cells #[.bool eN, .string eS, .string eD] 26))
 go_wp2_with fail
 obtain ⟨x7, hw, ke, b1⟩ := mk1 w7 [.bool eN, .string eS, .string eD] 26
 rw [← hw]
 clear hw c0 c1 c2 c3 c4 c5 c6 c7 c8 c9 c10 c11 c12 c13 c14 c15 c16 c17 q0 q1 q2 q3 q4 q5
 replace kt := kt.below b1
 replace kp := kp.below b1
 replace bb := Below.after bb b1
 clear b1
 go_fit (R2.out _ bb)
 rintro e w8 ⟨rfl, b1⟩
 replace kt := kt.below b1
 replace kp := kp.below b1
 replace ke := ke.below b1
 replace bb := Below.after bb b1
 clear b1
 obtain ⟨c0, c1, c2, c3, c4, c5, c6, c7, c8, c9, c10, c11, c12, c13, c14, c15, c16, c17⟩ := c18 (kt.alloc (.cells #[.bool fN, .string fS, .string fD] 26))
 obtain ⟨q0, q1, q2, q3, q4, q5⟩ := xk6 (kp.alloc (.cells #[.bool fN, .string fS, .string fD] 26))
 go_wp2_with fail
 obtain ⟨x8, hw, kf, b1⟩ := mk1 w8 [.bool fN, .string fS, .string fD] 26
 rw [← hw]
 clear hw c0 c1 c2 c3 c4 c5 c6 c7 c8 c9 c10 c11 c12 c13 c14 c15 c16 c17 q0 q1 q2 q3 q4 q5
 replace kt := kt.below b1
 replace kp := kp.below b1
 replace ke := ke.below b1
 replace bb := Below.after bb b1
 clear b1
 go_fit (R3.out _ bb)
 rintro e w9 ⟨rfl, b1⟩
 replace kt := kt.below b1
 replace kp := kp.below b1
 replace ke := ke.below b1
 replace kf := kf.below b1
 replace bb := Below.after bb b1
 clear b1
 obtain ⟨c0, c1, c2, c3, c4, c5, c6, c7, c8, c9, c10, c11, c12, c13, c14, c15, c16, c17⟩ := c18 (kt.alloc (.cells #[.bool gN, .string gS, .string gD] 26))
 obtain ⟨q0, q1, q2, q3, q4, q5⟩ := xk6 (kp.alloc (.cells #[.bool gN, .string gS, .string gD] 26))
 go_wp2_with fail
 obtain ⟨x9, hw, kg, b1⟩ := mk1 w9 [.bool gN, .string gS, .string gD] 26
 rw [← hw]
 clear hw c0 c1 c2 c3 c4 c5 c6 c7 c8 c9 c10 c11 c12 c13 c14 c15 c16 c17 q0 q1 q2 q3 q4 q5
 replace kt := kt.below b1
 replace kp := kp.below b1
 replace ke := ke.below b1
 replace kf := kf.below b1
 replace bb := Below.after bb b1
 clear b1
 go_fit (R4.out _ bb)
 rintro e w10 ⟨rfl, b1⟩
 replace kt := kt.below b1
 replace kp := kp.below b1
 replace ke := ke.below b1
 replace kf := kf.below b1
 replace kg := kg.below b1
 replace bb := Below.after bb b1
 clear b1
 go_wp2_with fail
 obtain ⟨x10, hw, kh, b1⟩ := mk1 w10 [.bool hN, .string hS, .string hD] 26
 rw [← hw]
 clear hw
 replace kt := kt.below b1
 replace kp := kp.below b1
 replace ke := ke.below b1
 replace kf := kf.below b1
 replace kg := kg.below b1
 replace bb := Below.after bb b1
 clear b1
 clear kt kp HS HX HY HA HP R1 R2 R3 R4
 have bd := bdrew x10
 replace ke := ke.below bd
 replace kf := kf.below bd
 replace kg := kg.below bd
 replace kh := kh.below bd
 replace bb := Below.after bb bd
 clear bd
 refine wp_region_held_drew (S := fun w' => xc3 w' w7.heap.size (.bool eN) (.string eS) (.string eD) ∧ xc3 w' w8.heap.size (.bool fN) (.string fS) (.string fD) ∧ xc3 w' w9.heap.size (.bool gN) (.string gS) (.string gD) ∧ xc3 w' w10.heap.size (.bool hN) (.string hS) (.string hD)) (by kernel_rfl) ⟨xk3 ke, xk3 kf, xk3 kg, xk3 kh⟩ (fun hS => ?_)
 refine WA.start (n := 27) (by kernel_rfl) ?_
 refine WA.tp 0 rfl ?_
 refine WA.tp 1 rfl ?_
 refine WA.tp 2 rfl ?_
 refine WA.tp 3 rfl ?_
 refine WA.tp 4 rfl ?_
 refine WA.tp 5 rfl ?_
 refine WA.tp 6 rfl ?_
 refine WA.tp 7 rfl ?_
 refine WA.tp 8 rfl ?_
 refine WA.tp 9 rfl ?_
 refine WA.tp 10 rfl ?_
 refine WA.tp 11 rfl ?_
 refine WA.tp 12 rfl ?_
 refine WA.tp 13 rfl ?_
 refine WA.tp 14 rfl ?_
 refine WA.tp 15 rfl ?_
 refine WA.tp 16 rfl ?_
 refine WA.tp 17 rfl ?_
 refine WA.tp 18 rfl ?_
 refine WA.cal 19 rfl (fun K hK => ?_)
 simp only [List.getElem_toArray, List.getElem_cons_succ, List.getElem_cons_zero]
 go_simp
 go_fit (S1.out _ bb)
 rintro e wn ⟨rfl, bn⟩
 replace ke := ke.below bn
 replace kf := kf.below bn
 replace kg := kg.below bn
 replace kh := kh.below bn
 replace bb := Below.after bb bn
 try go_wp2_with fail
 clear hS
 refine hK.out _ _ ⟨xk3 ke, xk3 kf, xk3 kg, xk3 kh⟩ (fun hS => ?_)
 clear hK K bn
 refine WA.cal 20 rfl (fun K hK => ?_)
 simp only [List.getElem_toArray, List.getElem_cons_succ, List.getElem_cons_zero]
 go_simp
 go_fit (S2.out _ bb)
 rintro e wn ⟨rfl, bn⟩
 replace ke := ke.below bn
 replace kf := kf.below bn
 replace kg := kg.below bn
 replace kh := kh.below bn
 replace bb := Below.after bb bn
 try go_wp2_with fail
 clear hS
 refine hK.out _ _ ⟨xk3 ke, xk3 kf, xk3 kg, xk3 kh⟩ (fun hS => ?_)
 clear hK K bn
 refine WA.tp 21 rfl ?_
 refine WA.tp 22 rfl ?_
 refine WA.tp 23 rfl ?_
 refine WA.cal 24 rfl (fun K hK => ?_)
 simp only [List.getElem_toArray, List.getElem_cons_succ, List.getElem_cons_zero]
 go_simp
 go_fit (HL.out _ bb)
 rintro e wn ⟨rfl, bn⟩
 replace ke := ke.below bn
 replace kf := kf.below bn
 replace kg := kg.below bn
 replace kh := kh.below bn
 replace bb := Below.after bb bn
 try go_wp2_with fail
 clear hS
 refine hK.out _ _ ⟨xk3 ke, xk3 kf, xk3 kg, xk3 kh⟩ (fun hS => ?_)
 clear hK K bn
 refine WA.tp 25 rfl ?_
 refine WA.tp 26 rfl ?_
 refine WA.done (by kernel_rfl) ?_
 clear hS
 go_wp2
 go_ret
 exact ⟨rfl, bb⟩
open Go.RowKit
theorem parts6_l (n0 n1 n2 n3 n4 n5 n6 n7 : Bool) (s0 d0 s1 d1 s2 d2 s3 d3 s4 d4 s5 d5 s6 d6 s7 d7 : ByteArray) (w : World)
  (HS : Hid (∀ w1, Calls Tryz.prog 16 #[.agg #[.bool n0, .string s0, .string d0, .bool n1, .string s1, .string d1, .bool n2, .string s2, .string d2, .bool n3, .string s3, .string d3, .bool n4, .string s4, .string d4, .bool n5, .string s5, .string d5]] w1 (Re w1 (.bool false))))
  (HL : Hid (∀ w1, Below w.heap.size w w1 → Calls Tryz.prog 17 #[] w1 (Re w1 (.bool true)))) :
  Calls Tryz.prog 8 #[.agg #[.bool n0, .string s0, .string d0, .bool n1, .string s1, .string d1, .bool n2, .string s2, .string d2, .bool n3, .string s3, .string d3, .bool n4, .string s4, .string d4, .bool n5, .string s5, .string d5], .agg #[.bool n6, .string s6, .string d6, .bool n7, .string s7, .string d7]] w (Re w (.bool true)) := by
 go_enter Tryz.func8, Tryz.ntmps8
 go_wp2_with (first | (refine wpList_load_row rfl 44 _ rfl w.heap.size rfl 44 _ (0, 0) _ ((Cel.new w [.bool n0, .string s0, .string d0, .bool n1, .string s1, .string d1, .bool n2, .string s2, .string d2, .bool n3, .string s3, .string d3, .bool n4, .string s4, .string d4, .bool n5, .string s5, .string d5] 44).alloc _) Tryz.underlying44 rfl (by kernel_rfl) ?_) | fail)
 go_wp2_with fail
 go_fit (HS.out _)
 rintro e w1 ⟨rfl, b1⟩
 obtain ⟨kt, kp, bb⟩ := al2 b1
 clear b1
 go_wp2_with fail
 go_fit (HL.out _ bb)
 rintro e w2 ⟨rfl, b1⟩
 replace kt := kt.below b1
 replace kp := kp.below b1
 replace bb := Below.after bb b1
 clear b1
 go_wp2
 go_ret
 exact ⟨rfl, bb⟩
theorem parts6_x (n0 n1 n2 n3 n4 n5 n6 n7 : Bool) (s0 d0 s1 d1 s2 d2 s3 d3 s4 d4 s5 d5 s6 d6 s7 d7 : ByteArray) (w : World)
  (HS : Hid (∀ w1, Calls Tryz.prog 16 #[.agg #[.bool n0, .string s0, .string d0, .bool n1, .string s1, .string d1, .bool n2, .string s2, .string d2, .bool n3, .string s3, .string d3, .bool n4, .string s4, .string d4, .bool n5, .string s5, .string d5]] w1 (Re w1 (.bool true))))
  (HX : Hid (∀ w1, Calls Tryz.prog 34 #[.agg #[.bool n6, .string s6, .string d6]] w1 (Re w1 (.bool false))))
  (HL : Hid (∀ w1, Below w.heap.size w w1 → Calls Tryz.prog 17 #[] w1 (Re w1 (.bool true)))) :
  Calls Tryz.prog 8 #[.agg #[.bool n0, .string s0, .string d0, .bool n1, .string s1, .string d1, .bool n2, .string s2, .string d2, .bool n3, .string s3, .string d3, .bool n4, .string s4, .string d4, .bool n5, .string s5, .string d5], .agg #[.bool n6, .string s6, .string d6, .bool n7, .string s7, .string d7]] w (Re w (.bool true)) := by
 go_enter Tryz.func8, Tryz.ntmps8
 go_wp2_with (first | (refine wpList_load_row rfl 44 _ rfl w.heap.size rfl 44 _ (0, 0) _ ((Cel.new w [.bool n0, .string s0, .string d0, .bool n1, .string s1, .string d1, .bool n2, .string s2, .string d2, .bool n3, .string s3, .string d3, .bool n4, .string s4, .string d4, .bool n5, .string s5, .string d5] 44).alloc _) Tryz.underlying44 rfl (by kernel_rfl) ?_) | fail)
 go_wp2_with fail
 go_fit (HS.out _)
 rintro e w1 ⟨rfl, b1⟩
 obtain ⟨kt, kp, bb⟩ := al2 b1
 clear b1
 obtain ⟨q0, q1, q2, q3, q4, q5⟩ := xk6 kp
 go_wp2_with fail
 go_fit (HX.out _)
 rintro e w2 ⟨rfl, b1⟩
 replace kt := kt.below b1
 replace kp := kp.below b1
 replace bb := Below.after bb b1
 clear b1
 clear q0 q1 q2 q3 q4 q5
 go_wp2_with fail
 go_fit (HL.out _ bb)
 rintro e w3 ⟨rfl, b1⟩
 replace kt := kt.below b1
 replace kp := kp.below b1
 replace bb := Below.after bb b1
 clear b1
 go_wp2
 go_ret
 exact ⟨rfl, bb⟩
theorem parts6_y (n0 n1 n2 n3 n4 n5 n6 n7 : Bool) (s0 d0 s1 d1 s2 d2 s3 d3 s4 d4 s5 d5 s6 d6 s7 d7 : ByteArray) (w : World)
  (HS : Hid (∀ w1, Calls Tryz.prog 16 #[.agg #[.bool n0, .string s0, .string d0, .bool n1, .string s1, .string d1, .bool n2, .string s2, .string d2, .bool n3, .string s3, .string d3, .bool n4, .string s4, .string d4, .bool n5, .string s5, .string d5]] w1 (Re w1 (.bool true))))
  (HX : Hid (∀ w1, Calls Tryz.prog 34 #[.agg #[.bool n6, .string s6, .string d6]] w1 (Re w1 (.bool true))))
  (HY : Hid (∀ w1, Calls Tryz.prog 34 #[.agg #[.bool n7, .string s7, .string d7]] w1 (Re w1 (.bool false))))
  (HL : Hid (∀ w1, Below w.heap.size w w1 → Calls Tryz.prog 17 #[] w1 (Re w1 (.bool true)))) :
  Calls Tryz.prog 8 #[.agg #[.bool n0, .string s0, .string d0, .bool n1, .string s1, .string d1, .bool n2, .string s2, .string d2, .bool n3, .string s3, .string d3, .bool n4, .string s4, .string d4, .bool n5, .string s5, .string d5], .agg #[.bool n6, .string s6, .string d6, .bool n7, .string s7, .string d7]] w (Re w (.bool true)) := by
 go_enter Tryz.func8, Tryz.ntmps8
 go_wp2_with (first | (refine wpList_load_row rfl 44 _ rfl w.heap.size rfl 44 _ (0, 0) _ ((Cel.new w [.bool n0, .string s0, .string d0, .bool n1, .string s1, .string d1, .bool n2, .string s2, .string d2, .bool n3, .string s3, .string d3, .bool n4, .string s4, .string d4, .bool n5, .string s5, .string d5] 44).alloc _) Tryz.underlying44 rfl (by kernel_rfl) ?_) | fail)
 go_wp2_with fail
 go_fit (HS.out _)
 rintro e w1 ⟨rfl, b1⟩
 obtain ⟨kt, kp, bb⟩ := al2 b1
 clear b1
 obtain ⟨q0, q1, q2, q3, q4, q5⟩ := xk6 kp
 go_wp2_with fail
 go_fit (HX.out _)
 rintro e w2 ⟨rfl, b1⟩
 replace kt := kt.below b1
 replace kp := kp.below b1
 replace bb := Below.after bb b1
 clear b1
 clear q0 q1 q2 q3 q4 q5
 obtain ⟨q0, q1, q2, q3, q4, q5⟩ := xk6 kp
 go_wp2_with fail
 go_fit (HY.out _)
 rintro e w3 ⟨rfl, b1⟩
 replace kt := kt.below b1
 replace kp := kp.below b1
 replace bb := Below.after bb b1
 clear b1
 clear q0 q1 q2 q3 q4 q5
 go_wp2_with fail
 go_fit (HL.out _ bb)
 rintro e w4 ⟨rfl, b1⟩
 replace kt := kt.below b1
 replace kp := kp.below b1
 replace bb := Below.after bb b1
 clear b1
 go_wp2
 go_ret
 exact ⟨rfl, bb⟩
theorem parts6_a (n0 n1 n2 n3 n4 n5 n6 n7 : Bool) (s0 d0 s1 d1 s2 d2 s3 d3 s4 d4 s5 d5 s6 d6 s7 d7 : ByteArray) (E : Int) (w : World) (hE : ¬ E = 0)
  (HS : Hid (∀ w1, Calls Tryz.prog 16 #[.agg #[.bool n0, .string s0, .string d0, .bool n1, .string s1, .string d1, .bool n2, .string s2, .string d2, .bool n3, .string s3, .string d3, .bool n4, .string s4, .string d4, .bool n5, .string s5, .string d5]] w1 (Re w1 (.bool true))))
  (HX : Hid (∀ w1, Calls Tryz.prog 34 #[.agg #[.bool n6, .string s6, .string d6]] w1 (Re w1 (.bool true))))
  (HY : Hid (∀ w1, Calls Tryz.prog 34 #[.agg #[.bool n7, .string s7, .string d7]] w1 (Re w1 (.bool true))))
  (HA : Hid (∀ w1, Below w.heap.size w w1 → Calls Tryz.prog 19 #[.agg #[.bool n0, .string s0, .string d0, .bool n1, .string s1, .string d1], .agg #[.bool n2, .string s2, .string d2, .bool n3, .string s3, .string d3], .agg #[.bool n4, .string s4, .string d4, .bool n5, .string s5, .string d5]] w1 (Re w1 (.int .i64 (E)))))
  (HL : Hid (∀ w1, Below w.heap.size w w1 → Calls Tryz.prog 17 #[] w1 (Re w1 (.bool true)))) :
  Calls Tryz.prog 8 #[.agg #[.bool n0, .string s0, .string d0, .bool n1, .string s1, .string d1, .bool n2, .string s2, .string d2, .bool n3, .string s3, .string d3, .bool n4, .string s4, .string d4, .bool n5, .string s5, .string d5], .agg #[.bool n6, .string s6, .string d6, .bool n7, .string s7, .string d7]] w (Re w (.bool true)) := by
 go_enter Tryz.func8, Tryz.ntmps8
 go_wp2_with (first | (refine wpList_load_row rfl 44 _ rfl w.heap.size rfl 44 _ (0, 0) _ ((Cel.new w [.bool n0, .string s0, .string d0, .bool n1, .string s1, .string d1, .bool n2, .string s2, .string d2, .bool n3, .string s3, .string d3, .bool n4, .string s4, .string d4, .bool n5, .string s5, .string d5] 44).alloc _) Tryz.underlying44 rfl (by kernel_rfl) ?_) | fail)
 go_wp2_with fail
 go_fit (HS.out _)
 rintro e w1 ⟨rfl, b1⟩
 obtain ⟨kt, kp, bb⟩ := al2 b1
 clear b1
 obtain ⟨q0, q1, q2, q3, q4, q5⟩ := xk6 kp
 go_wp2_with fail
 go_fit (HX.out _)
 rintro e w2 ⟨rfl, b1⟩
 replace kt := kt.below b1
 replace kp := kp.below b1
 replace bb := Below.after bb b1
 clear b1
 clear q0 q1 q2 q3 q4 q5
 obtain ⟨q0, q1, q2, q3, q4, q5⟩ := xk6 kp
 go_wp2_with fail
 go_fit (HY.out _)
 rintro e w3 ⟨rfl, b1⟩
 replace kt := kt.below b1
 replace kp := kp.below b1
 replace bb := Below.after bb b1
 clear b1
 clear q0 q1 q2 q3 q4 q5
 obtain ⟨c0, c1, c2, c3, c4, c5, c6, c7, c8, c9, c10, c11, c12, c13, c14, c15, c16, c17⟩ := c18 kt
 go_wp2_with fail
 go_fit (HA.out _ bb)
 rintro e w4 ⟨rfl, b1⟩
 replace kt := kt.below b1
 replace kp := kp.below b1
 replace bb := Below.after bb b1
 clear b1
 clear c0 c1 c2 c3 c4 c5 c6 c7 c8 c9 c10 c11 c12 c13 c14 c15 c16 c17
 go_wp2_with fail
 go_fit (HL.out _ bb)
 rintro e w5 ⟨rfl, b1⟩
 replace kt := kt.below b1
 replace kp := kp.below b1
 replace bb := Below.after bb b1
 clear b1
 go_wp2
 go_ret
 exact ⟨rfl, bb⟩
theorem parts6_p (n0 n1 n2 n3 n4 n5 n6 n7 : Bool) (s0 d0 s1 d1 s2 d2 s3 d3 s4 d4 s5 d5 s6 d6 s7 d7 : ByteArray) (E : Int) (w : World) (hE : ¬ E = 0)
  (HS : Hid (∀ w1, Calls Tryz.prog 16 #[.agg #[.bool n0, .string s0, .string d0, .bool n1, .string s1, .string d1, .bool n2, .string s2, .string d2, .bool n3, .string s3, .string d3, .bool n4, .string s4, .string d4, .bool n5, .string s5, .string d5]] w1 (Re w1 (.bool true))))
  (HX : Hid (∀ w1, Calls Tryz.prog 34 #[.agg #[.bool n6, .string s6, .string d6]] w1 (Re w1 (.bool true))))
  (HY : Hid (∀ w1, Calls Tryz.prog 34 #[.agg #[.bool n7, .string s7, .string d7]] w1 (Re w1 (.bool true))))
  (HA : Hid (∀ w1, Below w.heap.size w w1 → Calls Tryz.prog 19 #[.agg #[.bool n0, .string s0, .string d0, .bool n1, .string s1, .string d1], .agg #[.bool n2, .string s2, .string d2, .bool n3, .string s3, .string d3], .agg #[.bool n4, .string s4, .string d4, .bool n5, .string s5, .string d5]] w1 (Re w1 (.int .i64 (0)))))
  (HP : Hid (∀ (w1 : World) (B : Nat), Below w.heap.size w w1 → Cel w1 B [.bool n6, .string s6, .string d6, .bool n7, .string s7, .string d7] 28 → Calls Tryz.prog 13 #[.slice (some ⟨B, 0, none⟩) 1 1] w1 (Re w1 (.int .i64 (E)))))
  (HL : Hid (∀ w1, Below w.heap.size w w1 → Calls Tryz.prog 17 #[] w1 (Re w1 (.bool true)))) :
  Calls Tryz.prog 8 #[.agg #[.bool n0, .string s0, .string d0, .bool n1, .string s1, .string d1, .bool n2, .string s2, .string d2, .bool n3, .string s3, .string d3, .bool n4, .string s4, .string d4, .bool n5, .string s5, .string d5], .agg #[.bool n6, .string s6, .string d6, .bool n7, .string s7, .string d7]] w (Re w (.bool true)) := by
 go_enter Tryz.func8, Tryz.ntmps8
 go_wp2_with (first | (refine wpList_load_row rfl 44 _ rfl w.heap.size rfl 44 _ (0, 0) _ ((Cel.new w [.bool n0, .string s0, .string d0, .bool n1, .string s1, .string d1, .bool n2, .string s2, .string d2, .bool n3, .string s3, .string d3, .bool n4, .string s4, .string d4, .bool n5, .string s5, .string d5] 44).alloc _) Tryz.underlying44 rfl (by kernel_rfl) ?_) | fail)
 go_wp2_with fail
 go_fit (HS.out _)
 rintro e w1 ⟨rfl, b1⟩
 obtain ⟨kt, kp, bb⟩ := al2 b1
 clear b1
 obtain ⟨q0, q1, q2, q3, q4, q5⟩ := xk6 kp
 go_wp2_with fail
 go_fit (HX.out _)
 rintro e w2 ⟨rfl, b1⟩
 replace kt := kt.below b1
 replace kp := kp.below b1
 replace bb := Below.after bb b1
 clear b1
 clear q0 q1 q2 q3 q4 q5
 obtain ⟨q0, q1, q2, q3, q4, q5⟩ := xk6 kp
 go_wp2_with fail
 go_fit (HY.out _)
 rintro e w3 ⟨rfl, b1⟩
 replace kt := kt.below b1
 replace kp := kp.below b1
 replace bb := Below.after bb b1
 clear b1
 clear q0 q1 q2 q3 q4 q5
 obtain ⟨c0, c1, c2, c3, c4, c5, c6, c7, c8, c9, c10, c11, c12, c13, c14, c15, c16, c17⟩ := c18 kt
 go_wp2_with fail
 go_fit (HA.out _ bb)
 rintro e w4 ⟨rfl, b1⟩
 replace kt := kt.below b1
 replace kp := kp.below b1
 replace bb := Below.after bb b1
 clear b1
 clear c0 c1 c2 c3 c4 c5 c6 c7 c8 c9 c10 c11 c12 c13 c14 c15 c16 c17
 obtain ⟨q0, q1, q2, q3, q4, q5⟩ := xk6 kp
 go_wp2_with fail
 obtain ⟨w5, hw, kl, b1⟩ := mk1 w4 [.bool n6, .string s6, .string d6, .bool n7, .string s7, .string d7] 28
 rw [← hw]
 clear hw
 replace kt := kt.below b1
 replace kp := kp.below b1
 replace bb := Below.after bb b1
 clear b1
 clear q0 q1 q2 q3 q4 q5
 go_fit (HP.out _ _ bb kl)
 rintro e w6 ⟨rfl, b1⟩
 replace kt := kt.below b1
 replace kp := kp.below b1
 replace bb := Below.after bb b1
 clear b1
 clear kl
 go_wp2_with fail
 go_fit (HL.out _ bb)
 rintro e w7 ⟨rfl, b1⟩
 replace kt := kt.below b1
 replace kp := kp.below b1
 replace bb := Below.after bb b1
 clear b1
 go_wp2
 go_ret
 exact ⟨rfl, bb⟩
end Go.Proofs.YtmojdkjpcjfkeaaGreatDoor
