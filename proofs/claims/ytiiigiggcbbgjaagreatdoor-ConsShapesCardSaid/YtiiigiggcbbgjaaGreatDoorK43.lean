/-
  gussetlaw06: at, short, small.
  gussetlaw06: ConsParts holds.
  The distance between the ends: mathematics; cells of other blocks.
  Package span: points that may be asked; how they turn, and where one lies.
  gussetref06: Centre, Middle, walked.
  Package span: a number in its one form.
  gussetlaw04: VecScales, of any point and number.
  Package span: how three points turn.
  Package cons: Sharp, walked.
  The way to a centre: mathematics, and cells that are set.
  Package span: a number over two others.
  Package span: the way from one point to another, walked.
  Package span: products of ways.
  Points compared.
  Package span: the size of a number; no way to a centre.
  Package cons: far2, walked.
  Package cons: Centre, walked.
-/
import Derived.Test.YtiiigiggcbbgjaaGreatDoorK39
import Derived.Test.YtiiigiggcbbgjaaGreatDoorK41
import Derived.Test.YtiiigiggcbbgjaaGreatDoorK42
set_option maxRecDepth 100000
set_option maxHeartbeats 16000000
namespace Go.Proofs.YtiiigiggcbbgjaaGreatDoor
open Go.RowKit
theorem lat6_any (x y : Int) (h1 : -1000 ≤ x) (h2 : x ≤ 1000) (h3 : -1000 ≤ y) (h4 : y ≤ 1000) (w : World) :
  Calls Tryz.prog 57 #[.int .i64 x, .int .i64 y] w (Re w (.agg #[.bool (nfZ x), .string (sfZ x), .string ⟨#[1]⟩, .bool (nfZ y), .string (sfZ y), .string ⟨#[1]⟩])) := by
 have H1 := shut (fun w => roq_any x h1 h2 w)
 have H2 := shut (fun w => roq_any y h3 h4 w)
 clear h1 h2 h3 h4
 go_enter Tryz.func57, Tryz.ntmps57
 go_wp2_with fail
 go_fit (H1.out _)
 rintro e w1 ⟨rfl, b1⟩
 obtain ⟨kr, bb⟩ := al1 b1
 clear b1
 go_wp2_with fail
 go_fit (H2.out _)
 rintro e w2 ⟨rfl, b1⟩
 replace kr := kr.below b1
 replace bb := Below.after bb b1
 clear b1
 have f0 := Cel.frozen kr 0
 have f1 := Cel.frozen kr 1
 have f2 := Cel.frozen kr 2
 have f3 := Cel.frozen kr 3
 have f4 := Cel.frozen kr 4
 have f5 := Cel.frozen kr 5
 obtain ⟨r0, r1, r2, r3, r4, r5⟩ := xk6 kr
 go_wp2
 exact post_p (p := 4) (by kernel_rfl) rfl rfl (kr.set6 _ _ _ _ _ _) ⟨rfl, bset6 bb (Nat.le_refl _) _ _ _ _ _ _⟩
def sh6 (s d : ByteArray) : Bool := decide (s.size ≤ 60 ∧ d.size ≤ 60)
theorem short6_any (n : Bool) (s d : ByteArray) (w : World) :
  Calls Tryz.prog 56 #[.agg #[.bool n, .string s, .string d]] w (Re w (.bool (sh6 s d))) := by
 by_cases hs : s.size ≤ 60
 ·by_cases hd : d.size ≤ 60
  ·have e : Hid (sh6 s d = true) := decide_eq_true ⟨hs, hd⟩
   have i1 : (s.size : Int) ≤ 60 := by omega
   have i2 : (d.size : Int) ≤ 60 := by omega
   go_enter Tryz.func56, Tryz.ntmps56
   go_wp2
   go_ret
   exact ⟨by rw [e.out]; rfl, bel_al _ _⟩
  ·have e : Hid (sh6 s d = false) := decide_eq_false fun h => hd h.2
   have i1 : (s.size : Int) ≤ 60 := by omega
   have i2 : ¬ (d.size : Int) ≤ 60 := by omega
   go_enter Tryz.func56, Tryz.ntmps56
   go_wp2
   go_ret
   exact ⟨by rw [e.out]; rfl, bel_al _ _⟩
 ·have e : Hid (sh6 s d = false) := decide_eq_false fun h => hs h.1
  have i1 : ¬ (s.size : Int) ≤ 60 := by omega
  go_enter Tryz.func56, Tryz.ntmps56
  go_wp2
  go_ret
  exact ⟨by rw [e.out]; rfl, bel_al _ _⟩
theorem c18 {w : World} {g : Nat} {t : TypeId} {x0 x1 x2 x3 x4 x5 x6 x7 x8 x9 x10 x11 x12 x13 x14 x15 x16 x17 : Value} (h : Cel w g [x0, x1, x2, x3, x4, x5, x6, x7, x8, x9, x10, x11, x12, x13, x14, x15, x16, x17] t) : w.cell? ⟨g, 0, none⟩ = some x0 ∧ w.cell? ⟨g, 1, none⟩ = some x1 ∧ w.cell? ⟨g, 2, none⟩ = some x2 ∧ w.cell? ⟨g, 3, none⟩ = some x3 ∧ w.cell? ⟨g, 4, none⟩ = some x4 ∧ w.cell? ⟨g, 5, none⟩ = some x5 ∧ w.cell? ⟨g, 6, none⟩ = some x6 ∧ w.cell? ⟨g, 7, none⟩ = some x7 ∧ w.cell? ⟨g, 8, none⟩ = some x8 ∧ w.cell? ⟨g, 9, none⟩ = some x9 ∧ w.cell? ⟨g, 10, none⟩ = some x10 ∧ w.cell? ⟨g, 11, none⟩ = some x11 ∧ w.cell? ⟨g, 12, none⟩ = some x12 ∧ w.cell? ⟨g, 13, none⟩ = some x13 ∧ w.cell? ⟨g, 14, none⟩ = some x14 ∧ w.cell? ⟨g, 15, none⟩ = some x15 ∧ w.cell? ⟨g, 16, none⟩ = some x16 ∧ w.cell? ⟨g, 17, none⟩ = some x17 :=
 ⟨h.cell 0, h.cell 1, h.cell 2, h.cell 3, h.cell 4, h.cell 5, h.cell 6, h.cell 7, h.cell 8, h.cell 9, h.cell 10, h.cell 11, h.cell 12, h.cell 13, h.cell 14, h.cell 15, h.cell 16, h.cell 17⟩
theorem small6_walk (n0 n1 n2 n3 n4 n5 : Bool) (s0 d0 s1 d1 s2 d2 s3 d3 s4 d4 s5 d5 : ByteArray) (B0 B1 B2 B3 B4 B5 : Bool) (w : World)
  (H0 : Hid (∀ w1, Calls Tryz.prog 56 #[.agg #[.bool n0, .string s0, .string d0]] w1 (Re w1 (.bool B0))))
  (H1 : Hid (∀ w1, Calls Tryz.prog 56 #[.agg #[.bool n1, .string s1, .string d1]] w1 (Re w1 (.bool B1))))
  (H2 : Hid (∀ w1, Calls Tryz.prog 56 #[.agg #[.bool n2, .string s2, .string d2]] w1 (Re w1 (.bool B2))))
  (H3 : Hid (∀ w1, Calls Tryz.prog 56 #[.agg #[.bool n3, .string s3, .string d3]] w1 (Re w1 (.bool B3))))
  (H4 : Hid (∀ w1, Calls Tryz.prog 56 #[.agg #[.bool n4, .string s4, .string d4]] w1 (Re w1 (.bool B4))))
  (H5 : Hid (∀ w1, Calls Tryz.prog 56 #[.agg #[.bool n5, .string s5, .string d5]] w1 (Re w1 (.bool B5)))) :
  Calls Tryz.prog 18 #[.agg #[.bool n0, .string s0, .string d0, .bool n1, .string s1, .string d1, .bool n2, .string s2, .string d2, .bool n3, .string s3, .string d3, .bool n4, .string s4, .string d4, .bool n5, .string s5, .string d5]] w (Re w (.bool (B0 && (B1 && (B2 && (B3 && (B4 && B5))))))) := by
 go_enter Tryz.func18, Tryz.ntmps18
 go_wp2_with fail
 go_fit (H0.out _)
 rintro e w0 ⟨rfl, b1⟩
 obtain ⟨k, bb⟩ := al1 b1
 clear b1
 cases B0 with
 | false =>
  go_wp2
  go_ret
  exact ⟨by simp only [Bool.false_and]; rfl, bb⟩
 | true =>
 obtain ⟨c0, c1, c2, c3, c4, c5, c6, c7, c8, c9, c10, c11, c12, c13, c14, c15, c16, c17⟩ := c18 k
 go_wp2_with fail
 go_fit (H1.out _)
 rintro e w1 ⟨rfl, b1⟩
 replace k := k.below b1
 replace bb := Below.after bb b1
 clear b1
 clear c0 c1 c2 c3 c4 c5 c6 c7 c8 c9 c10 c11 c12 c13 c14 c15 c16 c17
 cases B1 with
 | false =>
  go_wp2
  go_ret
  exact ⟨by simp only [Bool.true_and, Bool.false_and]; rfl, bb⟩
 | true =>
 obtain ⟨c0, c1, c2, c3, c4, c5, c6, c7, c8, c9, c10, c11, c12, c13, c14, c15, c16, c17⟩ := c18 k
 go_wp2_with fail
 go_fit (H2.out _)
 rintro e w2 ⟨rfl, b1⟩
 replace k := k.below b1
 replace bb := Below.after bb b1
 clear b1
 clear c0 c1 c2 c3 c4 c5 c6 c7 c8 c9 c10 c11 c12 c13 c14 c15 c16 c17
 cases B2 with
 | false =>
  go_wp2
  go_ret
  exact ⟨by simp only [Bool.true_and, Bool.false_and]; rfl, bb⟩
 | true =>
 obtain ⟨c0, c1, c2, c3, c4, c5, c6, c7, c8, c9, c10, c11, c12, c13, c14, c15, c16, c17⟩ := c18 k
 go_wp2_with fail
 go_fit (H3.out _)
 rintro e w3 ⟨rfl, b1⟩
 replace k := k.below b1
 replace bb := Below.after bb b1
 clear b1
 clear c0 c1 c2 c3 c4 c5 c6 c7 c8 c9 c10 c11 c12 c13 c14 c15 c16 c17
 cases B3 with
 | false =>
  go_wp2
  go_ret
  exact ⟨by simp only [Bool.true_and, Bool.false_and]; rfl, bb⟩
 | true =>
 obtain ⟨c0, c1, c2, c3, c4, c5, c6, c7, c8, c9, c10, c11, c12, c13, c14, c15, c16, c17⟩ := c18 k
 go_wp2_with fail
 go_fit (H4.out _)
 rintro e w4 ⟨rfl, b1⟩
 replace k := k.below b1
 replace bb := Below.after bb b1
 clear b1
 clear c0 c1 c2 c3 c4 c5 c6 c7 c8 c9 c10 c11 c12 c13 c14 c15 c16 c17
 cases B4 with
 | false =>
  go_wp2
  go_ret
  exact ⟨by simp only [Bool.true_and, Bool.false_and]; rfl, bb⟩
 | true =>
 obtain ⟨c0, c1, c2, c3, c4, c5, c6, c7, c8, c9, c10, c11, c12, c13, c14, c15, c16, c17⟩ := c18 k
 go_wp2_with fail
 go_fit (H5.out _)
 rintro e w5 ⟨rfl, b1⟩
 replace k := k.below b1
 replace bb := Below.after bb b1
 clear b1
 clear c0 c1 c2 c3 c4 c5 c6 c7 c8 c9 c10 c11 c12 c13 c14 c15 c16 c17
 go_wp2
 go_ret
 exact ⟨by simp only [Bool.true_and]; rfl, bb⟩
theorem small6_any (n0 n1 n2 n3 n4 n5 : Bool) (s0 d0 s1 d1 s2 d2 s3 d3 s4 d4 s5 d5 : ByteArray) (w : World) :
  Calls Tryz.prog 18 #[.agg #[.bool n0, .string s0, .string d0, .bool n1, .string s1, .string d1, .bool n2, .string s2, .string d2, .bool n3, .string s3, .string d3, .bool n4, .string s4, .string d4, .bool n5, .string s5, .string d5]] w (Re w (.bool (sh6 s0 d0 && (sh6 s1 d1 && (sh6 s2 d2 && (sh6 s3 d3 && (sh6 s4 d4 && sh6 s5 d5))))))) :=
 small6_walk n0 n1 n2 n3 n4 n5 s0 d0 s1 d1 s2 d2 s3 d3 s4 d4 s5 d5 _ _ _ _ _ _ w (fun w1 => short6_any n0 s0 d0 w1) (fun w1 => short6_any n1 s1 d1 w1) (fun w1 => short6_any n2 s2 d2 w1) (fun w1 => short6_any n3 s3 d3 w1) (fun w1 => short6_any n4 s4 d4 w1) (fun w1 => short6_any n5 s5 d5 w1)
open Go.RowKit
theorem sh6_t {s d : ByteArray} (h : sh6 s d = true) : s.size ≤ 60 ∧ d.size ≤ 60 := of_decide_eq_true h
theorem le100 {s d : ByteArray} (h : s.size ≤ 60 ∧ d.size ≤ 60) : s.size ≤ 100 ∧ d.size ≤ 100 := ⟨by omega, by omega⟩
open Go.RowKit
theorem Cel.oth3 {w : World} {g g' : Nat} {cs : List Value} {t : TypeId} (h : Cel w g cs t) (hne : g ≠ g') (x0 x1 x2 : Value) : Cel (((w.setCell ⟨g', 0, none⟩ x0).setCell ⟨g', 1, none⟩ x1).setCell ⟨g', 2, none⟩ x2) g cs t :=
 ((h.other hne 0 x0).other hne 1 x1).other hne 2 x2
open Go.RowKit
theorem rdpt_3 {w : World} {B : Nat} {t : TypeId} {n0 n1 n2 n3 n4 n5 : Bool} {s0 d0 s1 d1 s2 d2 s3 d3 s4 d4 s5 d5 : ByteArray} (h : Cel w B [.bool n0, .string s0, .string d0, .bool n1, .string s1, .string d1, .bool n2, .string s2, .string d2, .bool n3, .string s3, .string d3, .bool n4, .string s4, .string d4, .bool n5, .string s5, .string d5] t) : RdPt w (some ⟨B, 0, none⟩) 3 (f4 n0 n2 n4 n4) (f4 s0 s2 s4 s4) (f4 d0 d2 d4 d4) (f4 n1 n3 n5 n5) (f4 s1 s3 s5 s5) (f4 d1 d3 d5 d5) := by
 intro j hj
 refine ⟨B, 0, rfl, ?_⟩
 match j, hj with
 | 0, _ => exact ⟨h.cell 0, h.cell 1, h.cell 2, h.cell 3, h.cell 4, h.cell 5⟩
 | 1, _ => exact ⟨h.cell 6, h.cell 7, h.cell 8, h.cell 9, h.cell 10, h.cell 11⟩
 | 2, _ => exact ⟨h.cell 12, h.cell 13, h.cell 14, h.cell 15, h.cell 16, h.cell 17⟩
theorem scheck3 (B : Nat) (n0 n1 n2 n3 n4 n5 : Bool) (s0 d0 s1 d1 s2 d2 s3 d3 s4 d4 s5 d5 : ByteArray) (w : World) (hT : Tab w) (h : Cel w B [.bool n0, .string s0, .string d0, .bool n1, .string s1, .string d1, .bool n2, .string s2, .string d2, .bool n3, .string s3, .string d3, .bool n4, .string s4, .string d4, .bool n5, .string s5, .string d5] 28) (z0 : s0.size ≤ 100 ∧ d0.size ≤ 100) (z1 : s1.size ≤ 100 ∧ d1.size ≤ 100) (z2 : s2.size ≤ 100 ∧ d2.size ≤ 100) (z3 : s3.size ≤ 100 ∧ d3.size ≤ 100) (z4 : s4.size ≤ 100 ∧ d4.size ≤ 100) (z5 : s5.size ≤ 100 ∧ d5.size ≤ 100) :
  Calls Tryz.prog 45 #[.slice (some ⟨B, 0, none⟩) 3 3] w fun e w' => e = .returned (.int .i64 (twoc (twoc (twoq n0 s0 d0 n1 s1 d1) (twoq n2 s2 d2 n3 s3 d3)) (twoq n4 s4 d4 n5 s5 d5) : Nat)) ∧ Below w.heap.size w w' := by
 refine scheck_walk (some ⟨B, 0, none⟩) 3 3 _ _ _ _ _ _ (f4 (twoq n0 s0 d0 n1 s1 d1) (twoq n2 s2 d2 n3 s3 d3) (twoq n4 s4 d4 n5 s5 d5) 0) w (by omega) (rdpt_3 h) (fun j hj => ?_) (fun j w1 hj b => ?_)
 ·match j, hj with
  | 0, _ => exact ⟨z0.1, z0.2, z1.1, z1.2⟩
  | 1, _ => exact ⟨z2.1, z2.2, z3.1, z3.2⟩
  | 2, _ => exact ⟨z4.1, z4.2, z5.1, z5.2⟩
 ·match j, hj with
  | 0, _ => exact vCheck_any n0 n1 s0 d0 s1 d1 w1 (hT.below b)
  | 1, _ => exact vCheck_any n2 n3 s2 d2 s3 d3 w1 (hT.below b)
  | 2, _ => exact vCheck_any n4 n5 s4 d4 s5 d5 w1 (hT.below b)
open Go.RowKit
theorem rcen_walk (n0 n1 n2 n3 n4 n5 : Bool) (s0 d0 s1 d1 s2 d2 s3 d3 s4 d4 s5 d5 : ByteArray) (u0 u3 : Bool) (u1 u2 u4 u5 : ByteArray) (v0 v3 : Bool) (v1 v2 v4 v5 : ByteArray) (nN : Bool) (nS nD : ByteArray) (mN : Bool) (mS mD : ByteArray) (pN : Bool) (pS pD : ByteArray) (qN : Bool) (qS qD : ByteArray) (gN : Bool) (gS gD : ByteArray) (hN : Bool) (hS hD : ByteArray) (iN : Bool) (iS iD : ByteArray) (xN : Bool) (xS xD : ByteArray) (jN : Bool) (jS jD : ByteArray) (kN : Bool) (kS kD : ByteArray) (lN : Bool) (lS lD : ByteArray) (yN : Bool) (yS yD : ByteArray) (r0 r3 : Bool) (r1 r2 r4 r5 : ByteArray) (w : World)
  (M1 : Hid (∀ w1, Below w.heap.size w w1 → Calls Tryz.prog 37 #[.agg #[.bool n2, .string s2, .string d2, .bool n3, .string s3, .string d3], .agg #[.bool n0, .string s0, .string d0, .bool n1, .string s1, .string d1]] w1 (Re w1 (.agg #[.bool u0, .string u1, .string u2, .bool u3, .string u4, .string u5]))))
  (M2 : Hid (∀ w1, Below w.heap.size w w1 → Calls Tryz.prog 37 #[.agg #[.bool n4, .string s4, .string d4, .bool n5, .string s5, .string d5], .agg #[.bool n0, .string s0, .string d0, .bool n1, .string s1, .string d1]] w1 (Re w1 (.agg #[.bool v0, .string v1, .string v2, .bool v3, .string v4, .string v5]))))
  (CR : Hid (∀ w1, Below w.heap.size w w1 → Calls Tryz.prog 65 #[.agg #[.bool u0, .string u1, .string u2, .bool u3, .string u4, .string u5], .agg #[.bool v0, .string v1, .string v2, .bool v3, .string v4, .string v5]] w1 (Re w1 (.agg #[.bool nN, .string nS, .string nD]))))
  (SU : Hid (∀ w1, Below w.heap.size w w1 → Calls Tryz.prog 66 #[.agg #[.bool nN, .string nS, .string nD], .agg #[.bool nN, .string nS, .string nD]] w1 (Re w1 (.agg #[.bool mN, .string mS, .string mD]))))
  (N1 : Hid (∀ w1, Below w.heap.size w w1 → Calls Tryz.prog 63 #[.agg #[.bool u0, .string u1, .string u2, .bool u3, .string u4, .string u5]] w1 (Re w1 (.agg #[.bool pN, .string pS, .string pD]))))
  (N2 : Hid (∀ w1, Below w.heap.size w w1 → Calls Tryz.prog 63 #[.agg #[.bool v0, .string v1, .string v2, .bool v3, .string v4, .string v5]] w1 (Re w1 (.agg #[.bool qN, .string qS, .string qD]))))
  (T1 : Hid (∀ w1, Below w.heap.size w w1 → Calls Tryz.prog 69 #[.agg #[.bool pN, .string pS, .string pD], .agg #[.bool v3, .string v4, .string v5]] w1 (Re w1 (.agg #[.bool gN, .string gS, .string gD]))))
  (T2 : Hid (∀ w1, Below w.heap.size w w1 → Calls Tryz.prog 69 #[.agg #[.bool qN, .string qS, .string qD], .agg #[.bool u3, .string u4, .string u5]] w1 (Re w1 (.agg #[.bool hN, .string hS, .string hD]))))
  (L1 : Hid (∀ w1, Below w.heap.size w w1 → Calls Tryz.prog 68 #[.agg #[.bool gN, .string gS, .string gD], .agg #[.bool hN, .string hS, .string hD]] w1 (Re w1 (.agg #[.bool iN, .string iS, .string iD]))))
  (O1 : Hid (∀ w1, Below w.heap.size w w1 → Calls Tryz.prog 67 #[.agg #[.bool iN, .string iS, .string iD], .agg #[.bool mN, .string mS, .string mD]] w1 (Re w1 (.agg #[.bool xN, .string xS, .string xD]))))
  (T3 : Hid (∀ w1, Below w.heap.size w w1 → Calls Tryz.prog 69 #[.agg #[.bool qN, .string qS, .string qD], .agg #[.bool u0, .string u1, .string u2]] w1 (Re w1 (.agg #[.bool jN, .string jS, .string jD]))))
  (T4 : Hid (∀ w1, Below w.heap.size w w1 → Calls Tryz.prog 69 #[.agg #[.bool pN, .string pS, .string pD], .agg #[.bool v0, .string v1, .string v2]] w1 (Re w1 (.agg #[.bool kN, .string kS, .string kD]))))
  (L2 : Hid (∀ w1, Below w.heap.size w w1 → Calls Tryz.prog 68 #[.agg #[.bool jN, .string jS, .string jD], .agg #[.bool kN, .string kS, .string kD]] w1 (Re w1 (.agg #[.bool lN, .string lS, .string lD]))))
  (O2 : Hid (∀ w1, Below w.heap.size w w1 → Calls Tryz.prog 67 #[.agg #[.bool lN, .string lS, .string lD], .agg #[.bool mN, .string mS, .string mD]] w1 (Re w1 (.agg #[.bool yN, .string yS, .string yD]))))
  (PL : Hid (∀ w1, Below w.heap.size w w1 → Calls Tryz.prog 35 #[.agg #[.bool n0, .string s0, .string d0, .bool n1, .string s1, .string d1], .agg #[.bool xN, .string xS, .string xD, .bool yN, .string yS, .string yD]] w1 (Re w1 (.agg #[.bool r0, .string r1, .string r2, .bool r3, .string r4, .string r5])))) :
  Calls Tryz.prog 27 #[.agg #[.bool n0, .string s0, .string d0, .bool n1, .string s1, .string d1], .agg #[.bool n2, .string s2, .string d2, .bool n3, .string s3, .string d3], .agg #[.bool n4, .string s4, .string d4, .bool n5, .string s5, .string d5]] w (Re w (.agg #[.bool r0, .string r1, .string r2, .bool r3, .string r4, .string r5])) := by
 go_enter Tryz.func27, Tryz.ntmps27
 go_wp2_with fail
 obtain ⟨w1, hw, ka, kb, kc, kr, bb⟩ := mk4 w [.bool n0, .string s0, .string d0, .bool n1, .string s1, .string d1] [.bool n2, .string s2, .string d2, .bool n3, .string s3, .string d3] [.bool n4, .string s4, .string d4, .bool n5, .string s5, .string d5] [.bool false, .string { data := #[] }, .string { data := #[] }, .bool false, .string { data := #[] }, .string { data := #[] }] 28 28 28 28
 rw [← hw]
 clear hw
 have tr := kr.lt
 obtain ⟨ca_0, ca_1, ca_2, ca_3, ca_4, ca_5⟩ := xk6 ka
 obtain ⟨cb_6, cb_7, cb_8, cb_9, cb_10, cb_11⟩ := xk6 kb
 go_wp2_with fail
 clear ca_0 ca_1 ca_2 ca_3 ca_4 ca_5 cb_6 cb_7 cb_8 cb_9 cb_10 cb_11
 go_fit (M1.out _ bb)
 rintro e w11 ⟨rfl, b1⟩
 have sz := b1.size
 replace ka := ka.below b1
 replace kb := kb.below b1
 replace kc := kc.below b1
 replace kr := kr.below b1
 replace bb := Below.after bb b1
 clear b1
 obtain ⟨za0, za1, za2, za3, za4, za5⟩ := xk6 (ka.alloc (.cells #[.bool u0, .string u1, .string u2, .bool u3, .string u4, .string u5] 28))
 obtain ⟨zc0, zc1, zc2, zc3, zc4, zc5⟩ := xk6 (kc.alloc (.cells #[.bool u0, .string u1, .string u2, .bool u3, .string u4, .string u5] 28))
 go_wp2_with fail
 obtain ⟨x11, hw, ku, b1⟩ := mk1 w11 [.bool u0, .string u1, .string u2, .bool u3, .string u4, .string u5] 28
 rw [← hw]
 clear hw za0 za1 za2 za3 za4 za5 zc0 zc1 zc2 zc3 zc4 zc5
 have sz := b1.size
 replace ka := ka.below b1
 replace kb := kb.below b1
 replace kc := kc.below b1
 replace kr := kr.below b1
 replace bb := Below.after bb b1
 clear b1
 have tu := ku.lt
 go_fit (M2.out _ bb)
 rintro e w12 ⟨rfl, b1⟩
 have sz := b1.size
 replace ka := ka.below b1
 replace kb := kb.below b1
 replace kc := kc.below b1
 replace kr := kr.below b1
 replace ku := ku.below b1
 replace bb := Below.after bb b1
 clear b1
 obtain ⟨zu0, zu1, zu2, zu3, zu4, zu5⟩ := xk6 (ku.alloc (.cells #[.bool v0, .string v1, .string v2, .bool v3, .string v4, .string v5] 28))
 obtain ⟨zv0, zv1, zv2, zv3, zv4, zv5⟩ := xk6 (Cel.new w12 [.bool v0, .string v1, .string v2, .bool v3, .string v4, .string v5] 28)
 go_wp2_with fail
 obtain ⟨x12, hw, kv, b1⟩ := mk1 w12 [.bool v0, .string v1, .string v2, .bool v3, .string v4, .string v5] 28
 rw [← hw]
 clear hw zu0 zu1 zu2 zu3 zu4 zu5 zv0 zv1 zv2 zv3 zv4 zv5
 have sz := b1.size
 replace ka := ka.below b1
 replace kb := kb.below b1
 replace kc := kc.below b1
 replace kr := kr.below b1
 replace ku := ku.below b1
 replace bb := Below.after bb b1
 clear b1
 have tv := kv.lt
 go_fit (CR.out _ bb)
 rintro e w13 ⟨rfl, b1⟩
 have sz := b1.size
 replace ka := ka.below b1
 replace kb := kb.below b1
 replace kc := kc.below b1
 replace kr := kr.below b1
 replace ku := ku.below b1
 replace kv := kv.below b1
 replace bb := Below.after bb b1
 clear b1
 obtain ⟨zn0, zn1, zn2⟩ := xk3 (Cel.new w13 [.bool nN, .string nS, .string nD] 26)
 go_wp2_with fail
 obtain ⟨x13, hw, kn, b1⟩ := mk1 w13 [.bool nN, .string nS, .string nD] 26
 rw [← hw]
 clear hw zn0 zn1 zn2
 have sz := b1.size
 replace ka := ka.below b1
 replace kb := kb.below b1
 replace kc := kc.below b1
 replace kr := kr.below b1
 replace ku := ku.below b1
 replace kv := kv.below b1
 replace bb := Below.after bb b1
 clear b1
 have tn := kn.lt
 go_fit (SU.out _ bb)
 rintro e w14 ⟨rfl, b1⟩
 have sz := b1.size
 replace ka := ka.below b1
 replace kb := kb.below b1
 replace kc := kc.below b1
 replace kr := kr.below b1
 replace ku := ku.below b1
 replace kv := kv.below b1
 replace kn := kn.below b1
 replace bb := Below.after bb b1
 clear b1
 have cn_0 := cel3_0 kn
 have fn_1 := Cel.frozen kn 0
 have cn_2 := cel3_1 kn
 have fn_3 := Cel.frozen kn 1
 have cn_4 := cel3_2 kn
 have fn_5 := Cel.frozen kn 2
 obtain ⟨cu_6, cu_7, cu_8, cu_9, cu_10, cu_11⟩ := xk6 ku
 go_wp2_with fail
 clear cn_0 fn_1 cn_2 fn_3 cn_4 fn_5 cu_6 cu_7 cu_8 cu_9 cu_10 cu_11
 obtain ⟨w101, hw⟩ : ∃ x, x = ((w14.setCell ⟨w13.heap.size, 0, none⟩ (.bool mN)).setCell ⟨w13.heap.size, 1, none⟩ (.string mS)).setCell ⟨w13.heap.size, 2, none⟩ (.string mD) := ⟨_, rfl⟩
 rw [← hw]
 replace ka := (Cel.other (g' := w13.heap.size) (Cel.other (g' := w13.heap.size) (Cel.other (g' := w13.heap.size) ka (by omega) 0 (.bool mN)) (by omega) 1 (.string mS)) (by omega) 2 (.string mD))
 rw [← hw] at ka
 replace kb := (Cel.other (g' := w13.heap.size) (Cel.other (g' := w13.heap.size) (Cel.other (g' := w13.heap.size) kb (by omega) 0 (.bool mN)) (by omega) 1 (.string mS)) (by omega) 2 (.string mD))
 rw [← hw] at kb
 replace kc := (Cel.other (g' := w13.heap.size) (Cel.other (g' := w13.heap.size) (Cel.other (g' := w13.heap.size) kc (by omega) 0 (.bool mN)) (by omega) 1 (.string mS)) (by omega) 2 (.string mD))
 rw [← hw] at kc
 replace kr := (Cel.other (g' := w13.heap.size) (Cel.other (g' := w13.heap.size) (Cel.other (g' := w13.heap.size) kr (by omega) 0 (.bool mN)) (by omega) 1 (.string mS)) (by omega) 2 (.string mD))
 rw [← hw] at kr
 replace ku := (Cel.other (g' := w13.heap.size) (Cel.other (g' := w13.heap.size) (Cel.other (g' := w13.heap.size) ku (by omega) 0 (.bool mN)) (by omega) 1 (.string mS)) (by omega) 2 (.string mD))
 rw [← hw] at ku
 replace kv := (Cel.other (g' := w13.heap.size) (Cel.other (g' := w13.heap.size) (Cel.other (g' := w13.heap.size) kv (by omega) 0 (.bool mN)) (by omega) 1 (.string mS)) (by omega) 2 (.string mD))
 rw [← hw] at kv
 replace kn := (((kn.set 0 (.bool mN)).set 1 (.string mS)).set 2 (.string mD))
 rw [← hw] at kn
 replace bb := (bset (g := w13.heap.size) (bset (g := w13.heap.size) (bset (g := w13.heap.size) bb (by omega) 0 (.bool mN)) (by omega) 1 (.string mS)) (by omega) 2 (.string mD))
 rw [← hw] at bb
 clear hw
 go_fit (N1.out _ bb)
 rintro e w15 ⟨rfl, b1⟩
 have sz := b1.size
 replace ka := ka.below b1
 replace kb := kb.below b1
 replace kc := kc.below b1
 replace kr := kr.below b1
 replace ku := ku.below b1
 replace kv := kv.below b1
 replace kn := kn.below b1
 replace bb := Below.after bb b1
 clear b1
 obtain ⟨zv0, zv1, zv2, zv3, zv4, zv5⟩ := xk6 (kv.alloc (.cells #[.bool pN, .string pS, .string pD] 26))
 go_wp2_with fail
 obtain ⟨x15, hw, kp, b1⟩ := mk1 w15 [.bool pN, .string pS, .string pD] 26
 rw [← hw]
 clear hw zv0 zv1 zv2 zv3 zv4 zv5
 have sz := b1.size
 replace ka := ka.below b1
 replace kb := kb.below b1
 replace kc := kc.below b1
 replace kr := kr.below b1
 replace ku := ku.below b1
 replace kv := kv.below b1
 replace kn := kn.below b1
 replace bb := Below.after bb b1
 clear b1
 have tp := kp.lt
 go_fit (N2.out _ bb)
 rintro e w16 ⟨rfl, b1⟩
 have sz := b1.size
 replace ka := ka.below b1
 replace kb := kb.below b1
 replace kc := kc.below b1
 replace kr := kr.below b1
 replace ku := ku.below b1
 replace kv := kv.below b1
 replace kn := kn.below b1
 replace kp := kp.below b1
 replace bb := Below.after bb b1
 clear b1
 go_wp2_with fail
 obtain ⟨x16, hw, kq, b1⟩ := mk1 w16 [.bool qN, .string qS, .string qD] 26
 rw [← hw]
 clear hw
 have sz := b1.size
 replace ka := ka.below b1
 replace kb := kb.below b1
 replace kc := kc.below b1
 replace kr := kr.below b1
 replace ku := ku.below b1
 replace kv := kv.below b1
 replace kn := kn.below b1
 replace kp := kp.below b1
 replace bb := Below.after bb b1
 clear b1
 have tq := kq.lt
 have mk : Hid (∀ w', SB x16 w' → xc3 w' w15.heap.size (.bool pN) (.string pS) (.string pD) ∧ xc3 w' w16.heap.size (.bool qN) (.string qS) (.string qD) ∧ xc6 w' w11.heap.size (.bool u0) (.string u1) (.string u2) (.bool u3) (.string u4) (.string u5) ∧ xc6 w' w12.heap.size (.bool v0) (.string v1) (.string v2) (.bool v3) (.string v4) (.string v5) ∧ xc3 w' w13.heap.size (.bool mN) (.string mS) (.string mD)) := fun w' h => ⟨xk3 (kp.below h), xk3 (kq.below h), xk6 (ku.below h), xk6 (kv.below h), xk3 (kn.below h)⟩
 go_cut [12] from 30 to 40 (fun v wx => ∃ gc, v = .pointer (some ⟨gc, 0, none⟩) ∧ x16.heap.size ≤ gc ∧ Cel wx gc [.bool xN, .string xS, .string xD] 26 ∧ Below x16.heap.size x16 wx)
 case first =>
  clear M1 M2 CR SU N1 N2 T3 T4 L2 O2 PL
  refine wp_region_held_drew (S := SB x16) (by kernel_rfl) (bdrew _) (fun bc => ?_)
  refine WA.start (n := 13) (by kernel_rfl) ?_
  refine WA.tl 0 rfl ?_
  refine WA.tk 1 rfl ?_
  refine WA.tl 2 rfl ?_
  refine WA.tl 4 rfl ?_
  refine WA.tk 5 rfl ?_
  refine WA.tl 6 rfl ?_
  refine WA.tl 9 rfl ?_
  refine WA.gen (i := 11) (s := 12) undef (Pt x16 [.bool false, .string { data := #[] }, .string { data := #[] }] 26) (fun b x hz => ?_)
  simp only [Act.put, List.setIfInBounds_toArray, List.set_cons_zero, List.set_cons_succ]
  revert b x
  refine WA.one 13 631 3 11 rfl rfl bc ?_
  clear bc
  intro b x w' hz bx bc K hK
  clear bx
  simp only [List.getElem_toArray, List.getElem_cons_succ, List.getElem_cons_zero]
  go_simp
  go_fit (T1.out _ ?_)
  ·exact Below.after bb bc
  rintro e wn ⟨rfl, bn⟩
  replace bc := Below.after bc bn
  try go_wp2_with fail
  refine hK.out _ _ bc (fun _ => ?_)
  replace hz := fun h => (hz h).below bn
  clear hK K bn
  revert b x
  refine WA.one 13 639 7 11 rfl rfl bc ?_
  clear bc
  intro b x w' hz bx bc K hK
  clear bx
  simp only [List.getElem_toArray, List.getElem_cons_succ, List.getElem_cons_zero]
  go_simp
  go_fit (T2.out _ ?_)
  ·exact Below.after bb bc
  rintro e wn ⟨rfl, bn⟩
  replace bc := Below.after bc bn
  try go_wp2_with fail
  refine hK.out _ _ bc (fun _ => ?_)
  replace hz := fun h => (hz h).below bn
  clear hK K bn
  revert b x
  refine WA.one 13 767 8 11 rfl rfl bc ?_
  clear bc
  intro b x w' hz bx bc K hK
  clear bx
  simp only [List.getElem_toArray, List.getElem_cons_succ, List.getElem_cons_zero]
  go_simp
  go_fit (L1.out _ ?_)
  ·exact Below.after bb bc
  rintro e wn ⟨rfl, bn⟩
  replace bc := Below.after bc bn
  try go_wp2_with fail
  refine hK.out _ _ bc (fun _ => ?_)
  replace hz := fun h => (hz h).below bn
  clear hK K bn
  revert b x
  refine WA.one 13 1023 10 11 rfl rfl bc ?_
  clear bc
  intro b x w' hz bx bc K hK
  clear bx
  simp only [List.getElem_toArray, List.getElem_cons_succ, List.getElem_cons_zero]
  go_simp
  go_fit (O1.out _ ?_)
  ·exact Below.after bb bc
  rintro e wn ⟨rfl, bn⟩
  replace bc := Below.after bc bn
  try go_wp2_with fail
  refine hK.out _ _ bc (fun _ => ?_)
  replace hz := fun h => (hz h).below bn
  clear hK K bn
  revert b x
  refine WA.fin 11 rfl bc ?_
  clear bc
  intro x w' hz bx bc
  obtain ⟨g0, rfl, h0, k0⟩ := hz
  clear bx
  obtain ⟨e0, e1, e2⟩ := xk3 k0
  have f0 := Cel.frozen k0 0
  have f1 := Cel.frozen k0 1
  have f2 := Cel.frozen k0 2
  refine WA.call 12 rfl (fun K hK => ?_)
  simp only [List.getElem_toArray, List.getElem_cons_succ, List.getElem_cons_zero]
  go_simp
  try go_wp2_with fail
  clear e0 f0 e1 f1 e2 f2
  replace bc := (bset (bset (bset bc h0 0 (.bool xN)) h0 1 (.string xS)) h0 2 (.string xD))
  refine hK.out _ _ bc (fun _ => ?_)
  clear hK K
  replace k0 := (Cel.set (Cel.set (Cel.set k0 0 (.bool xN)) 1 (.string xS)) 2 (.string xD))
  refine WA.done (by kernel_rfl) ?_
  go_wp2_with fail
  go_meet
  exact ⟨_, rfl, h0, k0, bc⟩
 case rest =>
 obtain ⟨gx, rfl, lx, kx, b1⟩ := hcut
 clear mk; have sz := b1.size
 replace ka := ka.below b1
 replace kb := kb.below b1
 replace kc := kc.below b1
 replace kr := kr.below b1
 replace ku := ku.below b1
 replace kv := kv.below b1
 replace kn := kn.below b1
 replace kp := kp.below b1
 replace kq := kq.below b1
 replace bb := Below.after bb b1
 clear b1
 have tx := kx.lt
 go_wp2_with fail
 have mk : Hid (∀ w', SB wc w' → xc3 w' w15.heap.size (.bool pN) (.string pS) (.string pD) ∧ xc3 w' w16.heap.size (.bool qN) (.string qS) (.string qD) ∧ xc6 w' w11.heap.size (.bool u0) (.string u1) (.string u2) (.bool u3) (.string u4) (.string u5) ∧ xc6 w' w12.heap.size (.bool v0) (.string v1) (.string v2) (.bool v3) (.string v4) (.string v5) ∧ xc3 w' w13.heap.size (.bool mN) (.string mS) (.string mD)) := fun w' h => ⟨xk3 (kp.below h), xk3 (kq.below h), xk6 (ku.below h), xk6 (kv.below h), xk3 (kn.below h)⟩
 go_cut [13] from 41 to 51 (fun v wx => ∃ gc, v = .pointer (some ⟨gc, 0, none⟩) ∧ wc.heap.size ≤ gc ∧ Cel wx gc [.bool yN, .string yS, .string yD] 26 ∧ Below wc.heap.size wc wx)
 case first =>
  clear M1 M2 CR SU N1 N2 T1 T2 L1 O1 PL
  refine wp_region_held_drew (S := SB wc) (by kernel_rfl) (bdrew _) (fun bc => ?_)
  refine WA.start (n := 13) (by kernel_rfl) ?_
  refine WA.tl 0 rfl ?_
  refine WA.tk 1 rfl ?_
  refine WA.tl 2 rfl ?_
  refine WA.tl 4 rfl ?_
  refine WA.tk 5 rfl ?_
  refine WA.tl 6 rfl ?_
  refine WA.tl 9 rfl ?_
  refine WA.gen (i := 11) (s := 13) undef (Pt wc [.bool false, .string { data := #[] }, .string { data := #[] }] 26) (fun b x hz => ?_)
  simp only [Act.put, List.setIfInBounds_toArray, List.set_cons_zero, List.set_cons_succ]
  revert b x
  refine WA.one 13 631 3 11 rfl rfl bc ?_
  clear bc
  intro b x w' hz bx bc K hK
  clear bx
  simp only [List.getElem_toArray, List.getElem_cons_succ, List.getElem_cons_zero]
  go_simp
  go_fit (T3.out _ ?_)
  ·exact Below.after bb bc
  rintro e wn ⟨rfl, bn⟩
  replace bc := Below.after bc bn
  try go_wp2_with fail
  refine hK.out _ _ bc (fun _ => ?_)
  replace hz := fun h => (hz h).below bn
  clear hK K bn
  revert b x
  refine WA.one 13 639 7 11 rfl rfl bc ?_
  clear bc
  intro b x w' hz bx bc K hK
  clear bx
  simp only [List.getElem_toArray, List.getElem_cons_succ, List.getElem_cons_zero]
  go_simp
  go_fit (T4.out _ ?_)
  ·exact Below.after bb bc
  rintro e wn ⟨rfl, bn⟩
  replace bc := Below.after bc bn
  try go_wp2_with fail
  refine hK.out _ _ bc (fun _ => ?_)
  replace hz := fun h => (hz h).below bn
  clear hK K bn
  revert b x
  refine WA.one 13 767 8 11 rfl rfl bc ?_
  clear bc
  intro b x w' hz bx bc K hK
  clear bx
  simp only [List.getElem_toArray, List.getElem_cons_succ, List.getElem_cons_zero]
  go_simp
  go_fit (L2.out _ ?_)
  ·exact Below.after bb bc
  rintro e wn ⟨rfl, bn⟩
  replace bc := Below.after bc bn
  try go_wp2_with fail
  refine hK.out _ _ bc (fun _ => ?_)
  replace hz := fun h => (hz h).below bn
  clear hK K bn
  revert b x
  refine WA.one 13 1023 10 11 rfl rfl bc ?_
  clear bc
  intro b x w' hz bx bc K hK
  clear bx
  simp only [List.getElem_toArray, List.getElem_cons_succ, List.getElem_cons_zero]
  go_simp
  go_fit (O2.out _ ?_)
  ·exact Below.after bb bc
  rintro e wn ⟨rfl, bn⟩
  replace bc := Below.after bc bn
  try go_wp2_with fail
  refine hK.out _ _ bc (fun _ => ?_)
  replace hz := fun h => (hz h).below bn
  clear hK K bn
  revert b x
  refine WA.fin 11 rfl bc ?_
  clear bc
  intro x w' hz bx bc
  obtain ⟨g0, rfl, h0, k0⟩ := hz
  clear bx
  obtain ⟨e0, e1, e2⟩ := xk3 k0
  have f0 := Cel.frozen k0 0
  have f1 := Cel.frozen k0 1
  have f2 := Cel.frozen k0 2
  refine WA.call 12 rfl (fun K hK => ?_)
  simp only [List.getElem_toArray, List.getElem_cons_succ, List.getElem_cons_zero]
  go_simp
  try go_wp2_with fail
  clear e0 f0 e1 f1 e2 f2
  replace bc := (bset (bset (bset bc h0 0 (.bool yN)) h0 1 (.string yS)) h0 2 (.string yD))
  refine hK.out _ _ bc (fun _ => ?_)
  clear hK K
  replace k0 := (Cel.set (Cel.set (Cel.set k0 0 (.bool yN)) 1 (.string yS)) 2 (.string yD))
  refine WA.done (by kernel_rfl) ?_
  go_wp2_with fail
  go_meet
  exact ⟨_, rfl, h0, k0, bc⟩
 case rest =>
 obtain ⟨gy, rfl, ly, ky, b1⟩ := hcut
 clear mk; have sz := b1.size
 replace ka := ka.below b1
 replace kb := kb.below b1
 replace kc := kc.below b1
 replace kr := kr.below b1
 replace ku := ku.below b1
 replace kv := kv.below b1
 replace kn := kn.below b1
 replace kp := kp.below b1
 replace kq := kq.below b1
 replace kx := kx.below b1
 replace bb := Below.after bb b1
 clear b1
 have ty := ky.lt
 obtain ⟨ca_0, ca_1, ca_2, ca_3, ca_4, ca_5⟩ := xk6 ka
 obtain ⟨cx_6, cx_7, cx_8⟩ := xk3 kx
 obtain ⟨cy_9, cy_10, cy_11⟩ := xk3 ky
 go_wp2_with fail
 clear ca_0 ca_1 ca_2 ca_3 ca_4 ca_5 cx_6 cx_7 cx_8 cy_9 cy_10 cy_11
 go_fit (PL.out _ bb)
 rintro e w17 ⟨rfl, b1⟩
 have sz := b1.size
 replace ka := ka.below b1
 replace kb := kb.below b1
 replace kc := kc.below b1
 replace kr := kr.below b1
 replace ku := ku.below b1
 replace kv := kv.below b1
 replace kn := kn.below b1
 replace kp := kp.below b1
 replace kq := kq.below b1
 replace kx := kx.below b1
 replace ky := ky.below b1
 replace bb := Below.after bb b1
 clear b1
 obtain ⟨e0, e1, e2, e3, e4, e5⟩ := xk6 kr
 have f0 := Cel.frozen kr 0
 have f1 := Cel.frozen kr 1
 have f2 := Cel.frozen kr 2
 have f3 := Cel.frozen kr 3
 have f4 := Cel.frozen kr 4
 have f5 := Cel.frozen kr 5
 go_wp2
 exact post_p (p := 6) (by kernel_rfl) rfl rfl (kr.set6 _ _ _ _ _ _) ⟨rfl, bset6 bb (by omega) _ _ _ _ _ _⟩
open Go.RowKit
theorem natAbs_sgn (n : Bool) (k : Nat) : (sgn n k).natAbs = k := by
 unfold sgn
 split <;> omega
theorem nint_any (n : Bool) (v : Value) (z : Int) (L : Nat) (w : World) (hL : L ≤ 1000) (h : NV w n v z L) :
  Calls Tryz.prog 62 #[.agg #[.bool n, v]] w (Re w (.agg #[.bool (nfZ z), .string (sfZ z)])) := by
 have H1 : Hid (∀ w1, Below w.heap.size w w1 → Calls Tryz.prog 106 #[v] w1 (Re w1 (.tuple #[.string (sfZ z), .int .i64 0]))) := fun w1 b => by
  obtain ⟨k, r, hk, rfl⟩ := h
  have := nat_any v _ w1 (r.below b) (M.Low.digs B64_two k) (nv_len hk hL)
  rw [M.val_digs B64_two] at this
  unfold sfZ
  rw [natAbs_sgn]
  exact this
 have H2 : Hid (∀ w1, Below w.heap.size w w1 → Calls Tryz.prog 72 #[.agg #[.bool n, v]] w1 (Re w1 (.int .i64 z.sign))) := fun w1 b => nsign_any n v z L w1 (h.below b)
 have hs : decide (z.sign < 0) = nfZ z := by
  unfold nfZ
  rw [decide_eq_decide]
  constructor
  ·intro k
   rcases Int.lt_trichotomy z 0 with q | q | q
   ·exact q
   ·rw [q] at k; exact absurd k (by decide)
   ·rw [Int.sign_eq_one_of_pos q] at k; exact absurd k (by decide)
  ·intro k
   rw [Int.sign_eq_neg_one_of_neg k]; decide
 obtain ⟨s, hs'⟩ : ∃ s, s = z.sign := ⟨_, rfl⟩
 rw [← hs'] at hs H2
 obtain ⟨N, hN⟩ : ∃ N, N = nfZ z := ⟨_, rfl⟩
 obtain ⟨S, hS⟩ : ∃ S, S = sfZ z := ⟨_, rfl⟩
 rw [← hN] at hs ⊢
 rw [← hS] at H1 ⊢
 obtain ⟨a, l, c, rfl⟩ := h.slice
 clear h hs' hN hS
 go_enter Tryz.func62, Tryz.ntmps62
 go_wp2_with fail
 obtain ⟨w0, hw, k0, kr, bb⟩ := mk2 w [.bool n, .slice a l c] [.bool false, .string { data := #[] }] 72 24
 rw [← hw]
 clear hw
 go_fit (H1.out _ bb)
 rintro e w1 ⟨rfl, b1⟩
 replace k0 := k0.below b1
 replace kr := kr.below b1
 replace bb := Below.after bb b1
 clear b1
 obtain ⟨c0, c1⟩ := xk2 k0
 go_wp2_with fail
 clear c0 c1
 go_fit (H2.out _ bb)
 rintro e w2 ⟨rfl, b1⟩
 replace kr := kr.below b1
 replace bb := Below.after bb b1
 clear b1
 obtain ⟨c0, c1⟩ := xk2 kr
 have f0 := kr.frozen 0
 have f1 := kr.frozen 1
 go_wp2
 exact post_z (p := 2) (by kernel_rfl) rfl rfl ((kr.set 0 _).set 1 _) ⟨rfl, bset (bset bb (by omega) 0 _) (by omega) 1 _⟩
end Go.Proofs.YtiiigiggcbbgjaaGreatDoor
namespace Go.Proofs.YtiiigiggcbbgjaaGreatDoor
open Go.RowKit Go.Shelf
theorem rchk4_any (n0 n1 : Bool) (s0 d0 s1 d1 : ByteArray) (w : World) (z0 : s0.size ≤ 8000) (y0 : d0.size ≤ 8000) (z1 : s1.size ≤ 8000) (y1 : d1.size ≤ 8000) :
  Calls Tryz.prog 42 #[.agg #[.bool n0, .string s0, .string d0, .bool n1, .string s1, .string d1]] w (Re w (.int .i64 (twoq n0 s0 d0 n1 s1 d1 : Nat))) :=
 rchk4_walk n0 n1 s0 d0 s1 d1 _ w (fun w1 => bothq_any n0 n1 s0 d0 s1 d1 w1 z0 y0 z1 y1)
open Go.RowKit
theorem load_s {w : World} {g : Nat} {x0 x1 x2 x3 x4 x5 : Value} (h : Cel w g [x0, x1, x2, x3, x4, x5] 74) : (loadVar 74 ⟨g, 0, none⟩).run Tryz.prog w = .ok (.agg #[x0, x1, x2, x3, x4, x5]) w :=
 run_loadVar_row w g 74 74 #[x0, x1, x2, x3, x4, x5] (0, 0) _ h Tryz.underlying74 rfl (by kernel_rfl)
open Go.RowKit
theorem cSharp_bad (n0 n1 n2 n3 n4 n5 : Bool) (s0 d0 s1 d1 s2 d2 s3 d3 s4 d4 s5 d5 : ByteArray) (E : Int) (w : World) (hE : ¬ E = 0)
  (HC : Hid (∀ (w1 : World) (B : Nat), Below w.heap.size w w1 → Cel w1 B [.bool n0, .string s0, .string d0, .bool n1, .string s1, .string d1, .bool n2, .string s2, .string d2, .bool n3, .string s3, .string d3, .bool n4, .string s4, .string d4, .bool n5, .string s5, .string d5] 28 → Calls Tryz.prog 45 #[.slice (some ⟨B, 0, none⟩) 3 3] w1 (Re w1 (.int .i64 E)))) :
  Calls Tryz.prog 28 #[.agg #[.bool n0, .string s0, .string d0, .bool n1, .string s1, .string d1], .agg #[.bool n2, .string s2, .string d2, .bool n3, .string s3, .string d3], .agg #[.bool n4, .string s4, .string d4, .bool n5, .string s5, .string d5]] w (Re w (.tuple #[.bool false, .int .i64 E])) := by
 go_enter Tryz.func28, Tryz.ntmps28
 go_wp2_with fail
 obtain ⟨w0, hw, ka, kb, kc, kl, bb⟩ := mk4 w [.bool n0, .string s0, .string d0, .bool n1, .string s1, .string d1] [.bool n2, .string s2, .string d2, .bool n3, .string s3, .string d3] [.bool n4, .string s4, .string d4, .bool n5, .string s5, .string d5] [.bool n0, .string s0, .string d0, .bool n1, .string s1, .string d1, .bool n2, .string s2, .string d2, .bool n3, .string s3, .string d3, .bool n4, .string s4, .string d4, .bool n5, .string s5, .string d5] 28 28 28 28
 rw [← hw]
 clear hw
 go_fit (HC.out _ _ bb kl)
 rintro e w1 ⟨rfl, b1⟩
 replace ka := ka.below b1
 replace kb := kb.below b1
 replace kc := kc.below b1
 replace bb := Below.after bb b1
 clear b1 kl
 go_wp2
 go_ret2
 exact ⟨rfl, bb⟩
theorem cSharp_flat1 (n0 n1 n2 n3 n4 n5 : Bool) (s0 d0 s1 d1 s2 d2 s3 d3 s4 d4 s5 d5 : ByteArray) (w : World)
  (HC : Hid (∀ (w1 : World) (B : Nat), Below w.heap.size w w1 → Cel w1 B [.bool n0, .string s0, .string d0, .bool n1, .string s1, .string d1, .bool n2, .string s2, .string d2, .bool n3, .string s3, .string d3, .bool n4, .string s4, .string d4, .bool n5, .string s5, .string d5] 28 → Calls Tryz.prog 45 #[.slice (some ⟨B, 0, none⟩) 3 3] w1 (Re w1 (.int .i64 0))))
  (q1 : ∀ w1, (binOp .eql 28 (.agg #[.bool n2, .string s2, .string d2, .bool n3, .string s3, .string d3]) (.agg #[.bool n0, .string s0, .string d0, .bool n1, .string s1, .string d1])).run Tryz.prog w1 = .ok (.bool true) w1) :
  Calls Tryz.prog 28 #[.agg #[.bool n0, .string s0, .string d0, .bool n1, .string s1, .string d1], .agg #[.bool n2, .string s2, .string d2, .bool n3, .string s3, .string d3], .agg #[.bool n4, .string s4, .string d4, .bool n5, .string s5, .string d5]] w (Re w (.tuple #[.bool false, .int .i64 6])) := by
 go_enter Tryz.func28, Tryz.ntmps28
 go_wp2_with fail
 obtain ⟨w0, hw, ka, kb, kc, kl, bb⟩ := mk4 w [.bool n0, .string s0, .string d0, .bool n1, .string s1, .string d1] [.bool n2, .string s2, .string d2, .bool n3, .string s3, .string d3] [.bool n4, .string s4, .string d4, .bool n5, .string s5, .string d5] [.bool n0, .string s0, .string d0, .bool n1, .string s1, .string d1, .bool n2, .string s2, .string d2, .bool n3, .string s3, .string d3, .bool n4, .string s4, .string d4, .bool n5, .string s5, .string d5] 28 28 28 28
 rw [← hw]
 clear hw
 go_fit (HC.out _ _ bb kl)
 rintro e w1 ⟨rfl, b1⟩
 replace ka := ka.below b1
 replace kb := kb.below b1
 replace kc := kc.below b1
 replace bb := Below.after bb b1
 clear b1 kl
 obtain ⟨ca0, ca1, ca2, ca3, ca4, ca5⟩ := xk6 ka
 obtain ⟨cb0, cb1, cb2, cb3, cb4, cb5⟩ := xk6 kb
 obtain ⟨cc0, cc1, cc2, cc3, cc4, cc5⟩ := xk6 kc
 go_wp2
 go_ret2
 exact ⟨rfl, bb⟩
theorem cSharp_flat2 (n0 n1 n2 n3 n4 n5 : Bool) (s0 d0 s1 d1 s2 d2 s3 d3 s4 d4 s5 d5 : ByteArray) (w : World)
  (HC : Hid (∀ (w1 : World) (B : Nat), Below w.heap.size w w1 → Cel w1 B [.bool n0, .string s0, .string d0, .bool n1, .string s1, .string d1, .bool n2, .string s2, .string d2, .bool n3, .string s3, .string d3, .bool n4, .string s4, .string d4, .bool n5, .string s5, .string d5] 28 → Calls Tryz.prog 45 #[.slice (some ⟨B, 0, none⟩) 3 3] w1 (Re w1 (.int .i64 0))))
  (q1 : ∀ w1, (binOp .eql 28 (.agg #[.bool n2, .string s2, .string d2, .bool n3, .string s3, .string d3]) (.agg #[.bool n0, .string s0, .string d0, .bool n1, .string s1, .string d1])).run Tryz.prog w1 = .ok (.bool false) w1)
  (q2 : ∀ w1, (binOp .eql 28 (.agg #[.bool n2, .string s2, .string d2, .bool n3, .string s3, .string d3]) (.agg #[.bool n4, .string s4, .string d4, .bool n5, .string s5, .string d5])).run Tryz.prog w1 = .ok (.bool true) w1) :
  Calls Tryz.prog 28 #[.agg #[.bool n0, .string s0, .string d0, .bool n1, .string s1, .string d1], .agg #[.bool n2, .string s2, .string d2, .bool n3, .string s3, .string d3], .agg #[.bool n4, .string s4, .string d4, .bool n5, .string s5, .string d5]] w (Re w (.tuple #[.bool false, .int .i64 6])) := by
 go_enter Tryz.func28, Tryz.ntmps28
 go_wp2_with fail
 obtain ⟨w0, hw, ka, kb, kc, kl, bb⟩ := mk4 w [.bool n0, .string s0, .string d0, .bool n1, .string s1, .string d1] [.bool n2, .string s2, .string d2, .bool n3, .string s3, .string d3] [.bool n4, .string s4, .string d4, .bool n5, .string s5, .string d5] [.bool n0, .string s0, .string d0, .bool n1, .string s1, .string d1, .bool n2, .string s2, .string d2, .bool n3, .string s3, .string d3, .bool n4, .string s4, .string d4, .bool n5, .string s5, .string d5] 28 28 28 28
 rw [← hw]
 clear hw
 go_fit (HC.out _ _ bb kl)
 rintro e w1 ⟨rfl, b1⟩
 replace ka := ka.below b1
 replace kb := kb.below b1
 replace kc := kc.below b1
 replace bb := Below.after bb b1
 clear b1 kl
 obtain ⟨ca0, ca1, ca2, ca3, ca4, ca5⟩ := xk6 ka
 obtain ⟨cb0, cb1, cb2, cb3, cb4, cb5⟩ := xk6 kb
 obtain ⟨cc0, cc1, cc2, cc3, cc4, cc5⟩ := xk6 kc
 go_wp2
 go_ret2
 exact ⟨rfl, bb⟩
open Go.RowKit
theorem Gm.centre_one {a b c d U V x y z s r q : Rat} (ha : a = U * x) (hb : b = U * y) (hc : c = V * z) (hd : d = V * s) (hr : ((x * s - y * z) + (x * s - y * z)) * r = 1) (hq : q = (x * x + y * y) * s - (z * z + s * s) * y) :
  (a * a + b * b) * V * d - (c * c + d * d) * U * b = ((a * d - b * c) + (a * d - b * c)) * U * V * (q * r) := by
 subst ha hb hc hd hq
 grind
theorem Gm.centre_two {a b c d U V x y z s r q : Rat} (ha : a = U * x) (hb : b = U * y) (hc : c = V * z) (hd : d = V * s) (hr : ((x * s - y * z) + (x * s - y * z)) * r = 1) (hq : q = x * (z * z + s * s) - z * (x * x + y * y)) :
  a * ((c * c + d * d) * U) - c * ((a * a + b * b) * V) = ((a * d - b * c) + (a * d - b * c)) * U * V * (q * r) := by
 subst ha hb hc hd hq
 grind
theorem Gm.centre_way {X1 Y1 U1 X4 Y4 U4 : Int} {ux uy vx vy : Rat} (h1 : Gm.Way X1 Y1 U1 ux uy) (h4 : Gm.Way X4 Y4 U4 vx vy) (hA : ux * vy - uy * vx ≠ 0) {X Y : Int}
  (h : (X = ((X1 * X1 + Y1 * Y1) * U4) * Y4 - ((X4 * X4 + Y4 * Y4) * U1) * Y1 ∧ Y = X1 * ((X4 * X4 + Y4 * Y4) * U1) - X4 * ((X1 * X1 + Y1 * Y1) * U4) ∧ 0 ≤ X1 * Y4 - Y1 * X4) ∨ (X = -(((X1 * X1 + Y1 * Y1) * U4) * Y4 - ((X4 * X4 + Y4 * Y4) * U1) * Y1) ∧ Y = -(X1 * ((X4 * X4 + Y4 * Y4) * U1) - X4 * ((X1 * X1 + Y1 * Y1) * U4)) ∧ X1 * Y4 - Y1 * X4 ≤ 0)) :
  Gm.Way X Y ((((X1 * Y4 - Y1 * X4) + (X1 * Y4 - Y1 * X4)).natAbs : Int) * U1 * U4) (((ux * ux + uy * uy) * vy - (vx * vx + vy * vy) * uy) / ((ux * vy - uy * vx) + (ux * vy - uy * vx))) ((ux * (vx * vx + vy * vy) - vx * (ux * ux + uy * uy)) / ((ux * vy - uy * vx) + (ux * vy - uy * vx))) := by
 have p1 := Gm.upos h1.1
 have p4 := Gm.upos h4.1
 have hA2 : (ux * vy - uy * vx) + (ux * vy - uy * vx) ≠ 0 := by grind
 have hr := Rat.mul_inv_cancel _ hA2
 rw [Rat.div_def, Rat.div_def]
 have hne : X1 * Y4 - Y1 * X4 ≠ 0 := by
  intro e
  have e2 : ((X1 * Y4 - Y1 * X4 : Int) : Rat) = 0 := by rw [e]; rfl
  rw [Rat.intCast_sub, Rat.intCast_mul, Rat.intCast_mul, h1.2.1, h1.2.2, h4.2.1, h4.2.2] at e2
  have e3 : (U1 : Rat) * (U4 : Rat) * (ux * vy - uy * vx) = 0 := by grind
  rcases Rat.mul_eq_zero.1 e3 with h | h
  ·rcases Rat.mul_eq_zero.1 h with h | h <;> grind
  ·exact hA h
 have c1 := Gm.centre_one h1.2.1 h1.2.2 h4.2.1 h4.2.2 hr rfl
 have c2 := Gm.centre_two h1.2.1 h1.2.2 h4.2.1 h4.2.2 hr rfl
 generalize (ux * vy - uy * vx + (ux * vy - uy * vx))⁻¹ = r at *
 rcases h with ⟨rfl, rfl, h0⟩ | ⟨rfl, rfl, h0⟩
 ·have hn : (((X1 * Y4 - Y1 * X4) + (X1 * Y4 - Y1 * X4)).natAbs : Int) = (X1 * Y4 - Y1 * X4) + (X1 * Y4 - Y1 * X4) := by omega
  rw [hn]
  refine ⟨Int.mul_pos (Int.mul_pos (by omega) h1.1) h4.1, ?_, ?_⟩
  ·push_cast
   exact c1
  ·push_cast
   exact c2
 ·have hn : (((X1 * Y4 - Y1 * X4) + (X1 * Y4 - Y1 * X4)).natAbs : Int) = -((X1 * Y4 - Y1 * X4) + (X1 * Y4 - Y1 * X4)) := by omega
  rw [hn]
  refine ⟨Int.mul_pos (Int.mul_pos (by omega) h1.1) h4.1, ?_, ?_⟩
  ·push_cast
   rw [c1]
   grind
  ·push_cast
   rw [c2]
   grind
theorem NV.set1 {w : World} {n m : Bool} {v : Value} {z : Int} {L g : Nat} {a : Option Addr} {l c : Nat} {t : TypeId} (h : NV w n v z L) (hc : Cel w g [.bool m, .slice a l c] t) (x : Value) : NV (w.setCell ⟨g, 0, none⟩ x) n v z L := by
 obtain ⟨k, r, h1, h2⟩ := h
 exact ⟨k, ((rdx_of_cel r hc (no_ints2 _ _ _ _)).setX 0 x).rd, h1, h2⟩
theorem NV.flip {w : World} {n : Bool} {v : Value} {z : Int} {L : Nat} (h : NV w n v z L) : NV w (!n) v (-z) L := by
 obtain ⟨k, r, h1, rfl⟩ := h
 exact ⟨k, r, h1, by cases n <;> simp [sgn]⟩
theorem NV.pos {w : World} {v : Value} {z : Int} {L : Nat} (h : NV w false v z L) : 0 ≤ z := by
 obtain ⟨k, r, h1, rfl⟩ := h
 simp [sgn]
theorem NV.neg {w : World} {v : Value} {z : Int} {L : Nat} (h : NV w true v z L) : z ≤ 0 := by
 obtain ⟨k, r, h1, rfl⟩ := h
 simp [sgn]
theorem Cel.oth6 {w : World} {g g' : Nat} {cs : List Value} {t : TypeId} (h : Cel w g cs t) (hne : g ≠ g') (x0 x1 x2 x3 x4 x5 : Value) : Cel ((((((w.setCell ⟨g', 0, none⟩ x0).setCell ⟨g', 1, none⟩ x1).setCell ⟨g', 2, none⟩ x2).setCell ⟨g', 3, none⟩ x3).setCell ⟨g', 4, none⟩ x4).setCell ⟨g', 5, none⟩ x5) g cs t :=
 (((((h.other hne 0 x0).other hne 1 x1).other hne 2 x2).other hne 3 x3).other hne 4 x4).other hne 5 x5
open Go.RowKit
theorem NV.bd {w : World} {n : Bool} {v : Value} {z : Int} {L K : Nat} (h : NV w n v z L) (hK : 8 * L ≤ K) : Bd z K := by
 obtain ⟨k, -, hk, rfl⟩ := h
 rw [B64_pow] at hk
 show (sgn n k).natAbs < _
 rw [natAbs_sgn]
 exact Nat.lt_of_lt_of_le hk (Nat.pow_le_pow_right (by omega) hK)
theorem rds_two {w : World} {g : Nat} {t : TypeId} {Z : Nat → Int} (h : Cells w g t 2 (fst' Z 2)) : RdS w (.slice (some ⟨g, 0, none⟩) 2 2) [sfZ (Z 0), sfZ (Z 1)] := by
 refine ⟨_, 2, rfl, Nat.le_refl _, fun j hj => ⟨g, 0, rfl, ?_⟩⟩
 have hj' : j < 2 := hj
 rw [Nat.zero_add, h.cell hj']
 match j, hj' with
 | 0, _ => rfl
 | 1, _ => rfl
def tw2 {α : Type} (x y : α) (j : Nat) : α := if j = 0 then x else y
theorem rdn_two {w : World} {B : Nat} {t : TypeId} {m1 m2 : Bool} {a1 a2 : Option Addr} {l1 c1 l2 c2 : Nat} (h : Cel w B [.bool m1, .slice a1 l1 c1, .bool m2, .slice a2 l2 c2] t) : RdN w (some ⟨B, 0, none⟩) 2 (tw2 m1 m2) (fun j => .slice (tw2 a1 a2 j) (tw2 l1 l2 j) (tw2 c1 c2 j)) := by
 intro j hj
 refine ⟨B, 0, rfl, ?_⟩
 match j, hj with
 | 0, _ => exact ⟨h.cell 0, h.cell 1⟩
 | 1, _ => exact ⟨h.cell 2, h.cell 3⟩
theorem nover2 (m0 m1 m2 : Bool) (v0 : Value) (a1 a2 : Option Addr) (l1 c1 l2 c2 : Nat) (z d1 d2 : Int) (L : Nat) (B : Nat) (w : World) (hT : Tab w) (hL : L ≤ 400) (p1 : 0 < d1) (p2 : 0 < d2)
  (n0 : NV w m0 v0 z L) (n1 : NV w m1 (.slice a1 l1 c1) d1 L) (n2 : NV w m2 (.slice a2 l2 c2) d2 L) (h : Cel w B [.bool m1, .slice a1 l1 c1, .bool m2, .slice a2 l2 c2] 72) :
  Calls Tryz.prog 78 #[.agg #[.bool m0, v0], .slice (some ⟨B, 0, none⟩) 2 2] w (Re w (.agg #[.bool (nfZ (mkRat z (d1.natAbs * d2.natAbs)).num), .string (sfZ (mkRat z (d1.natAbs * d2.natAbs)).num), .string (strOf (mkRat z (d1.natAbs * d2.natAbs)).den)])) := by
 refine over_walk m0 v0 _ 2 2 (tw2 m1 m2) (tw2 a1 a2) (tw2 l1 l2) (tw2 c1 c2) z (tw2 d1 d2) _ _ _ w (by omega) n0.slice (rdn_two h) (fun k w1 hk b => ?_) (fun w1 b => nint_any _ _ z L w1 (by omega) (n0.below b)) (fun g w1 b hc => ?_)
 ·match k, hk with
  | 0, _ => exact nint_any _ _ d1 L w1 (by omega) (n1.below b)
  | 1, _ => exact nint_any _ _ d2 L w1 (by omega) (n2.below b)
 ·have b0 := n0.bd (K := 4000) (by omega)
  have b1 := n1.bd (K := 4000) (by omega)
  have b2 := n2.bd (K := 4000) (by omega)
  have o1 : OkS (sfZ d1) ∧ 0 < natOf (sfZ d1) ∧ (sfZ d1).size ≤ 8000 := ⟨okS_sfZ d1, by rw [natOf_sfZ]; omega, Nat.le_trans b1.size (by omega)⟩
  have o2 : OkS (sfZ d2) ∧ 0 < natOf (sfZ d2) ∧ (sfZ d2).size ≤ 8000 := ⟨okS_sfZ d2, by rw [natOf_sfZ]; omega, Nat.le_trans b2.size (by omega)⟩
  have hm := b1.mul b2
  have := over_any z (.slice (some ⟨g, 0, none⟩) 2 2) [sfZ d1, sfZ d2] w1 (hT.below b) (rds_two hc) (by simp) (fun x hx => by rcases List.mem_cons.1 hx with rfl | hx; exact o1; rcases List.mem_cons.1 hx with rfl | hx; exact o2; cases hx) (K := 4000 + 4000) (by omega) (b0.mono (by omega)) (by
   show natOf (sfZ d1) * (natOf (sfZ d2) * 1) < _
   rw [Nat.mul_one, natOf_sfZ, natOf_sfZ, ← Int.natAbs_mul]
   exact hm)
  rw [show Dt.nprod ([sfZ d1, sfZ d2].map natOf) = d1.natAbs * d2.natAbs by show natOf (sfZ d1) * (natOf (sfZ d2) * 1) = _; rw [Nat.mul_one, natOf_sfZ, natOf_sfZ]] at this
  exact this
open Go.RowKit
theorem sof_walk (n0 n1 n2 n3 : Bool) (s0 d0 s1 d1 s2 d2 s3 d3 : ByteArray) (x y : Rat) (w : World)
  (H1 : Hid (∀ w1, Calls Tryz.prog 109 #[.agg #[.bool n2, .string s2, .string d2], .agg #[.bool n0, .string s0, .string d0]] w1 fun e w' => ∃ m a l c a' l' c' X U, e = .returned (.tuple #[.agg #[.bool m, .slice a l c], .agg #[.bool false, .slice a' l' c']]) ∧ NV w' m (.slice a l c) X 27 ∧ NV w' false (.slice a' l' c') U 26 ∧ 0 < U ∧ (X : Rat) = (U : Rat) * x ∧ Below w1.heap.size w1 w'))
  (H2 : Hid (∀ w1, Calls Tryz.prog 109 #[.agg #[.bool n3, .string s3, .string d3], .agg #[.bool n1, .string s1, .string d1]] w1 fun e w' => ∃ m a l c a' l' c' X U, e = .returned (.tuple #[.agg #[.bool m, .slice a l c], .agg #[.bool false, .slice a' l' c']]) ∧ NV w' m (.slice a l c) X 27 ∧ NV w' false (.slice a' l' c') U 26 ∧ 0 < U ∧ (X : Rat) = (U : Rat) * y ∧ Below w1.heap.size w1 w')) :
  Calls Tryz.prog 70 #[.agg #[.bool n0, .string s0, .string d0, .bool n1, .string s1, .string d1], .agg #[.bool n2, .string s2, .string d2, .bool n3, .string s3, .string d3]] w fun e w' => ∃ m0 a0 l0 c0 m1 a1 l1 c1 a2 l2 c2 X Y U, e = .returned (.agg #[.bool m0, .slice a0 l0 c0, .bool m1, .slice a1 l1 c1, .bool false, .slice a2 l2 c2]) ∧ NV w' m0 (.slice a0 l0 c0) X 53 ∧ NV w' m1 (.slice a1 l1 c1) Y 53 ∧ NV w' false (.slice a2 l2 c2) U 52 ∧ Gm.Way X Y U x y ∧ Below w.heap.size w w' := by
 go_enter Tryz.func70, Tryz.ntmps70
 go_wp2_with fail
 obtain ⟨w0, hw, ka, kb, kr, bb⟩ := mk3 w [.bool n0, .string s0, .string d0, .bool n1, .string s1, .string d1] [.bool n2, .string s2, .string d2, .bool n3, .string s3, .string d3] [.bool false, .slice none 0 0, .bool false, .slice none 0 0, .bool false, .slice none 0 0] 28 28 74
 rw [← hw]
 clear hw
 have tr := kr.lt
 go_fit (H1.out _)
 rintro e w1 ⟨m1, a1, l1, c1, a2, l2, c2, X, U, rfl, nv1, nv2, hU, hX, b1⟩
 replace ka := ka.below b1
 replace kb := kb.below b1
 replace kr := kr.below b1
 replace bb := Below.after bb b1
 have sq0 := b1.size
 clear b1
 replace hX := shut hX
 replace hU := shut hU
 have ca3 := cel6_3 ((ka.alloc (.cells #[.bool m1, .slice a1 l1 c1] 72)).alloc (.cells #[.bool false, .slice a2 l2 c2] 72))
 have ca4 := cel6_4 ((ka.alloc (.cells #[.bool m1, .slice a1 l1 c1] 72)).alloc (.cells #[.bool false, .slice a2 l2 c2] 72))
 have ca5 := cel6_5 ((ka.alloc (.cells #[.bool m1, .slice a1 l1 c1] 72)).alloc (.cells #[.bool false, .slice a2 l2 c2] 72))
 have cb3 := cel6_3 ((kb.alloc (.cells #[.bool m1, .slice a1 l1 c1] 72)).alloc (.cells #[.bool false, .slice a2 l2 c2] 72))
 have cb4 := cel6_4 ((kb.alloc (.cells #[.bool m1, .slice a1 l1 c1] 72)).alloc (.cells #[.bool false, .slice a2 l2 c2] 72))
 have cb5 := cel6_5 ((kb.alloc (.cells #[.bool m1, .slice a1 l1 c1] 72)).alloc (.cells #[.bool false, .slice a2 l2 c2] 72))
 go_wp2_with fail
 obtain ⟨w2, hw, kx, kv, b1⟩ := mk2 w1 [.bool m1, .slice a1 l1 c1] [.bool false, .slice a2 l2 c2] 72 72
 rw [← hw]
 clear hw ca3 ca4 ca5 cb3 cb4 cb5
 replace ka := ka.below b1
 replace kb := kb.below b1
 replace kr := kr.below b1
 replace nv1 := nv1.below b1
 replace nv2 := nv2.below b1
 replace bb := Below.after bb b1
 have sq1 := b1.size
 clear b1
 have tx := kx.lt
 have tv := kv.lt
 go_fit (H2.out _)
 rintro e w3 ⟨m3, a3, l3, c3, a4, l4, c4, Y, V, rfl, nv3, nv4, hV, hY, b1⟩
 replace kr := kr.below b1
 replace kx := kx.below b1
 replace kv := kv.below b1
 replace nv1 := nv1.below b1
 replace nv2 := nv2.below b1
 replace bb := Below.after bb b1
 have sq2 := b1.size
 clear b1
 replace hY := shut hY
 replace hV := shut hV
 obtain ⟨cv0, cv1⟩ := xk2 ((kv.alloc (.cells #[.bool m3, .slice a3 l3 c3] 72)).alloc (.cells #[.bool false, .slice a4 l4 c4] 72))
 go_wp2_with fail
 obtain ⟨w4, hw, ky, ku, b1⟩ := mk2 w3 [.bool m3, .slice a3 l3 c3] [.bool false, .slice a4 l4 c4] 72 72
 rw [← hw]
 clear hw cv0 cv1
 replace kr := kr.below b1
 replace kx := kx.below b1
 replace kv := kv.below b1
 replace nv1 := nv1.below b1
 replace nv2 := nv2.below b1
 replace nv3 := nv3.below b1
 replace nv4 := nv4.below b1
 replace bb := Below.after bb b1
 have sq3 := b1.size
 clear b1
 have ty := ky.lt
 have tu := ku.lt
 go_fit (nsame_nv _ _ U V 26 _ (by omega) nv2 nv4)
 rintro e w5 ⟨rfl, b1⟩
 replace kr := kr.below b1
 replace kx := kx.below b1
 replace ky := ky.below b1
 replace kv := kv.below b1
 replace ku := ku.below b1
 replace nv1 := nv1.below b1
 replace nv2 := nv2.below b1
 replace nv3 := nv3.below b1
 replace nv4 := nv4.below b1
 replace bb := Below.after bb b1
 have sq4 := b1.size
 clear b1
 by_cases hs : U = V
 ·have hd := decide_eq_true hs
  rw [hd]
  clear hd
  obtain ⟨cx0, cx1⟩ := xk2 kx
  obtain ⟨cy0, cy1⟩ := xk2 ky
  obtain ⟨cv0, cv1⟩ := xk2 kv
  have e0 := cel6_0 kr
  have f0 := Cel.frozen kr 0
  have e1 := cel6_1 kr
  have f1 := Cel.frozen kr 1
  have e2 := cel6_2 kr
  have f2 := Cel.frozen kr 2
  have e3 := cel6_3 kr
  have f3 := Cel.frozen kr 3
  have e4 := cel6_4 kr
  have f4 := Cel.frozen kr 4
  have e5 := cel6_5 kr
  have f5 := Cel.frozen kr 5
  replace nv1 := shut nv1
  replace nv2 := shut nv2
  replace nv3 := shut nv3
  go_wp2
  exact post_s (p := 4) (by kernel_rfl) rfl rfl ((((((kr.set 0 _).set 1 _).set 2 _).set 3 _).set 4 _).set 5 _) ⟨_, _, _, _, _, _, _, _, _, _, _, _, _, _, rfl, (nv1.out.mono (by omega)).set6 kr _ _ _ _ _ _, (nv3.out.mono (by omega)).set6 kr _ _ _ _ _ _, (nv2.out.mono (by omega)).set6 kr _ _ _ _ _ _, ⟨hU.out, hX.out, by rw [hs]; exact hY.out⟩, bset (bset (bset (bset (bset (bset bb (by omega) 0 _) (by omega) 1 _) (by omega) 2 _) (by omega) 3 _) (by omega) 4 _) (by omega) 5 _⟩
 ·have hd := decide_eq_false hs
  rw [hd]
  clear hd
  go_wp2_with fail
  have mkS : Hid (∀ w', Cel w' (w1.heap.size) [.bool m1, .slice a1 l1 c1] 72 → Cel w' (w1.heap.size + 1) [.bool false, .slice a2 l2 c2] 72 → Cel w' (w3.heap.size) [.bool m3, .slice a3 l3 c3] 72 → Cel w' (w3.heap.size + 1) [.bool false, .slice a4 l4 c4] 72 → (xc2 w' w1.heap.size (.bool m1) (.slice a1 l1 c1) ∧ xc2 w' (w1.heap.size + 1) (.bool false) (.slice a2 l2 c2) ∧ xc2 w' w3.heap.size (.bool m3) (.slice a3 l3 c3) ∧ xc2 w' (w3.heap.size + 1) (.bool false) (.slice a4 l4 c4))) := fun w' hx hv hy hu => ⟨xk2 hx, xk2 hv, xk2 hy, xk2 hu⟩
  have qxr : w1.heap.size ≠ w.heap.size + 1 + 1 := by omega
  have qvr : w1.heap.size + 1 ≠ w.heap.size + 1 + 1 := by omega
  have qyr : w3.heap.size ≠ w.heap.size + 1 + 1 := by omega
  have qur : w3.heap.size + 1 ≠ w.heap.size + 1 + 1 := by omega
  go_region_held3 (fun w' => xc2 w' w1.heap.size (.bool m1) (.slice a1 l1 c1) ∧ xc2 w' (w1.heap.size + 1) (.bool false) (.slice a2 l2 c2) ∧ xc2 w' w3.heap.size (.bool m3) (.slice a3 l3 c3) ∧ xc2 w' (w3.heap.size + 1) (.bool false) (.slice a4 l4 c4)) (first | with_reducible exact mkS.out _ kx kv ky ku | with_reducible exact mkS.out _ (Cel.other (Cel.other (Cel.other (Cel.other (Cel.other (Cel.other kx qxr 0 _) qxr 1 _) qxr 2 _) qxr 3 _) qxr 4 _) qxr 5 _) (Cel.other (Cel.other (Cel.other (Cel.other (Cel.other (Cel.other kv qvr 0 _) qvr 1 _) qvr 2 _) qvr 3 _) qvr 4 _) qvr 5 _) (Cel.other (Cel.other (Cel.other (Cel.other (Cel.other (Cel.other ky qyr 0 _) qyr 1 _) qyr 2 _) qyr 3 _) qyr 4 _) qyr 5 _) (Cel.other (Cel.other (Cel.other (Cel.other (Cel.other (Cel.other ku qur 0 _) qur 1 _) qur 2 _) qur 3 _) qur 4 _) qur 5 _) | exact mkS.out _ kx kv ky ku) (first | (go_at_call 74; go_fit (ntimes_any _ _ _ _ X V 27 26 _ (by omega) (by omega) ?_ ?_); (first | exact nv1 | exact nv1.drew); (first | exact nv4 | exact nv4.drew); rintro e wn ⟨m5, v5, rfl, nv5, -, bn⟩; obtain ⟨a5, l5, c5, rfl⟩ := nv5.slice; replace kr := kr.below (un bn); replace kx := kx.below (un bn); replace ky := ky.below (un bn); replace kv := kv.below (un bn); replace ku := ku.below (un bn); (try replace nv1 := nv1.below (un bn)); (try replace nv2 := nv2.below (un bn)); (try replace nv3 := nv3.below (un bn)); (try replace nv4 := nv4.below (un bn)); (try replace nv6 := nv6.below (un bn)); replace bb := Below.after bb (un bn)) | (go_at_call 74; go_fit (ntimes_any _ _ _ _ Y U 27 26 _ (by omega) (by omega) ?_ ?_); (first | exact nv3 | exact nv3.drew); (first | exact nv2 | exact nv2.drew); rintro e wn ⟨m6, v6, rfl, nv6, -, bn⟩; obtain ⟨a6, l6, c6, rfl⟩ := nv6.slice; replace kr := kr.below (un bn); replace kx := kx.below (un bn); replace ky := ky.below (un bn); replace kv := kv.below (un bn); replace ku := ku.below (un bn); (try replace nv1 := nv1.below (un bn)); (try replace nv2 := nv2.below (un bn)); (try replace nv3 := nv3.below (un bn)); (try replace nv4 := nv4.below (un bn)); (try replace nv5 := nv5.below (un bn)); replace bb := Below.after bb (un bn)) | (go_at_call 74; go_fit (ntimes_any _ _ _ _ U V 26 26 _ (by omega) (by omega) ?_ ?_); (first | exact nv2 | exact nv2.drew); (first | exact nv4 | exact nv4.drew); rintro e wn ⟨m7, v7, rfl, nv7, hm7, bn⟩; obtain ⟨a7, l7, c7, rfl⟩ := nv7.slice; replace kr := kr.below (un bn); replace kx := kx.below (un bn); replace ky := ky.below (un bn); replace kv := kv.below (un bn); replace ku := ku.below (un bn); (try replace nv1 := nv1.below (un bn)); (try replace nv2 := nv2.below (un bn)); (try replace nv3 := nv3.below (un bn)); (try replace nv4 := nv4.below (un bn)); (try replace nv5 := nv5.below (un bn)); (try replace nv6 := nv6.below (un bn)); replace bb := Below.after bb (un bn); have er0 := cel6_0 kr; have fr0 := Cel.frozen kr 0; have er1 := cel6_1 kr; have fr1 := Cel.frozen kr 1; have er2 := cel6_2 kr; have fr2 := Cel.frozen kr 2; have er3 := cel6_3 kr; have fr3 := Cel.frozen kr 3; have er4 := cel6_4 kr; have fr4 := Cel.frozen kr 4; have er5 := cel6_5 kr; have fr5 := Cel.frozen kr 5))
  obtain rfl := hm7 trivial trivial
  clear hm7
  replace nv5 := shut nv5
  replace nv6 := shut nv6
  replace nv7 := shut nv7
  go_wp2
  refine post_s (p := 4) (by kernel_rfl) rfl rfl ((((((kr.set 0 _).set 1 _).set 2 _).set 3 _).set 4 _).set 5 _) ⟨_, _, _, _, _, _, _, _, _, _, _, _, _, _, rfl, nv5.out.set6 kr _ _ _ _ _ _, nv6.out.set6 kr _ _ _ _ _ _, nv7.out.set6 kr _ _ _ _ _ _, ⟨Int.mul_pos hU.out hV.out, ?_, ?_⟩, bset (bset (bset (bset (bset (bset bb (by omega) 0 _) (by omega) 1 _) (by omega) 2 _) (by omega) 3 _) (by omega) 4 _) (by omega) 5 _⟩
  ·rw [Rat.intCast_mul, Rat.intCast_mul, hX.out]; grind
  ·rw [Rat.intCast_mul, Rat.intCast_mul, hY.out]; grind
open Go.RowKit
theorem sof_any (n0 n1 n2 n3 : Bool) (s0 d0 s1 d1 s2 d2 s3 d3 : ByteArray) (w : World) (o0 : OkQ n0 s0 d0) (o1 : OkQ n1 s1 d1) (o2 : OkQ n2 s2 d2) (o3 : OkQ n3 s3 d3) (z0 : s0.size ≤ 100 ∧ d0.size ≤ 100) (z1 : s1.size ≤ 100 ∧ d1.size ≤ 100) (z2 : s2.size ≤ 100 ∧ d2.size ≤ 100) (z3 : s3.size ≤ 100 ∧ d3.size ≤ 100) :
  Calls Tryz.prog 70 #[.agg #[.bool n0, .string s0, .string d0, .bool n1, .string s1, .string d1], .agg #[.bool n2, .string s2, .string d2, .bool n3, .string s3, .string d3]] w fun e w' => ∃ m0 a0 l0 c0 m1 a1 l1 c1 a2 l2 c2 X Y U, e = .returned (.agg #[.bool m0, .slice a0 l0 c0, .bool m1, .slice a1 l1 c1, .bool false, .slice a2 l2 c2]) ∧ NV w' m0 (.slice a0 l0 c0) X 53 ∧ NV w' m1 (.slice a1 l1 c1) Y 53 ∧ NV w' false (.slice a2 l2 c2) U 52 ∧ Gm.Way X Y U (qOf n2 s2 d2 - qOf n0 s0 d0) (qOf n3 s3 d3 - qOf n1 s1 d1) ∧ Below w.heap.size w w' :=
 sof_walk n0 n1 n2 n3 s0 d0 s1 d1 s2 d2 s3 d3 _ _ w (fun w1 => less_any n2 n0 s2 d2 s0 d0 w1 o2 o0 z2 z0) (fun w1 => less_any n3 n1 s3 d3 s1 d1 w1 o3 o1 z3 z1)
theorem scross_any (m0 m1 m2 m3 m4 m5 : Bool) (a0 a1 a2 a3 a4 a5 : Option Addr) (l0 c0 l1 c1 l2 c2 l3 c3 l4 c4 l5 c5 : Nat) (X Y X' Y' : Int) (L : Nat) (w : World) (hL : L ≤ 200) (nv0 : NV w m0 (.slice a0 l0 c0) X L) (nv1 : NV w m1 (.slice a1 l1 c1) Y L) (nv3 : NV w m3 (.slice a3 l3 c3) X' L) (nv4 : NV w m4 (.slice a4 l4 c4) Y' L) :
  Calls Tryz.prog 77 #[.agg #[.bool m0, .slice a0 l0 c0, .bool m1, .slice a1 l1 c1, .bool m2, .slice a2 l2 c2], .agg #[.bool m3, .slice a3 l3 c3, .bool m4, .slice a4 l4 c4, .bool m5, .slice a5 l5 c5]] w fun e w' => ∃ m u, e = .returned (.agg #[.bool m, u]) ∧ NV w' m u (X * Y' - Y * X') (L + L + 1) ∧ Below w.heap.size w w' := by
 go_enter Tryz.func77, Tryz.ntmps77
 go_wp2_with fail
 obtain ⟨w0, hw, ka, kb, kr, bb⟩ := mk3 w [.bool m0, .slice a0 l0 c0, .bool m1, .slice a1 l1 c1, .bool m2, .slice a2 l2 c2] [.bool m3, .slice a3 l3 c3, .bool m4, .slice a4 l4 c4, .bool m5, .slice a5 l5 c5] [.bool false, .slice none 0 0] 74 74 72
 rw [← hw]
 clear hw
 have tr := kr.lt
 replace nv0 := nv0.below bb
 replace nv1 := nv1.below bb
 replace nv3 := nv3.below bb
 replace nv4 := nv4.below bb
 have mkS : Hid (∀ w', Cel w' (w.heap.size) [.bool m0, .slice a0 l0 c0, .bool m1, .slice a1 l1 c1, .bool m2, .slice a2 l2 c2] 74 → Cel w' (w.heap.size + 1) [.bool m3, .slice a3 l3 c3, .bool m4, .slice a4 l4 c4, .bool m5, .slice a5 l5 c5] 74 → (xc6 w' w.heap.size (.bool m0) (.slice a0 l0 c0) (.bool m1) (.slice a1 l1 c1) (.bool m2) (.slice a2 l2 c2) ∧ xc6 w' (w.heap.size + 1) (.bool m3) (.slice a3 l3 c3) (.bool m4) (.slice a4 l4 c4) (.bool m5) (.slice a5 l5 c5))) := fun w' ha hb => ⟨xk6 ha, xk6 hb⟩
 have qar : w.heap.size ≠ w.heap.size + 1 + 1 := by omega
 have qbr : w.heap.size + 1 ≠ w.heap.size + 1 + 1 := by omega
 go_region_held3 (fun w' => xc6 w' w.heap.size (.bool m0) (.slice a0 l0 c0) (.bool m1) (.slice a1 l1 c1) (.bool m2) (.slice a2 l2 c2) ∧ xc6 w' (w.heap.size + 1) (.bool m3) (.slice a3 l3 c3) (.bool m4) (.slice a4 l4 c4) (.bool m5) (.slice a5 l5 c5)) (first | with_reducible exact mkS.out _ ka kb | with_reducible exact mkS.out _ (Cel.other (Cel.other ka qar 0 _) qar 1 _) (Cel.other (Cel.other kb qbr 0 _) qbr 1 _) | exact mkS.out _ ka kb) (first | (go_at_call 74; go_fit (ntimes_any _ _ _ _ X Y' L L _ (by omega) (by omega) ?_ ?_); (first | exact nv0 | exact nv0.drew); (first | exact nv4 | exact nv4.drew); rintro e wn ⟨m6, v6, rfl, nv6, -, bn⟩; obtain ⟨a6, l6, c6, rfl⟩ := nv6.slice; replace ka := ka.below (un bn); replace kb := kb.below (un bn); replace kr := kr.below (un bn); (try replace nv0 := nv0.below (un bn)); (try replace nv1 := nv1.below (un bn)); (try replace nv3 := nv3.below (un bn)); (try replace nv4 := nv4.below (un bn)); (try replace nv7 := nv7.below (un bn)); replace bb := Below.after bb (un bn)) | (go_at_call 74; go_fit (ntimes_any _ _ _ _ Y X' L L _ (by omega) (by omega) ?_ ?_); (first | exact nv1 | exact nv1.drew); (first | exact nv3 | exact nv3.drew); rintro e wn ⟨m7, v7, rfl, nv7, -, bn⟩; obtain ⟨a7, l7, c7, rfl⟩ := nv7.slice; replace ka := ka.below (un bn); replace kb := kb.below (un bn); replace kr := kr.below (un bn); (try replace nv0 := nv0.below (un bn)); (try replace nv1 := nv1.below (un bn)); (try replace nv3 := nv3.below (un bn)); (try replace nv4 := nv4.below (un bn)); (try replace nv6 := nv6.below (un bn)); replace bb := Below.after bb (un bn)) | (go_at_call 75; go_fit (nminus_any _ _ _ _ (X * Y') (Y * X') (L + L) _ (by omega) ?_ ?_); (first | exact nv6 | exact nv6.drew); (first | exact nv7 | exact nv7.drew); rintro e wn ⟨m8, v8, rfl, nv8, bn⟩; obtain ⟨a8, l8, c8, rfl⟩ := nv8.slice; replace ka := ka.below (un bn); replace kb := kb.below (un bn); replace kr := kr.below (un bn); (try replace nv0 := nv0.below (un bn)); (try replace nv1 := nv1.below (un bn)); (try replace nv3 := nv3.below (un bn)); (try replace nv4 := nv4.below (un bn)); (try replace nv6 := nv6.below (un bn)); (try replace nv7 := nv7.below (un bn)); replace bb := Below.after bb (un bn); have er0 := cel2_0 kr; have fr0 := Cel.frozen kr 0; have er1 := cel2_1 kr; have fr1 := Cel.frozen kr 1))
 replace nv8 := shut nv8
 go_wp2
 exact post_n (p := 4) (by kernel_rfl) rfl rfl ((kr.set 0 _).set 1 _) ⟨_, _, rfl, nv8.out.set2 kr _ _, bset (bset bb (by omega) 0 _) (by omega) 1 _⟩
theorem sdot_any (m0 m1 m2 m3 m4 m5 : Bool) (a0 a1 a2 a3 a4 a5 : Option Addr) (l0 c0 l1 c1 l2 c2 l3 c3 l4 c4 l5 c5 : Nat) (X Y X' Y' : Int) (L : Nat) (w : World) (hL : L ≤ 200) (nv0 : NV w m0 (.slice a0 l0 c0) X L) (nv1 : NV w m1 (.slice a1 l1 c1) Y L) (nv3 : NV w m3 (.slice a3 l3 c3) X' L) (nv4 : NV w m4 (.slice a4 l4 c4) Y' L) :
  Calls Tryz.prog 71 #[.agg #[.bool m0, .slice a0 l0 c0, .bool m1, .slice a1 l1 c1, .bool m2, .slice a2 l2 c2], .agg #[.bool m3, .slice a3 l3 c3, .bool m4, .slice a4 l4 c4, .bool m5, .slice a5 l5 c5]] w fun e w' => ∃ m u, e = .returned (.agg #[.bool m, u]) ∧ NV w' m u (X * X' + Y * Y') (L + L + 1) ∧ Below w.heap.size w w' := by
 go_enter Tryz.func71, Tryz.ntmps71
 go_wp2_with fail
 obtain ⟨w0, hw, ka, kb, kr, bb⟩ := mk3 w [.bool m0, .slice a0 l0 c0, .bool m1, .slice a1 l1 c1, .bool m2, .slice a2 l2 c2] [.bool m3, .slice a3 l3 c3, .bool m4, .slice a4 l4 c4, .bool m5, .slice a5 l5 c5] [.bool false, .slice none 0 0] 74 74 72
 rw [← hw]
 clear hw
 have tr := kr.lt
 replace nv0 := nv0.below bb
 replace nv1 := nv1.below bb
 replace nv3 := nv3.below bb
 replace nv4 := nv4.below bb
 have mkS : Hid (∀ w', Cel w' (w.heap.size) [.bool m0, .slice a0 l0 c0, .bool m1, .slice a1 l1 c1, .bool m2, .slice a2 l2 c2] 74 → Cel w' (w.heap.size + 1) [.bool m3, .slice a3 l3 c3, .bool m4, .slice a4 l4 c4, .bool m5, .slice a5 l5 c5] 74 → (xc6 w' w.heap.size (.bool m0) (.slice a0 l0 c0) (.bool m1) (.slice a1 l1 c1) (.bool m2) (.slice a2 l2 c2) ∧ xc6 w' (w.heap.size + 1) (.bool m3) (.slice a3 l3 c3) (.bool m4) (.slice a4 l4 c4) (.bool m5) (.slice a5 l5 c5))) := fun w' ha hb => ⟨xk6 ha, xk6 hb⟩
 have qar : w.heap.size ≠ w.heap.size + 1 + 1 := by omega
 have qbr : w.heap.size + 1 ≠ w.heap.size + 1 + 1 := by omega
 go_region_held3 (fun w' => xc6 w' w.heap.size (.bool m0) (.slice a0 l0 c0) (.bool m1) (.slice a1 l1 c1) (.bool m2) (.slice a2 l2 c2) ∧ xc6 w' (w.heap.size + 1) (.bool m3) (.slice a3 l3 c3) (.bool m4) (.slice a4 l4 c4) (.bool m5) (.slice a5 l5 c5)) (first | with_reducible exact mkS.out _ ka kb | with_reducible exact mkS.out _ (Cel.other (Cel.other ka qar 0 _) qar 1 _) (Cel.other (Cel.other kb qbr 0 _) qbr 1 _) | exact mkS.out _ ka kb) (first | (go_at_call 74; go_fit (ntimes_any _ _ _ _ X X' L L _ (by omega) (by omega) ?_ ?_); (first | exact nv0 | exact nv0.drew); (first | exact nv3 | exact nv3.drew); rintro e wn ⟨m6, v6, rfl, nv6, -, bn⟩; obtain ⟨a6, l6, c6, rfl⟩ := nv6.slice; replace ka := ka.below (un bn); replace kb := kb.below (un bn); replace kr := kr.below (un bn); (try replace nv0 := nv0.below (un bn)); (try replace nv1 := nv1.below (un bn)); (try replace nv3 := nv3.below (un bn)); (try replace nv4 := nv4.below (un bn)); (try replace nv7 := nv7.below (un bn)); replace bb := Below.after bb (un bn)) | (go_at_call 74; go_fit (ntimes_any _ _ _ _ Y Y' L L _ (by omega) (by omega) ?_ ?_); (first | exact nv1 | exact nv1.drew); (first | exact nv4 | exact nv4.drew); rintro e wn ⟨m7, v7, rfl, nv7, -, bn⟩; obtain ⟨a7, l7, c7, rfl⟩ := nv7.slice; replace ka := ka.below (un bn); replace kb := kb.below (un bn); replace kr := kr.below (un bn); (try replace nv0 := nv0.below (un bn)); (try replace nv1 := nv1.below (un bn)); (try replace nv3 := nv3.below (un bn)); (try replace nv4 := nv4.below (un bn)); (try replace nv6 := nv6.below (un bn)); replace bb := Below.after bb (un bn)) | (go_at_call 73; go_fit (nplus_any _ _ _ _ (X * X') (Y * Y') (L + L) _ (by omega) ?_ ?_); (first | exact nv6 | exact nv6.drew); (first | exact nv7 | exact nv7.drew); rintro e wn ⟨m8, v8, rfl, nv8, bn⟩; obtain ⟨a8, l8, c8, rfl⟩ := nv8.slice; replace ka := ka.below (un bn); replace kb := kb.below (un bn); replace kr := kr.below (un bn); (try replace nv0 := nv0.below (un bn)); (try replace nv1 := nv1.below (un bn)); (try replace nv3 := nv3.below (un bn)); (try replace nv4 := nv4.below (un bn)); (try replace nv6 := nv6.below (un bn)); (try replace nv7 := nv7.below (un bn)); replace bb := Below.after bb (un bn); have er0 := cel2_0 kr; have fr0 := Cel.frozen kr 0; have er1 := cel2_1 kr; have fr1 := Cel.frozen kr 1))
 replace nv8 := shut nv8
 go_wp2
 exact post_n (p := 4) (by kernel_rfl) rfl rfl ((kr.set 0 _).set 1 _) ⟨_, _, rfl, nv8.out.set2 kr _ _, bset (bset bb (by omega) 0 _) (by omega) 1 _⟩
theorem ssquare_any (m0 m1 m2 : Bool) (a0 a1 a2 : Option Addr) (l0 c0 l1 c1 l2 c2 : Nat) (X Y : Int) (L : Nat) (w : World) (hL : L ≤ 200) (nv0 : NV w m0 (.slice a0 l0 c0) X L) (nv1 : NV w m1 (.slice a1 l1 c1) Y L) :
  Calls Tryz.prog 76 #[.agg #[.bool m0, .slice a0 l0 c0, .bool m1, .slice a1 l1 c1, .bool m2, .slice a2 l2 c2]] w fun e w' => ∃ m u, e = .returned (.agg #[.bool m, u]) ∧ NV w' m u (X * X + Y * Y) (L + L + 1) ∧ Below w.heap.size w w' := by
 go_enter Tryz.func76, Tryz.ntmps76
 go_wp2_with fail
 obtain ⟨w0, hw, ka, kr, bb⟩ := mk2 w [.bool m0, .slice a0 l0 c0, .bool m1, .slice a1 l1 c1, .bool m2, .slice a2 l2 c2] [.bool false, .slice none 0 0] 74 72
 rw [← hw]
 clear hw
 have tr := kr.lt
 go_fit (sdot_any _ _ _ _ _ _ _ _ _ _ _ _ _ _ _ _ _ _ _ _ _ _ _ _ X Y X Y L _ hL (nv0.below bb) (nv1.below bb) (nv0.below bb) (nv1.below bb))
 rintro e w1 ⟨m8, v8, rfl, nv8, b1⟩
 obtain ⟨a8, l8, c8, rfl⟩ := nv8.slice
 replace kr := kr.below b1
 replace bb := Below.after bb b1
 clear b1
 obtain ⟨e0, e1⟩ := xk2 kr
 have f0 := Cel.frozen kr 0
 have f1 := Cel.frozen kr 1
 replace nv8 := shut nv8
 go_wp2
 exact post_n (p := 2) (by kernel_rfl) rfl rfl ((kr.set 0 _).set 1 _) ⟨_, _, rfl, nv8.out.set2 kr _ _, bset (bset bb (by omega) 0 _) (by omega) 1 _⟩
open Go.RowKit
theorem bytes_eq {a b : ByteArray} (h : a.toList = b.toList) : a = b := toList_inj (by rw [h]; exact BEq.rfl)
theorem run_peq (n0 n1 n2 n3 : Bool) (s0 d0 s1 d1 s2 d2 s3 d3 : ByteArray) (w : World) (hne : ¬ (n0 = n2 ∧ s0 = s2 ∧ d0 = d2 ∧ n1 = n3 ∧ s1 = s3 ∧ d1 = d3)) : (binOp .eql 28 (.agg #[.bool n0, .string s0, .string d0, .bool n1, .string s1, .string d1]) (.agg #[.bool n2, .string s2, .string d2, .bool n3, .string s3, .string d3])).run Tryz.prog w = .ok (.bool false) w := by
 go_simp
 intro a b c d e f
 exact hne ⟨a, bytes_eq b, bytes_eq c, d, bytes_eq e, bytes_eq f⟩
def SpV (w : World) (m0 : Bool) (a0 : Option Addr) (l0 c0 : Nat) (m1 : Bool) (a1 : Option Addr) (l1 c1 : Nat) (a2 : Option Addr) (l2 c2 : Nat) (X Y U : Int) (x y : Rat) : Prop := NV w m0 (.slice a0 l0 c0) X 53 ∧ NV w m1 (.slice a1 l1 c1) Y 53 ∧ NV w false (.slice a2 l2 c2) U 52 ∧ Gm.Way X Y U x y
theorem SpV.below {w w' : World} {m0 : Bool} {a0 : Option Addr} {l0 c0 : Nat} {m1 : Bool} {a1 : Option Addr} {l1 c1 : Nat} {a2 : Option Addr} {l2 c2 : Nat} {X Y U : Int} {x y : Rat} (h : SpV w m0 a0 l0 c0 m1 a1 l1 c1 a2 l2 c2 X Y U x y) (b : Below w.heap.size w w') : SpV w' m0 a0 l0 c0 m1 a1 l1 c1 a2 l2 c2 X Y U x y := ⟨h.1.below b, h.2.1.below b, h.2.2.1.below b, h.2.2.2⟩
theorem SpV.set6 {w : World} {n0 : Bool} {a0 : Option Addr} {l0 c0 : Nat} {n1 : Bool} {a1 : Option Addr} {l1 c1 : Nat} {a2 : Option Addr} {l2 c2 : Nat} {X Y U : Int} {rx ry : Rat} {m o p : Bool} {g : Nat} {a b d : Option Addr} {l c l3 c3 l4 c4 : Nat} {t : TypeId} (h : SpV w n0 a0 l0 c0 n1 a1 l1 c1 a2 l2 c2 X Y U rx ry) (hc : Cel w g [.bool m, .slice a l c, .bool o, .slice b l3 c3, .bool p, .slice d l4 c4] t) (x0 x1 x2 x3 x4 x5 : Value) : SpV ((((((w.setCell ⟨g, 0, none⟩ x0).setCell ⟨g, 1, none⟩ x1).setCell ⟨g, 2, none⟩ x2).setCell ⟨g, 3, none⟩ x3).setCell ⟨g, 4, none⟩ x4).setCell ⟨g, 5, none⟩ x5) n0 a0 l0 c0 n1 a1 l1 c1 a2 l2 c2 X Y U rx ry := ⟨h.1.set6 hc x0 x1 x2 x3 x4 x5, h.2.1.set6 hc x0 x1 x2 x3 x4 x5, h.2.2.1.set6 hc x0 x1 x2 x3 x4 x5, h.2.2.2⟩
theorem sharp_sign {X Y U X' Y' U' : Int} {x y x' y' : Rat} (h : Gm.Way X Y U x y) (h' : Gm.Way X' Y' U' x' y') : ((X * X' + Y * Y' + (X * X' + Y * Y')) * (X * X' + Y * Y' + (X * X' + Y * Y')) - (X * X + Y * Y) * (X' * X' + Y' * Y')).sign = Gm.sg (4 * ((x * x' + y * y') * (x * x' + y * y')) - (x * x + y * y) * (x' * x' + y' * y')) := by
 obtain ⟨hu, e1, e2⟩ := h
 obtain ⟨hv, e3, e4⟩ := h'
 refine Gm.sg_of (k := ((U : Rat) * U') * ((U : Rat) * U')) (Rat.mul_pos (Rat.mul_pos (Gm.upos hu) (Gm.upos hv)) (Rat.mul_pos (Gm.upos hu) (Gm.upos hv))) ?_
 simp only [Rat.intCast_sub, Rat.intCast_mul, Rat.intCast_add]
 rw [e1, e2, e3, e4]
 grind
theorem sharp_less {X Y U X' Y' U' : Int} {x y x' y' : Rat} (h : Gm.Way X Y U x y) (h' : Gm.Way X' Y' U' x' y') : (X * X + Y * Y) * (X' * X' + Y' * Y') < (X * X' + Y * Y' + (X * X' + Y * Y')) * (X * X' + Y * Y' + (X * X' + Y * Y')) ↔ 0 < Gm.sg (4 * ((x * x' + y * y') * (x * x' + y * y')) - (x * x + y * y) * (x' * x' + y' * y')) := by
 rw [← sharp_sign h h']
 generalize (X * X + Y * Y) * (X' * X' + Y' * Y') = p
 generalize (X * X' + Y * Y' + (X * X' + Y * Y')) * (X * X' + Y * Y' + (X * X' + Y * Y')) = q
 rw [show (0 < (q - p).sign) ↔ 0 < q - p from ⟨fun k => by rcases Int.lt_trichotomy (q - p) 0 with h | h | h; (rw [Int.sign_eq_neg_one_of_neg h] at k; omega); (rw [h] at k; exact absurd k (by decide)); exact h, fun k => by rw [Int.sign_eq_one_of_pos k]; decide⟩]
 omega
open Go.RowKit
theorem post_s1 {fn : Func} {p u : Tmp} {R : Ending → World → Prop} {a : Act} {w : World} {g : Nat} {x0 x1 x2 x3 x4 x5 v : Value} (h : fn.results = #[.cell p 74, .tmp u]) (hp : a.tmps.getD p undef = .pointer (some ⟨g, 0, none⟩)) (hu : a.tmps.getD u undef = v) (hd : a.defers = [])
  (hc : Cel w g [x0, x1, x2, x3, x4, x5] 74) (hR : R (.returned (.tuple #[.agg #[x0, x1, x2, x3, x4, x5], v])) w) : bodyPost Tryz.prog fn R .ret a w := by
 refine ⟨hd, .tuple #[.agg #[x0, x1, x2, x3, x4, x5], v], ?_, hR⟩
 have hp' : a.tmps[p]?.getD undef = .pointer (some ⟨g, 0, none⟩) := by simpa using hp
 have hu' : a.tmps[u]?.getD undef = v := by simpa using hu
 simp only [results, h]
 simp [Result.andThen, hp', hu', asAddr, load_s hc]
theorem nsize_any (n : Bool) (v : Value) (z : Int) (L : Nat) (w : World) (h : NV w n v z L) :
  Calls Tryz.prog 101 #[.agg #[.bool n, v]] w fun e w' => e = .returned (.agg #[.bool false, v]) ∧ NV w' false v z.natAbs L ∧ Below w.heap.size w w' := by
 have HA : Hid (∀ w1, Below w.heap.size w w1 → NV w1 false v z.natAbs L) := fun w1 b => by
  obtain ⟨k, r, hk, rfl⟩ := h.below b
  exact ⟨k, r, hk, by rw [natAbs_sgn]; rfl⟩
 obtain ⟨a, l, c, rfl⟩ := h.slice
 clear h
 go_enter Tryz.func101, Tryz.ntmps101
 go_wp2_with fail
 obtain ⟨w0, hw, k0, kr, bb⟩ := mk2 w [.bool n, .slice a l c] [.bool false, .slice a l c] 72 72
 rw [← hw]
 clear hw
 exact post_n (p := 2) (by kernel_rfl) rfl rfl kr ⟨rfl, HA.out _ bb, bb⟩
open Go.RowKit
theorem al1e {w w' : World} {c0 : List Value} {t0 : TypeId} (b : Below (w.alloc (.cells c0.toArray t0)).drew.heap.size (w.alloc (.cells c0.toArray t0)).drew w') : Cel w' w.heap.size c0 t0 ∧ Below w.heap.size w w' := by
 have b' : Below (w.alloc (.cells c0.toArray t0)).heap.size (w.alloc (.cells c0.toArray t0)) w' := ⟨b.os, b.tape, b.output, b.size, b.block⟩
 exact al1 b'
theorem far2_walk (n0 n1 n2 n3 : Bool) (s0 d0 s1 d1 s2 d2 s3 d3 : ByteArray) (x y : Rat) (w : World) (hT : Tab w)
  (H1 : Hid (∀ w1, Calls Tryz.prog 70 #[.agg #[.bool n0, .string s0, .string d0, .bool n1, .string s1, .string d1], .agg #[.bool n2, .string s2, .string d2, .bool n3, .string s3, .string d3]] w1 fun e w' => ∃ m0 a0 l0 c0 m1 a1 l1 c1 a2 l2 c2 X Y U, e = .returned (.agg #[.bool m0, .slice a0 l0 c0, .bool m1, .slice a1 l1 c1, .bool false, .slice a2 l2 c2]) ∧ SpV w' m0 a0 l0 c0 m1 a1 l1 c1 a2 l2 c2 X Y U x y ∧ Below w1.heap.size w1 w')) :
  Calls Tryz.prog 59 #[.agg #[.bool n0, .string s0, .string d0, .bool n1, .string s1, .string d1], .agg #[.bool n2, .string s2, .string d2, .bool n3, .string s3, .string d3]] w (Re w (.agg #[.bool (nfZ (x * x + y * y).num), .string (sfZ (x * x + y * y).num), .string (strOf (x * x + y * y).den)])) := by
 go_enter Tryz.func59, Tryz.ntmps59
 go_wp2_with fail
 obtain ⟨w0, hw, ka, kb, kr, bb⟩ := mk3 w [.bool n0, .string s0, .string d0, .bool n1, .string s1, .string d1] [.bool n2, .string s2, .string d2, .bool n3, .string s3, .string d3] [.bool false, .string { data := #[] }, .string { data := #[] }] 28 28 26
 rw [← hw]
 clear hw
 go_fit (H1.out _)
 rintro e w1 ⟨m1, a1, l1, c1, m2, a2, l2, c2, a3, l3, c3, X1, Y1, U1, rfl, sv1, b1⟩
 replace kr := kr.below b1
 replace bb := Below.after bb b1
 have tu := kr.lt
 clear b1 ka kb
 obtain ⟨nx, ny, nu, hw1⟩ := sv1
 go_wp2_with fail
 obtain ⟨w2, hw, ku, b1⟩ := mk1 w1 [.bool m1, .slice a1 l1 c1, .bool m2, .slice a2 l2 c2, .bool false, .slice a3 l3 c3] 74
 rw [← hw]
 clear hw
 replace kr := kr.below b1
 replace bb := Below.after bb b1
 replace nx := nx.below b1
 replace ny := ny.below b1
 replace nu := nu.below b1
 clear b1
 have HS : Hid (∀ w', Below w2.heap.size w2 w' → Calls Tryz.prog 76 #[.agg #[.bool m1, .slice a1 l1 c1, .bool m2, .slice a2 l2 c2, .bool false, .slice a3 l3 c3]] w' fun e w'' => ∃ m a l c, e = .returned (.agg #[.bool m, .slice a l c]) ∧ NV w'' m (.slice a l c) (X1 * X1 + Y1 * Y1) 107 ∧ Below w'.heap.size w' w'') := fun w' b => (ssquare_any _ _ _ _ _ _ _ _ _ _ _ _ X1 Y1 53 w' (by omega) (nx.below b) (ny.below b)).mono fun e w'' ⟨m, u, h1, h2, h3⟩ => by
  obtain ⟨a, l, c, rfl⟩ := h2.slice
  exact ⟨m, a, l, c, h1, h2, h3⟩
 have HO : Hid (∀ (B : Nat) (m : Bool) (v : Value) (w' : World), Below w2.heap.size w2 w' → NV w' m v (X1 * X1 + Y1 * Y1) 107 → Cel w' B [.bool false, .slice a3 l3 c3, .bool false, .slice a3 l3 c3] 72 → Calls Tryz.prog 78 #[.agg #[.bool m, v], .slice (some ⟨B, 0, none⟩) 2 2] w' fun e w'' => e = .returned (.agg #[.bool (nfZ (x * x + y * y).num), .string (sfZ (x * x + y * y).num), .string (strOf (x * x + y * y).den)]) ∧ Below w'.heap.size w' w'') := fun B m v w' b nz hB => by
  have := nover2 m false false v a3 a3 l3 c3 l3 c3 (X1 * X1 + Y1 * Y1) U1 U1 107 B w' (hT.below (Below.after bb b)) (by omega) hw1.1 hw1.1 nz ((nu.below b).mono (by omega)) ((nu.below b).mono (by omega)) hB
  rwa [Gm.far_eq hw1] at this
 clear nx ny nu hw1
 have mkS : Hid (∀ w', Cel w' w1.heap.size [.bool m1, .slice a1 l1 c1, .bool m2, .slice a2 l2 c2, .bool false, .slice a3 l3 c3] 74 → (xc6 w' w1.heap.size (.bool m1) (.slice a1 l1 c1) (.bool m2) (.slice a2 l2 c2) (.bool false) (.slice a3 l3 c3))) := fun w' hu => (xk6 hu)
 have qu : w1.heap.size ≠ w.heap.size + 1 + 1 := by omega
 have b9 := Below.refl w2.heap.size w2
 go_region_held3 (fun w' => xc6 w' w1.heap.size (.bool m1) (.slice a1 l1 c1) (.bool m2) (.slice a2 l2 c2) (.bool false) (.slice a3 l3 c3)) (first | with_reducible exact mkS.out _ ku | with_reducible exact mkS.out _ ku.drew | with_reducible exact mkS.out _ (ku.alloc _) | with_reducible exact mkS.out _ (ku.drew.alloc _) | with_reducible exact mkS.out _ (ku.alloc _).drew | with_reducible exact mkS.out _ (Cel.other (Cel.other (Cel.other ku qu 0 _) qu 1 _) qu 2 _) | exact mkS.out _ ku) (first | (go_at_call 76; go_fit (HS.out _ ?_); (first | exact b9 | exact b9.drew | exact ba b9.drew _ | exact (ba b9 _).drew); rintro e wn ⟨m7, a7, l7, c7, rfl, nv7, bn⟩; (first | (have bq : Below w2.heap.size w2 wn := (un bn)) | (obtain ⟨kB, bq⟩ := al1e bn)); replace b9 := bq; replace ku := ku.below bq; replace kr := kr.below bq; replace bb := Below.after bb bq) | (go_at_call 78; go_fit (HO.out _ _ _ _ ?_ ?_ ?_); (first | exact b9 | exact ba b9 _); (first | exact nv7 | exact nv7.below (bel_al _ _)); (first | exact kB | exact Cel.new _ _ _); rintro e wm ⟨rfl, bn⟩; (first | (have bq : Below wn.heap.size wn wm := bn; replace ku := ku.below bq; replace kr := kr.below bq; replace bb := Below.after bb bq) | (obtain ⟨-, bq⟩ := al1 bn; replace ku := ku.below bq; replace kr := kr.below bq; replace bb := Below.after bb bq)); have e0 := cel3_0 kr; have f0 := Cel.frozen kr 0; have e1 := cel3_1 kr; have f1 := Cel.frozen kr 1; have e2 := cel3_2 kr; have f2 := Cel.frozen kr 2))
 all_goals go_wp2
 all_goals exact post_q (p := 4) (by kernel_rfl) rfl rfl (((kr.set 0 _).set 1 _).set 2 _) ⟨rfl, bset (bset (bset bb (by omega) 0 _) (by omega) 1 _) (by omega) 2 _⟩
open Go.RowKit
theorem make_way {X U : Int} {x : Rat} (w : World) (hT : Tab w) (bX : Bd X 8000) (bU : Bd U 8000) (hU : 0 < U) (h : (X : Rat) = (U : Rat) * x) :
  Calls Tryz.prog 61 #[.agg #[.bool (nfZ X), .string (sfZ X)], .agg #[.bool (nfZ U), .string (sfZ U)]] w (Re w (.tuple #[.agg #[.bool (nfZ x.num), .string (sfZ x.num), .string (strOf x.den)], .int .i64 0])) := by
 have := make_ok (nfZ X) (nfZ U) (sfZ X) (sfZ U) w hT (okZ_nz X) (okZ_nz U) (K := 8000) (by omega) (bd_sf bX) (bd_sf bU) (by rw [natOf_sfZ]; omega)
 rw [zOf_nz, zOf_nz] at this
 have e : Rat.divInt X U = x := by
  rw [Rat.divInt_eq_div, h]
  have hp := Gm.upos hU
  rw [Rat.div_def]
  have := Rat.mul_inv_cancel (U : Rat) (by grind)
  grind
 rw [e] at this
 exact this
theorem cCen_flat (n0 n1 n2 n3 n4 n5 : Bool) (s0 d0 s1 d1 s2 d2 s3 d3 s4 d4 s5 d5 : ByteArray) (w : World)
  (HC : Hid (∀ (w1 : World) (B : Nat), Below w.heap.size w w1 → Cel w1 B [.bool n0, .string s0, .string d0, .bool n1, .string s1, .string d1, .bool n2, .string s2, .string d2, .bool n3, .string s3, .string d3, .bool n4, .string s4, .string d4, .bool n5, .string s5, .string d5] 28 → Calls Tryz.prog 45 #[.slice (some ⟨B, 0, none⟩) 3 3] w1 (Re w1 (.int .i64 0))))
  (HT : Hid (∀ w1, Calls Tryz.prog 60 #[.agg #[.bool n0, .string s0, .string d0, .bool n1, .string s1, .string d1], .agg #[.bool n2, .string s2, .string d2, .bool n3, .string s3, .string d3], .agg #[.bool n4, .string s4, .string d4, .bool n5, .string s5, .string d5]] w1 (Re w1 (.tuple #[.agg #[.bool false, .slice none 0 0, .bool false, .slice none 0 0, .bool false, .slice none 0 0], .bool false])))) :
  Calls Tryz.prog 22 #[.agg #[.bool n0, .string s0, .string d0, .bool n1, .string s1, .string d1], .agg #[.bool n2, .string s2, .string d2, .bool n3, .string s3, .string d3], .agg #[.bool n4, .string s4, .string d4, .bool n5, .string s5, .string d5]] w (Re w (.tuple #[.agg #[.bool false, .string { data := #[] }, .string { data := #[] }, .bool false, .string { data := #[] }, .string { data := #[] }], .int .i64 6])) := by
 go_enter Tryz.func22, Tryz.ntmps22
 go_wp2_with fail
 obtain ⟨w0, hw, ka, kb, kc, kr, kl, bb⟩ := mk5 w [.bool n0, .string s0, .string d0, .bool n1, .string s1, .string d1] [.bool n2, .string s2, .string d2, .bool n3, .string s3, .string d3] [.bool n4, .string s4, .string d4, .bool n5, .string s5, .string d5] [.bool false, .string { data := #[] }, .string { data := #[] }, .bool false, .string { data := #[] }, .string { data := #[] }] [.bool n0, .string s0, .string d0, .bool n1, .string s1, .string d1, .bool n2, .string s2, .string d2, .bool n3, .string s3, .string d3, .bool n4, .string s4, .string d4, .bool n5, .string s5, .string d5] 28 28 28 28 28
 rw [← hw]
 clear hw
 go_fit (HC.out _ _ bb kl)
 rintro e w1 ⟨rfl, b1⟩
 replace ka := ka.below b1
 replace kb := kb.below b1
 replace kc := kc.below b1
 replace kr := kr.below b1
 replace bb := Below.after bb b1
 clear b1 kl
 obtain ⟨za0, za1, za2, za3, za4, za5⟩ := xk6 ka
 obtain ⟨zb0, zb1, zb2, zb3, zb4, zb5⟩ := xk6 kb
 obtain ⟨zc0, zc1, zc2, zc3, zc4, zc5⟩ := xk6 kc
 go_wp2_with fail
 clear za0 za1 za2 za3 za4 za5 zb0 zb1 zb2 zb3 zb4 zb5 zc0 zc1 zc2 zc3 zc4 zc5
 go_fit (HT.out _)
 rintro e w2 ⟨rfl, b1⟩
 replace kr := kr.below b1
 replace bb := Below.after bb b1
 clear b1
 have kr' := kr.alloc (.cells #[.bool false, .slice none 0 0, .bool false, .slice none 0 0, .bool false, .slice none 0 0] 74)
 obtain ⟨e0, e1, e2, e3, e4, e5⟩ := xk6 kr'
 have f0 := Cel.frozen kr' 0
 have f1 := Cel.frozen kr' 1
 have f2 := Cel.frozen kr' 2
 have f3 := Cel.frozen kr' 3
 have f4 := Cel.frozen kr' 4
 have f5 := Cel.frozen kr' 5
 go_wp2
 replace kr := kr'
 replace bb := Below.after bb (bel_al w2 (.cells #[.bool false, .slice none 0 0, .bool false, .slice none 0 0, .bool false, .slice none 0 0] 74))
 exact post_p1 (p := 6) (u := 7) (v := .int .i64 6) (by kernel_rfl) rfl rfl rfl (kr.set6 _ _ _ _ _ _) ⟨rfl, bset6 bb (by omega) _ _ _ _ _ _⟩
end Go.Proofs.YtiiigiggcbbgjaaGreatDoor
