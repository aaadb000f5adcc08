/-
  Package vec: Plus, Minus, Scale, of any points.
  gussetref03's Of; gussetlaw04's at, short, small.
  Package vec: the determinant of two rows.
-/
import Derived.Test.YtmojdkjpcjfkeaaGreatDoorP39
import Derived.Test.YtmojdkjpcjfkeaaGreatDoorP40
namespace Go.Proofs.YtmojdkjpcjfkeaaGreatDoor
open Go.RowKit
theorem qI_nz (q : Rat) : qI q = .agg #[.bool (nfZ q.num), .string (sfZ q.num), .string (strOf q.den)] := rfl
theorem vplus_ok (n0 n1 n2 n3 : Bool) (s0 d0 s1 d1 s2 d2 s3 d3 : ByteArray) (w : World) (hT : Tab w) (h : two (twoq n0 s0 d0 n1 s1 d1) (twoq n2 s2 d2 n3 s3 d3) = 0) (z0 : s0.size ≤ 4000 ∧ d0.size ≤ 4000) (z1 : s1.size ≤ 4000 ∧ d1.size ≤ 4000) (z2 : s2.size ≤ 4000 ∧ d2.size ≤ 4000) (z3 : s3.size ≤ 4000 ∧ d3.size ≤ 4000) :
  Calls Tryz.prog 46 #[.agg #[.bool n0, .string s0, .string d0, .bool n1, .string s1, .string d1], .agg #[.bool n2, .string s2, .string d2, .bool n3, .string s3, .string d3]] w (Re w (.tuple #[.agg #[.bool (nfZ (qOf n0 s0 d0 + qOf n2 s2 d2).num), .string (sfZ (qOf n0 s0 d0 + qOf n2 s2 d2).num), .string (strOf (qOf n0 s0 d0 + qOf n2 s2 d2).den), .bool (nfZ (qOf n1 s1 d1 + qOf n3 s3 d3).num), .string (sfZ (qOf n1 s1 d1 + qOf n3 s3 d3).num), .string (strOf (qOf n1 s1 d1 + qOf n3 s3 d3).den)], .int .i64 0])) := by
 obtain ⟨h0, h1⟩ := two_zero.1 h
 obtain ⟨c0, c1⟩ := twoq_zero.1 h0
 obtain ⟨c2, c3⟩ := twoq_zero.1 h1
 refine plus_walk n0 n1 n2 n3 _ _ s0 d0 s1 d1 s2 d2 s3 d3 _ _ _ _ 0 w (fun w1 b => ?_)
 refine each_add_ok n0 n1 n2 n3 _ _ s0 d0 s1 d1 s2 d2 s3 d3 _ _ _ _ w1 (fun w2 b2 => ?_) (fun w2 b2 => ?_)
 ·have := qadd_ok n0 n2 s0 d0 s2 d2 w2 ((hT.below b).below b2) (twoq_zero.2 ⟨c0, c2⟩) (Nat.le_refl 4000) z0.1 z0.2 z2.1 z2.2
  rwa [qI_nz] at this
 ·have := qadd_ok n1 n3 s1 d1 s3 d3 w2 ((hT.below b).below b2) (twoq_zero.2 ⟨c1, c3⟩) (Nat.le_refl 4000) z1.1 z1.2 z3.1 z3.2
  rwa [qI_nz] at this
set_option maxRecDepth 100000 in
set_option maxHeartbeats 2000000 in
theorem roq_walk (x : Int) (xN : Bool) (xS : ByteArray) (w : World)
  (H : Hid (∀ w1, Calls Tryz.prog 76 #[.int .i64 x] w1 (Re w1 (.agg #[.bool xN, .string xS])))) :
  Calls Tryz.prog 55 #[.int .i64 x] w (Re w (.agg #[.bool xN, .string xS, .string ⟨#[1]⟩])) := by
 go_enter Tryz.func55, Tryz.ntmps55
 go_wp2_with fail
 go_fit (H.out _)
 rintro e w1 ⟨rfl, b1⟩
 obtain ⟨kr, b1⟩ := al1 b1
 obtain ⟨d0, d1, d2⟩ := xk3 kr
 have f0 := Cel.frozen kr 0
 have f1 := Cel.frozen kr 1
 have f2 := Cel.frozen kr 2
 go_wp2
 exact post_q (p := 2) (by kernel_rfl) rfl rfl (((kr.set 0 _).set 1 _).set 2 _) ⟨rfl, bset (bset (bset b1 (Nat.le_refl _) 0 _) (Nat.le_refl _) 1 _) (Nat.le_refl _) 2 _⟩
theorem roq_any (x : Int) (h1 : -1000 ≤ x) (h2 : x ≤ 1000) (w : World) :
  Calls Tryz.prog 55 #[.int .i64 x] w (Re w (.agg #[.bool (nfZ x), .string (sfZ x), .string ⟨#[1]⟩])) :=
 roq_walk x _ _ w (fun w1 => rof_any x (by omega) (by omega) w1)
def m2 (x0 y0 x1 y1 : Rat) (i j : Nat) : Rat := f2 (f2 x0 y0 j) (f2 x1 y1 j) i
end Go.Proofs.YtmojdkjpcjfkeaaGreatDoor
