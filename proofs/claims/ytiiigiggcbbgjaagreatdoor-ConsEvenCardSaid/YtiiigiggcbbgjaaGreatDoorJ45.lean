/-
  Package vec: Plus, Minus, Scale, walked.
  Package vec: Plus, Minus, Scale, of any points.
-/
import Derived.Test.YtiiigiggcbbgjaaGreatDoorJ38
import Derived.Test.YtiiigiggcbbgjaaGreatDoorJ42
set_option maxRecDepth 100000
set_option maxHeartbeats 4000000
namespace Go.Proofs.YtiiigiggcbbgjaaGreatDoor
open Go.RowKit
theorem plus_walk (n0 n1 n2 n3 xN yN : Bool) (s0 d0 s1 d1 s2 d2 s3 d3 xS xD yS yD : ByteArray) (E : Int) (w : World)
  (H1 : Hid (∀ w1, Below w.heap.size w w1 → Calls Tryz.prog 93 #[.func (.func 100) #[] #[], .agg #[.bool n0, .string s0, .string d0, .bool n1, .string s1, .string d1], .agg #[.bool n2, .string s2, .string d2, .bool n3, .string s3, .string d3]] w1 (Re w1 (.tuple #[.agg #[.bool xN, .string xS, .string xD, .bool yN, .string yS, .string yD], .int .i64 E])))) :
  Calls Tryz.prog 53 #[.agg #[.bool n0, .string s0, .string d0, .bool n1, .string s1, .string d1], .agg #[.bool n2, .string s2, .string d2, .bool n3, .string s3, .string d3]] w (Re w (.tuple #[.agg #[.bool xN, .string xS, .string xD, .bool yN, .string yS, .string yD], .int .i64 E])) := by
 go_enter Tryz.func53, Tryz.ntmps53
 go_wp2_with fail
 go_fit (H1.out _ (ba (ba (ba (Below.refl _ _) _) _) _))
 rintro e w1 ⟨rfl, b1⟩
 obtain ⟨ka, kb, kr, b1⟩ := al3 b1
 have bb := b1
 clear b1
 have f0 := Cel.frozen kr 0
 have r0 := cel6_0 kr
 have f1 := Cel.frozen kr 1
 have r1 := cel6_1 kr
 have f2 := Cel.frozen kr 2
 have r2 := cel6_2 kr
 have f3 := Cel.frozen kr 3
 have r3 := cel6_3 kr
 have f4 := Cel.frozen kr 4
 have r4 := cel6_4 kr
 have f5 := Cel.frozen kr 5
 have r5 := cel6_5 kr
 go_wp2
 exact post_p1 (p := 4) (u := 5) (v := .int .i64 E) (by kernel_rfl) rfl rfl rfl (kr.set6 _ _ _ _ _ _) ⟨rfl, bset6 bb (by omega) _ _ _ _ _ _⟩
theorem scale_walk (n0 n1 n2 xN yN : Bool) (s0 d0 s1 d1 s2 d2 xS xD yS yD : ByteArray) (E : Int) (w : World)
  (H1 : Hid (∀ w1, Below w.heap.size w w1 → Calls Tryz.prog 93 #[.func (.func 99) #[] #[], .agg #[.bool n0, .string s0, .string d0, .bool n1, .string s1, .string d1], .agg #[.bool n2, .string s2, .string d2, .bool n2, .string s2, .string d2]] w1 (Re w1 (.tuple #[.agg #[.bool xN, .string xS, .string xD, .bool yN, .string yS, .string yD], .int .i64 E])))) :
  Calls Tryz.prog 52 #[.agg #[.bool n0, .string s0, .string d0, .bool n1, .string s1, .string d1], .agg #[.bool n2, .string s2, .string d2]] w (Re w (.tuple #[.agg #[.bool xN, .string xS, .string xD, .bool yN, .string yS, .string yD], .int .i64 E])) := by
 go_enter Tryz.func52, Tryz.ntmps52
 go_wp2_with fail
 go_fit (H1.out _ (ba (ba (ba (Below.refl _ _) _) _) _))
 rintro e w1 ⟨rfl, b1⟩
 obtain ⟨ka, kb, kr, b1⟩ := al3 b1
 have bb := b1
 clear b1
 have f0 := Cel.frozen kr 0
 have r0 := cel6_0 kr
 have f1 := Cel.frozen kr 1
 have r1 := cel6_1 kr
 have f2 := Cel.frozen kr 2
 have r2 := cel6_2 kr
 have f3 := Cel.frozen kr 3
 have r3 := cel6_3 kr
 have f4 := Cel.frozen kr 4
 have r4 := cel6_4 kr
 have f5 := Cel.frozen kr 5
 have r5 := cel6_5 kr
 go_wp2
 exact post_p1 (p := 4) (u := 5) (v := .int .i64 E) (by kernel_rfl) rfl rfl rfl (kr.set6 _ _ _ _ _ _) ⟨rfl, bset6 bb (by omega) _ _ _ _ _ _⟩
theorem qI_nz (q : Rat) : qI q = .agg #[.bool (nfZ q.num), .string (sfZ q.num), .string (strOf q.den)] := rfl
theorem vplus_ok (n0 n1 n2 n3 : Bool) (s0 d0 s1 d1 s2 d2 s3 d3 : ByteArray) (w : World) (hT : Tab w) (h : twoc (twoq n0 s0 d0 n1 s1 d1) (twoq n2 s2 d2 n3 s3 d3) = 0) (z0 : s0.size ≤ 4000 ∧ d0.size ≤ 4000) (z1 : s1.size ≤ 4000 ∧ d1.size ≤ 4000) (z2 : s2.size ≤ 4000 ∧ d2.size ≤ 4000) (z3 : s3.size ≤ 4000 ∧ d3.size ≤ 4000) :
  Calls Tryz.prog 53 #[.agg #[.bool n0, .string s0, .string d0, .bool n1, .string s1, .string d1], .agg #[.bool n2, .string s2, .string d2, .bool n3, .string s3, .string d3]] w (Re w (.tuple #[.agg #[.bool (nfZ (qOf n0 s0 d0 + qOf n2 s2 d2).num), .string (sfZ (qOf n0 s0 d0 + qOf n2 s2 d2).num), .string (strOf (qOf n0 s0 d0 + qOf n2 s2 d2).den), .bool (nfZ (qOf n1 s1 d1 + qOf n3 s3 d3).num), .string (sfZ (qOf n1 s1 d1 + qOf n3 s3 d3).num), .string (strOf (qOf n1 s1 d1 + qOf n3 s3 d3).den)], .int .i64 0])) := by
 obtain ⟨h0, h1⟩ := two_zero.1 h
 obtain ⟨c0, c1⟩ := twoq_zero.1 h0
 obtain ⟨c2, c3⟩ := twoq_zero.1 h1
 refine plus_walk n0 n1 n2 n3 _ _ s0 d0 s1 d1 s2 d2 s3 d3 _ _ _ _ 0 w (fun w1 b => ?_)
 refine each_add_ok n0 n1 n2 n3 _ _ s0 d0 s1 d1 s2 d2 s3 d3 _ _ _ _ w1 (fun w2 b2 => ?_) (fun w2 b2 => ?_)
 ·have := qadd_ok n0 n2 s0 d0 s2 d2 w2 ((hT.below b).below b2) (twoq_zero.2 ⟨c0, c2⟩) (Nat.le_refl 4000) z0.1 z0.2 z2.1 z2.2
  rwa [qI_nz] at this
 ·have := qadd_ok n1 n3 s1 d1 s3 d3 w2 ((hT.below b).below b2) (twoq_zero.2 ⟨c1, c3⟩) (Nat.le_refl 4000) z1.1 z1.2 z3.1 z3.2
  rwa [qI_nz] at this
theorem vscale_ok (n0 n1 n2 : Bool) (s0 d0 s1 d1 s2 d2 : ByteArray) (w : World) (hT : Tab w) (h : twoc (twoq n0 s0 d0 n1 s1 d1) (twoq n2 s2 d2 n2 s2 d2) = 0) (z0 : s0.size ≤ 4000 ∧ d0.size ≤ 4000) (z1 : s1.size ≤ 4000 ∧ d1.size ≤ 4000) (z2 : s2.size ≤ 4000 ∧ d2.size ≤ 4000) :
  Calls Tryz.prog 52 #[.agg #[.bool n0, .string s0, .string d0, .bool n1, .string s1, .string d1], .agg #[.bool n2, .string s2, .string d2]] w (Re w (.tuple #[.agg #[.bool (nfZ (qOf n0 s0 d0 * qOf n2 s2 d2).num), .string (sfZ (qOf n0 s0 d0 * qOf n2 s2 d2).num), .string (strOf (qOf n0 s0 d0 * qOf n2 s2 d2).den), .bool (nfZ (qOf n1 s1 d1 * qOf n2 s2 d2).num), .string (sfZ (qOf n1 s1 d1 * qOf n2 s2 d2).num), .string (strOf (qOf n1 s1 d1 * qOf n2 s2 d2).den)], .int .i64 0])) := by
 obtain ⟨h0, h1⟩ := two_zero.1 h
 obtain ⟨c0, c1⟩ := twoq_zero.1 h0
 obtain ⟨c2, -⟩ := twoq_zero.1 h1
 refine scale_walk n0 n1 n2 _ _ s0 d0 s1 d1 s2 d2 _ _ _ _ 0 w (fun w1 b => ?_)
 refine each_mul_ok n0 n1 n2 n2 _ _ s0 d0 s1 d1 s2 d2 s2 d2 _ _ _ _ w1 (fun w2 b2 => ?_) (fun w2 b2 => ?_)
 ·have := qmul_ok n0 n2 s0 d0 s2 d2 w2 ((hT.below b).below b2) (twoq_zero.2 ⟨c0, c2⟩) (Nat.le_refl 4000) z0.1 z0.2 z2.1 z2.2
  rwa [qI_nz] at this
 ·have := qmul_ok n1 n2 s1 d1 s2 d2 w2 ((hT.below b).below b2) (twoq_zero.2 ⟨c1, c2⟩) (Nat.le_refl 4000) z1.1 z1.2 z2.1 z2.2
  rwa [qI_nz] at this
end Go.Proofs.YtiiigiggcbbgjaaGreatDoor
